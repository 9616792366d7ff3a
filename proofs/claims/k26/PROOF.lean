import PyProof.Rows.All
import Wide.All
import OpenK.AllK
import Wide.FinOn
import Lean
import PyProof.EqAt
import PyProof.EqKinds
import PyProof.TupleCall
import PyProof.ZipIter
import PyProof.NeKinds
import PyProof.SeqI3
import PyProof.MaxThree
import PyProof.CompUse
import PyProof.EnumMake
import PyProof.Draws
import PyProof.EnumFor
import PyProof.Rows.EnumRows
import PyProof.DictFindH
import PyProof.DictRoadsH
import PyProof.TupleKey
import PyProof.DictWalks
import PyProof.AttrMissHeap
import KE.KDictOf
import KE.KDictList
import KE.KSortTup
import PyProof.ListRange
import KE.KUnpack
import PyProof.Rows.SetFrom
import KE.KEqDict
import PySem.Challenge.RW_millpath_k26_coverings
set_option maxHeartbeats 4000000
set_option Elab.async false
set_option linter.all false
set_option maxRecDepth 100000
set_option genSizeOf false
set_option bootstrap.genMatcherCode false
local macro_rules | `(tactic| rfl')=>`(tactic| decide +kernel)
noncomputable section
open List renaming length_map->a_,map_cons->c_,getElem?_eq_getElem->e_,getElem?_eq_some_iff->f_,perm_middle->f',length_append->gV,length_cons->g_,mem_cons->h_,size_toArray->i_,mem_cons_of_mem->m_,mem_map->n_,append_assoc->o_,getElem?_map->p_,map_append->q_,perm_append_comm_assoc->s_,take_length->t_,Perm.trans->u_,mem_map_of_mem->v_,mem_append_right->w_,mem_cons_self->x_,mem_singleton->y_,replicate->z_,range->A',length_take->B_,nodup_cons->C_,map_map->D_,getD_eq_getElem?_getD->E_,mem_append->F_,mem_of_getElem?->H_,pairwise_map->I_,eq_nil_of_length_eq_zero->J_,append_nil->J',length_set->KG,cons_append->KH,take_add_one->KI,getLastD_cons->KN,length_reverse->KO,mem_append_left->KP,find?_cons->KQ,length_drop->KU,all_eq_true->KW,getElem_mem->KY,replicate_succ->KZ,length_range->K_,map->K',mem_filter->La,mem_iff_getElem->Lc,not_mem_nil->Ld,cons.inj->Lg,reverse_cons->Li,cons.injEq->Lj,getLastD_eq_getLast?->Lk,take_append_drop->Ll,pairwise_cons->Lo,getElem?_cons_succ->Lp,nodup_append->Lq,nil_append->Lr,any_eq_true->Lu,getElem?_eq_none->Lv,foldl_cons->Lw,getElem?_cons_zero->Lx,map_congr_left->Ly,mem_range->Lz,Perm.swap->LB,filter_cons->LC,zip_cons_cons->LF,any_cons->LH,pairwise_iff_getElem->LJ,getLast?_eq_getElem?->LK,findIdx?_eq_some_iff_getElem->LL,Pairwise.imp_of_mem->LM,getElem?_range->LN,pairwise_singleton->LO,length_nil->LP,flatten_cons->LU,map_nil->LX,nodup_nil->LY,perm_append_comm->LZ,Perm.append_left->L0,length_filter_le->L4,lookup_cons->L9,mem_reverse->L_,pairwise_append->Mc,all_cons->Md,range_succ->Mf,getElem?_take_of_lt->Mg,all_map->Mh,set_eq_of_length_le->Mj,Perm.cons->Ml,ext_getElem?->Mn,take_of_length_le->Mq,append_eq_nil_iff->Mr,length_pos_of_mem->Ms,countP_cons->Mt,length_replicate->Mv,length_singleton->Mw,singleton_append->Mx,eraseIdx_sublist->Mz,getElem?_set_ne->MA,set_set->MD,any_map->ME,filterMap_cons->MH,length_pos_iff->MK,flatMap_append->ML,set_cons_succ->MM,filter_append->MN,length_eraseIdx_of_lt->MS,map_drop->MT,map_take->MU,Pairwise.nil->MV,foldl_append->MW,reverse_perm->MX,getElem?_append_left->MZ,findIdx?_eq_none_iff->M1,length_erase_of_mem->M7,map_reverse->M8,eraseIdx_cons_succ->M9,length_eraseIdx_le->M_,of_mem_zip->M',forIn_cons->Na,Perm->Nc,getElem?_set_self->Nf,map_id->Nh,pairwise_lt_range->Ni,drop_eq_nil_of_le->Nj,forIn_nil->Nl,getElem?_zipWith->Nm,mem_iff_getElem?->Nn,mem_of_mem_drop->Np,mem_of_mem_take->Nq,length_eraseIdx->Nr,mem_erase_of_ne->Nt,take_nil->Nv,length_zipWith->Nz,map_eq_nil_iff->NA,mem_filterMap->NB,mapM_toArray->NL,length->NO,filter->NP,getElem_inj->NQ,zipIdx_cons->NS,range'_succ->NV,flatMap_def->NW,drop_length->NX,foldl->NY,zipIdx_nil->NZ,zip_append->N1,filter_nil->N2,drop_nil->N7,map_id'->Oa,zipWith->Og,range'->Oo
open Nat renaming le_refl->b_,ne_of_lt->j',lt_of_lt_of_le->A_,le_trans->B',zero_le->F',le_of_lt->KR,lt_of_le_of_lt->Lb,add_le_add_right->Le,lt_irrefl->Lf,zero_add->Lh,le_of_not_lt->Lm,pos_of_ne_zero->Ln,succ_le_succ->LA,ne_of_gt->LD,succ.inj->LG,min_eq_left->LQ,le_succ->LR,lt_succ_of_lt->LW,succ_pos->L3,le_of_ble_eq_true->L6,max_eq_right->L',lt_succ_self->Mb,le_antisymm->Me,lt_of_le_of_ne->Mi,le_sub_one_of_lt->MB,not_lt->MC,add_le_add_left->MI,add_lt_add_left->MJ,le_succ_of_le->MY,sub_le->M0,lt_trans->M3,le_of_eq->M4,min_self->M5,not_lt_of_le->M6,eq_or_lt_of_le->NG,le_of_lt_succ->NJ,add_sub_assoc->NK,le_add_right->NT,le_add_left->N0,mul_le_mul->N5,add_zero->N_,sub_zero->Ob,lt_or_ge->Oe,mul_succ->Of,one_pos->Om,sub_lt->Oq,mod_lt->Ot,max_le->Ou
open Int renaming toNat_natCast->KS,add_zero->Ls,zero_add->L5,emod_lt_of_pos->Mk,emod_nonneg->MF,fdiv_eq_ediv_of_nonneg->MO,fmod_eq_emod_of_nonneg->MP,add_assoc->Ny,lt_trichotomy->NN,min_comm->Oh,max_comm->Oi,mul_comm->Oj,ne_of_lt->Ol,toNat->Ov
open Option renaming some.inj->C',map->Ma,some.injEq->Mm,map_eq_some_iff->Mo,bind_some->Mu,some->Ng,isSome_some->NC,isNone_some->ND,isNone_none->NF,isSome_map->NI,getD_none->NR
open Bool renaming false_eq_true->mo,and_eq_true->G',false_ne_true->KL,true_and->LI,eq_false_iff->LV,beq_eq_decide_eq->My,or_eq_false_iff->MG,false_or->MQ,eq_iff_iff->Nd,false_and->Nk,and_eq_true_iff->Nu,and_true->Nw,and_false->N3,not_false->N4,or_false->N6,not_true->N8
open Array renaming getElem?_eq_getElem->k_,length_toList->l_,getElem?_toList->r_,getElem?_eq_none->KJ,getD_eq_getD_getElem?->L7,perm_iff_toList_perm->MR,Perm.refl->Nb,toList_push->NM,toList_map->NU,toList->N9
open Or renaming inl->d_,inr->j_
open Prod renaming ext->L8,ext_iff->NH
open Eq renaming trans->Ow
open Decidable renaming of_not_not->WA
open False renaming elim->ON
open ForInStep renaming yield->PJ,done->Qb
open Function renaming comp->Xf
open Ne renaming symm->Qv
open PyProof renaming noPylong_small->SX
open PyProof.Rows renaming arrOf->OH,wpS_bind->OV,SortSt->OW,Keyed->O9,wpS_pure->Pa,pendingOf->Pb,seqObj->Pd,callWith_type1->PZ,IntsAre->P1,SortKind->Qd,wpS_forRange->Qe,failedOf->Qk,slot_tuple_getitem->QM,wpS_mono->QY,reverseSlice'->Q2,subscriptTail->Rx,AllBare->RB,envOfC->RK,assignInOrder_cons->RZ,countRun'->R1,keyKind'->Sw,entry_list_sort->SV,subscriptTail_builtinR->S0,wpS_get->Tb,minRun'->Tc,slot_list_sort->Ti,args_list_sort->Tj,wpS_lift->Tv,getElem?_mirror_all->TL,plain_sorted->T7,entry_sorted->T8,args_sorted1->T9,assignInOrder_nil->Ub,kind_sorted->Us,oneType'->UI,callWith_builtin1->UN,Subscript_->UP,bubble->UY,getElem?_bubble->UZ,ltAt'->U0,wpS_modify->U1,get?_update_seq->U7,slicePart_none->Vd,tuples'->Vl,listUpdate_at->VD,IsTup->VE,minRun'_succ->VY,binarySort'->Wj,seqEpoch_at->Wn,Call_->Wu
open PyProof.Rows.F renaming plain_set_update_loop->Rq,entry_set_update_loop->SH
open PyProof.Rows.IsTup renaming new->TV
open PyProof.Rows.SortSt renaming mk'->Sj
open PySem renaming wpAny_bind->Ox,Value->Oy,Addr->Oz,Shared->OB,wpAny_pure->OC,wpAny->OE,Program->OI,model->OJ,World->OK,Expr->OL,Heap->OM,starEach->OO,Around->OP,FuncData->OR,wpAny_holding->OS,wpAny_newObj_type->OU,compareOp->OX,Stmt->OY,sysModules->O0,eval->O1,wpAny_mono->O4,wpAny_call_entry->O5,wpAny_callSpecial?_slot->O',wpAny_dictEntries->Pf,wpAny_ite_split->Pg,intItems->Ph,rawInt->Pl,SetTable->Pm,Builtin->Pn,assignEach->Po,wpAny_pyIter_tuple->Pp,mainGlobals->Pu,foldedSetIterable->Pw,wpAny_field->Py,Scope->PC,binaryOp->PD,codeAny_builtin->PK,tupleKind->PN,wpAny_rule->PQ,wpAny_setField->PR,wpAny_truthy_bool->PX,wpAny_pyIter_list->PY,mem_of_lookup->P0,IsPair->P6,wpAny_attempt->P7,wpAny_Call_Name_kw->P_,wpAny_seqItems->P',plainId_quiet->Qf,wpAny_typeNameOfWhole_keyiter->Qg,pyNext->Qh,firstArgMember->Qi,wpAny_isInstance->Qj,bootBuiltins->Ql,codeAny_mono->Qm,tupleKind_room_in1->Qo,DictEntry->Qp,wpAny_setField_rec->Qq,wpAny_passesOwn->Qw,codeAny->Qx,wpAny_notOrdered_dict->Qy,wpAny_setState_of->QA,Paired->QE,backTo->QF,NameKind->QG,intKind->QN,wpAny_standAt->QO,fits_of_scanBound->QR,holding->QS,call_meets->QU,IsZip->QV,numAt->QX,behindInMarks->QZ,wpAny_newList->Q0,sliceBounds->Q3,wpAny_of_eq->Q4,wpAny_letGo->Q5,wpAny_specialOf->Q9,wpAny_dictEpoch->Q_,swapsWith->Ra,assign->Rb,wpAny_typeOf->Rf,Model->Rk,storedH->Rn,intItems_at->Rw,attributeBase->Ry,comprehension->RA,builtinLookup_eq_fast->RD,entryOfKey->RG,wpAny_execs_nil->RH,letOwnedTupleGo->RI,pyIter->RJ,wpAny_updateSeq_pair->RL,wpAny_setEntries_of->RQ,getItem->RS,isSubtype_stop->RU,wpAny_fieldsOf->RV,isSubtype_type->RX,subscripted->RY,assignInOrder->R4,swapsWithSole->R5,swappedStores->R6,wpAny_handled->R9,wpAny_onRaise->R_,Comprehension->R',wpAny_pyIter_slot->Sd,wpAny_setEpoch_of->Se,wpAny_load->Sf,wpAny_missedRemoval_other->Sh,valueAt->Sl,callerA->Sm,ItemsOf->Sn,noFill_tuple_add->So,IsPart->Sr,Params->Ss,newExc->Su,relayAll->Sx,wpAny_askSetting->Sy,CmpOp->SM,atKey->SN,seqItems?->SQ,typeLookup_type->SR,wpAny_updateSeq->SS,wpAny_pyNext_list_item->SW,wpAny_throw->S3,codeAny_compStart_list->S4,wpAny_pyNext_list_end->S7,BindsTo->S8,Keyword->S9,getitemInPython_of_ne->S_,wpAny_isOneOf_keyiter->Ta,wpAny_runValue->Te,builtinsNs->Tn,bindL->To,bindC->Tp,wpAny_letTemporaryGo->Tr,field->Ts,wpAny_newFunctionEnv->Tt,codeAny_extend_loopS->Tu,wpAny_pyIter_keyiter->Tw,intKind_is->TB,seq_tuple_add->TF,wpAny_dictFind_heap->TM,isTrue->TU,PassesOwn->TY,lastMarks->TZ,wpAny_List_spliced->T1,concat_meets->T2,seqIndex_neg->T3,getattributeRaised->T4,call_meetsIn->T5,collect->T',wpAny_assign_Name->Ua,wpAny_pyIter_enum->Ug,wpAny_storeSet_of->Uj,seqIndex_of->Um,keywordEach->Uo,wpAny_eqBool_int->Ut,GenState->Uu,wpAny_execs_cons->Uv,bindName->Uw,newTuple->Uy,raiseNew->Uz,wpAny_comp_letGo->UC,wpAny_pyIter_zip->UD,entryFor->UG,entryFor_of_tree->UH,HeapKind->UJ,wpAny_Name->UL,Result->UM,typeLookup->UO,call_tuple_same->UQ,typeIs_int->UR,wpAny_operating->UT,call->UU,argsOk->U2,codeAny_of_tree->U5,checkCount->U8,size_of_entries->U9,setItem->U',standAt->Va,wpAny_bindName->Vb,fitsIndex_both->Ve,letTemporaryGo->Vg,wpAny_newTuple->Vh,argBest->Vj,callType_codes->Vk,entryFor_alias->Vm,setNext->Vn,cellsFrom->Vp,seqIndex?->Vq,intBits_le_64->Vs,evalPart_none->Vu,call_list_seq->Vv,wpAny_standIf->Vx,signature?_of->VB,Drawn->VF,bindArgs->VL,Slot->VM,typeOf->VN,backToKw->VO,callType_new->VQ,IsEnum->VT,setAddHashed->V1,wpAny_mkInt->V_,interactive->V',IsRangeIter->Wa,unsupported->Wk,idxH_unique->Wm,operate->Wo,newList->Wq,MeetsIn->Ws,table->Wx,Walks->Wz
open PySem.Around renaming under_plainId->Pq
open PySem.AutoListH renaming list___mul___list_int_3->Uq
open PySem.AutoSeq1 renaming wpAny_loadPart'->QJ,list_insert_list_int_val_1->T_,list_extend_list_list_0->Ux,list_reverse_list_0->Vf
open PySem.Builtin.Dict renaming showsAll->RC,keyAndDefault->Sa,dictSlotArgs->Sk,updateFrom->SD,samePairs->S6,takeOut->Tx,dictSlotNone->VH,pendingCount->VI,addKeywords->VU,selfAndRest->VX,pairItems->Wg
open PySem.Builtin.Dict_items renaming ownsTuple->RW
open PySem.Builtin.Frozenset renaming updateFrom->Vo,newClass->VC,sizeOf->V3,slot0->V6
open PySem.Builtin.List renaming listLengthHint->Qr,listExtendWith->Qs,listTooLong->QI,listSameRef->QK,listFitsIndex->R8,listUpdate->V7
open PySem.Builtin.Range renaming rangeSize->V4
open PySem.Builtin.Slice renaming slicePlaces->QB,sliceAdjust->Q8,sliceApplied->R7,slicePartIndex->Vc,sliceFields->VG
open PySem.Builtin.SmallTypes renaming nextOf->O8,ownedTupleIsFree->PU,ownedTupleHandOut->Rg
open PySem.Builtin.Str renaming occurrences->SA
open PySem.Builtin.Tuple renaming tupleExact->QH,tupleItemsOf->Vt
open PySem.Calls renaming spliced_cons->P9,call_function_entry->QC,callWith_builtin->Rv,Name_function_global->R3,evalArgs_plain->Tq,spliced_nil->Uc
open PySem.Data renaming cell->SK,fields->Ul,seq->VP
open PySem.Env renaming kindOf->UW
open PySem.F renaming slot_dict_keyiterator_next->PV,slot_tuple_iterator_next->Qz,called_set->QL,args_tuple_add_2->Rc,slot_list_getattribute->Rh,slot_list_append->Ri,type_list_append->Rj,entry_tuple_add->Ro,plain_list_iadd->Rr,slot_tuple_add->Ru,slot_dict_pop->RF,slot_zip_next->RM,args_dict_keyiterator_next_1->RN,entry_dict_keyiterator_next->RP,args_tuple_iterator_next_1->RT,entry_tuple_iterator_next->R0,slot_dict_getitem->Sg,plain_extend_loop->Si,plainAttrs_list->SE,args_dict_pop_3->SF,entry_dict_pop->S5,slot_dict_len->Td,entry_proto_collect->Tf,plain_proto_collect->Tg,slot_dict_eq->TC,args_zip_next_1->Ud,entry_list_iadd->Uh,entry_zip_next->UA,slot_dict_iter->UE,slot_int_rmul->US,slot_set_iter->U4,plain_set_new->U6
open PySem.Flow renaming next->WL
open PySem.Heap renaming get?_push_of_some->OD,get?_push_size->OF,lt_size->OG,get?_update_self->O6,size_push->Pc,SameBut->Pe,get?_update_other->P5,ExtBut->QP,get?_update_ne->Q7,push->RE,DictOfH->RO,IsTuple->Sv,get?_push_ne->Uk,IsList->Ur
open PySem.Heap.DictOf renaming new->W9
open PySem.Heap.DictOfH renaming typeIs->TN,new->W4
open PySem.Heap.IsList renaming push->UB,extBut->WN
open PySem.Heap.IsListIter renaming extBut->Wf
open PySem.Heap.IsRevIter renaming typeIs->Wr
open PySem.Heap.IsSliceOf renaming new->WM
open PySem.Heap.IsTuple renaming push->Ue,extBut->WG
open PySem.Heap.IsTupleIter renaming extBut->V5
open PySem.Heap.SameBut renaming update->O2,refl->WX
open PySem.IsL renaming update->WZ
open PySem.Manifest renaming sig_set_iterator->VJ,owners->W'
open PySem.MeetsSeq renaming list_pop_at->Wv
open PySem.NameKind renaming free->P8,cell->Xc
open PySem.Obj renaming data_mapFields->O7,mapSeq->O_,isFreed_of_fields->Qa,cls_mapFields->QQ,mapFields->Q1,data_mapDictKeys->Tz,putSet->U3
open PySem.Paired renaming length->PH,snoc->We
open PySem.PassesOwn renaming never->OQ
open PySem.SeqAt renaming EqAt->QW,RcAt->UX,RcNeAt->VR
open PySem.SeqAt.EqAt renaming same->SJ,int_none->WB,str_none->WC,none_int->WD,none_str->WE,int_str->WJ,str_int->WK,of_refs->WO
open PySem.SeqAt.RcAt renaming lists_lengths->VS,tuples->WT,lists->W0
open PySem.SeqAt.RcNeAt renaming lists_lengths->Vy,tuples->WH,lists->WQ
open PySem.SetTable renaming below->O3,grown->QD,sizeAbove->T6,slot->VA,toList_insertAt->VZ,has->V0,orStandIn->WR,insertAt->WU,freeSlot->WV,layClean->WW,advance->W5,relaid->W_,Probe->Xb,laid->Xd,fits->Xe
open PySem.SetTable.below renaming go->Rt
open PySem.SetTable.probe renaming go->Ui
open PySem.Shared renaming heap->Q6
open PySem.Str renaming ofString->P4
open PySem.StrLaws renaming seqIndex_nonneg->U_
open PySem.Value renaming ref->OT,none->Pj,type->Pz,int->QT,str->TR,bool->UK,isStrOf->Vr,builtin->Vz,isInt->V8
open PySem.W renaming Frag->OA,fnOf->Qn,keepIn->Rm,codeIn->RR,methodObj->Sb,nsIn->Sz,OpenLaw->SO,kat_nil->SU,cellsFrom_some->SY,mg_of->TH,kHook->TJ,kitAny->Vi,WalkO->Vw
open PySem.W.Hook renaming keeps->WS,says->WY,obs->W6,val->W7,of->Xa
open PySem.W.KatTups renaming cons->Wy,nil->WI
open PySem.W.XL renaming keeps->W8
open PySem.Walks renaming tuple->Wh,list->Ww
open PySem.pickOrder renaming go->V2
open Std.Legacy.Range renaming forIn_eq_forIn_range'->TQ,size->Wt
open Sum renaming inr->OZ,inl->Qu
open Sum.inl renaming inj->V9
open True renaming intro->Qc
namespace L2
open PySem PySem.Spec PyProof.Rows
abbrev Key:=Sum Int (Option Str)
noncomputable def sd:Key->Oy->Bool
 | .inl k,v=>V8 k v
 | .inr (some x),v=>Vr x v
 | .inr none,.none=>true
 | .inr none,_=>false
noncomputable def Kl(w:OK):Key->Int
 | .inl k=>hashInt k
 | .inr (some x)=>hashStr w x
 | .inr none=>4238894112
theorem fF:∀{k:Key}{v:Oy},sd k v=true->(∃i t,k=Qu i/\v=QT i t)\/(∃x t,k=OZ (some x)/\v=TR x t)\/(k=OZ none/\v=Pj)
 | .inl i,v,h=>by obtain⟨t,e⟩:=Value.isInt_shape (k:=i) (v:=v) h;exact .inl ⟨i,t,rfl,e⟩
 | .inr (some x),v,h=>by obtain⟨t,e⟩:=Value.isStrOf_shape (x:=x) (v:=v) h;exact .inr (.inl ⟨x,t,rfl,e⟩)
 | .inr none,v,h=>by cases v <;> first|exact .inr (.inr ⟨rfl,rfl⟩)|cases h
theorem zU(i:Int)(t:Tok):sd (.inl i) (.int i t)=true:=by simp[sd,V8]
theorem A2(x:Str)(t:Tok):sd (.inr x) (.str x t)=true:=by simp[sd,Vr]
theorem Ga(a b:Int):decide ((Qu a:Key)=Qu b)=(a == b):=by
 by_cases e:a=b
 ·subst e;simp
 have h:¬(Qu a:Key)=Qu b:=fun q=>e (V9 q);rw[decide_eq_false h];exact(beq_eq_false_iff_ne.mpr e).symm
theorem HX(a b:Str):decide ((OZ (some a):Key)=OZ (some b))=decide (a=b):=by
 by_cases e:a=b
 ·subst e;simp
 have h:¬(OZ (some a):Key)=OZ (some b):=fun q=>e (C' (Sum.inr.inj q));rw[decide_eq_false h,decide_eq_false e]
variable {A:OP}{E:Oy->OB->Prop}{s:OB}{w:OK}
theorem BH{prog:OI}{Q:Int->OB->Prop}(h:Q 4238894112 {s with toks:=s.toks+1}):OE (OJ prog w) A (PySem.pyHash .none) Q E s:=
 PySem.W.pyHash_slot (T:="NoneType") rfl F.slot_NoneType_hash F.entry_NoneType_hash (F.args_NoneType_hash_1 _) (beq_builtin_none _) (.inl rfl) (Ox (OC (Ox (V_ (OC ⟨_,_,rfl,h⟩)))))
def bx(prog:OI)(w:OK):PySem.KeyKind prog w Key where
 is:=sd
 hash:=Kl w
 inj:=fun v a b ha hb=>by rcases fF ha with⟨i,t,rfl,rfl⟩|⟨x,t,rfl,rfl⟩|⟨rfl,rfl⟩ <;> rcases fF hb with⟨j,u,rfl,e⟩|⟨y,u,rfl,e⟩|⟨rfl,e⟩ <;> cases e <;> rfl
 byValue:=fun k v h=>by rcases fF h with⟨i,t,rfl,rfl⟩|⟨x,t,rfl,rfl⟩|⟨rfl,rfl⟩ <;> rfl
 pyHash:=fun hv h=>by
  rcases fF hv with⟨i,t,rfl,rfl⟩|⟨x,t,rfl,rfl⟩|⟨rfl,rfl⟩
  ·exact wpAny_pyHash_int h
  ·exact wpAny_pyHash_str h
  exact BH h
 eqBool:=fun hu hv h=>by
  rcases fF hu with⟨i,t,rfl,rfl⟩|⟨x,t,rfl,rfl⟩|⟨rfl,rfl⟩ <;> rcases fF hv with⟨j,u,rfl,rfl⟩|⟨y,u,rfl,rfl⟩|⟨rfl,rfl⟩
  ·rw[Ga]at h;exact Ut h
  ·exact WJ i t y u _ _ _ _ h
  ·exact WB i t _ _ _ _ h
  ·exact WK x t j u _ _ _ _ h
  ·rw[HX]at h;exact wpAny_eqBool_str h
  ·exact WC x t _ _ _ _ h
  ·exact WD j u _ _ _ _ h
  ·exact WE y u _ _ _ _ h
  exact SJ _ _ _ _ _ h
 «strs»:=fun k x t v h=>by
  rcases fF h with⟨i,u,rfl,e⟩|⟨y,u,rfl,e⟩|⟨rfl,e⟩
  ·exact nomatch e
  ·injection e with e1 _
   subst e1;cases v <;> rfl
  exact nomatch e
theorem uD(prog:OI)(w:OK)(i:Int)(t:Tok):(bx prog w).is (.inl i) (.int i t)=true:=zU i t
theorem uL(prog:OI)(w:OK)(x:Str)(t:Tok):(bx prog w).is (.inr x) (.str x t)=true:=A2 x t
inductive V where
 |non|bl (b:Bool)|int (i:Int)|str (x:Str)|byt (b:Array UInt8)|flt (b:UInt64)|ref (a:Oz)|ty (n:String)
 deriving DecidableEq
set_option genInjectivity false
noncomputable def RelV:V->Oy->Prop
 | .non,u=>u=Pj
 | .bl b,u=>u=UK b
 | .int i,u=>∃t,u=QT i t
 | .str x,u=>∃t,u=TR x t
 | .byt b,u=>∃t,u=Value.bytes b t
 | .flt b,u=>∃t,u=Value.float b t
 | .ref a,u=>u=OT a
 | .ty n,u=>u=Pz n
abbrev Vals:List V->List Oy->Prop:=QE RelV
variable {us:List Oy}{xs:List V}
theorem Vals.length (r:Vals xs us):xs.length=us.length:=PH r
theorem Vals.get:∀{xs:List V}{us:List Oy}{i:Nat}{x:V},Vals xs us->xs[i]?=some x->∃u,us[i]?=some u/\RelV x u
 | _,_,_,_,.nil,e=>by simp at e
 | _,_,0,_,.cons r _,e=>by simp at e;subst e;exact⟨_,rfl,r⟩
 | _,_,i+1,x,.cons _ t,e=>by obtain⟨u,h1,h2⟩:=Vals.get (i:=i) (x:=x) t (by simpa using e);exact⟨u,by simpa using h1,h2⟩
variable {u:Oy}
theorem Vals.set {x:V}(r:RelV x u):∀{xs:List V}{us:List Oy} (i:Nat),Vals xs us->Vals (xs.set i x) (us.set i u)
 | _,_,_,.nil=>.nil
 | _,_,0,.cons _ t=>.cons r t
 | _,_,i+1,.cons q t=>.cons q (Vals.set r i t)
theorem Vals.append:∀{xs ys:List V}{us ws:List Oy},Vals xs us->Vals ys ws->Vals (xs++ys) (us++ws):=by
 intro xs ys us ws x s;induction x with
 |nil=>exact s
 |cons r t ih=>exact .cons r ih
theorem Vals.take:∀{xs:List V}{us:List Oy} (n:Nat),Vals xs us->Vals (xs.take n) (us.take n)
 | _,_,0,_=>.nil
 | _,_,_+1,.nil=>.nil
 | _,_,n+1,.cons r t=>.cons r (Vals.take n t)
theorem Vals.drop:∀{xs:List V}{us:List Oy} (n:Nat),Vals xs us->Vals (xs.drop n) (us.drop n)
 | _,_,0,r=>r
 | _,_,_+1,.nil=>.nil
 | _,_,n+1,.cons _ t=>Vals.drop n t
def qy:Option V->Option Oy->Prop
 |some v,some u=>RelV v u
 |none,none=>True
 | _,_=>False
def KV{κ:Type}:List (κ×V)->List (κ×Oy)->Prop:=QE fun(p:κ×V) (q:κ×Oy)=>p.1=q.1/\RelV p.2 q.2
noncomputable def kV:Key->V
 | .inl i=>.int i
 | .inr (some x)=>.str x
 | .inr none=>.non
inductive HO where
 |lst (xs:List V)
 |tup (xs:List V)
 |dK (kvs:List (Key×V))|dT (kvs:List (List Key×V))
 |set (S:Int->Bool) (n:Nat)
 |ins (C dx:Oz) (fs:List (Str×V))
 |own (x:Oz)
 |xd (fs:List (Str×V))
 |met (f x:Oz)
 |rng (lo hi:Int)
 |frz (o:Obj) (u:HO)
 |tbl (ps:Array Oy)
 |ext (φ:OM->Prop)
abbrev Hp:=Oz->Option HO
noncomputable def upd(H:Hp)(a:Oz)(o:HO):Hp:=fun b=>if b=a then some o else H b
variable {H:Hp}{a:Oz}{o:HO}
theorem aO:upd H a o a=some o:=by unfold upd;rw[if_pos rfl]
variable {b:Oz}
theorem aG(h:b≠a):upd H a o b=H b:=by unfold upd;rw[if_neg h]
theorem Fc{u:HO}:upd (upd H a o) a u=upd H a u:=by funext b;unfold upd;split <;> rfl
theorem yo{u:HO}(h:H a=some o)(h':H b=some u)(d:o≠u):a≠b:=by intro e;subst e;rw[h]at h';exact d (C' h')
theorem cI(h:H a=some o)(h':H b=none):a≠b:=by intro e;subst e;rw[h]at h';cases h'
section
variable(P:OI)(w:OK)
def bC(H:Hp)(h:OM)(a:Oz):HO->Prop
 | .lst xs=>xs.length<=sizeLine/\∃(be:List Oy) (n:Nat),Vals xs be/\h.get? a=some { cls:=.type "list",data:=.seq be.toArray n}
 | .tup xs=>xs.length<=sizeLine/\∃be:List Oy,Vals xs be/\VE h a be.toArray
 | .dK kvs=>kvs.length<=sizeLine/\(a == O0)=false/\∃vs,KV kvs vs/\h.DictOf (bx P w) a vs
 | .dT kvs=>kvs.length<=sizeLine/\(a == O0)=false/\∃xs:List (List Key×Oz×Oy),
   QE (fun(p:List Key×V) (q:List Key×Oz×Oy)=>p.1=q.1/\H q.2.1=some (.tup (p.1.map kV))/\RelV p.2 q.2.2) kvs xs/\
   ∃o es ep,h.get? a=some o/\o.ExactDict/\o.data=.dict es ep/\es.toList=xs.map (RG (PN (bx P w)))/\(xs.map (·.1)).Nodup
 | .set S n=>h.SetOf (QN P w) a S n
 | .ins C dx fs=>H dx=some (.own a)/\fs.length<=1000/\dx≠a/\h.get? a=some (PySem.W.instObj C dx)/\
   ∃mA,h.Ns1 dx mA/\(∀f,qy (fs.lookup f) (mA f))/\PySem.Within mA (fs.map (·.1))
 | .own _=>∃o,h.get? a=some o
 | .xd fs=>∃mA,h.Ns1 a mA/\∀f,qy (fs.lookup f) (mA f)
 | .rng lo hi=>∃t u v,h.get? a=some { cls:=.type "range",data:=.fields #[.int lo t,.int hi u,.int 1 v] }
 | .frz o u=>h.get? a=some o/\bC H h a u
 | .tbl ps=>h.get? a=some { cls:=.none,data:=.fields ps}
 | .met f x=>h.get? a=some (Sb (.ref f) (.ref x))
 | .ext φ=>φ h/\(∃o,h.get? a=some o)/\∀h1 h2:OM,φ h1->(∀o,h1.get? a=some o->h2.get? a=some o)->φ h2
def HOk(H:Hp)(h:OM):Prop:=∀a o,H a=some o->bC P w H h a o
end
section
variable{P:OI}{w:OK}{H H':Hp}{h h':OM}{a:Oz}{o:HO}
theorem bC.lt (x:bC P w H h a o):a<h.objs.size:=by
 cases o with
 |lst xs=>obtain⟨_,_,_,_,e⟩:=x;exact OG e
 |tup xs=>obtain⟨_,_,_,p⟩:=x;exact p.lt
 |dK kvs=>obtain⟨_,_,_,_,o,_,_,e,_⟩:=x;exact OG e
 |dT kvs=>obtain⟨_,_,_,_,o,_,_,e,_⟩:=x;exact OG e
 |set S n=>obtain⟨o,_,_,_,e,_⟩:=x;exact OG e
 |ins C dx fs=>obtain⟨_,_,_,e,_⟩:=x;exact OG e
 |own y=>obtain⟨_,e⟩:=x;exact OG e
 |xd fs=>obtain⟨_,⟨_,_,_,e,_⟩,_⟩:=x;exact OG e
 |rng lo hi=>obtain⟨_,_,_,e⟩:=x;exact OG e
 |frz ob u=>obtain⟨e,_⟩:=x;exact OG e
 |tbl ps=>exact OG (show h.get? a=some _ from x)
 |met f y=>exact OG (show h.get? a=some _ from x)
 |ext φ=>obtain⟨_,⟨_,e⟩,_⟩:=x;exact OG e
theorem Paired.Im {α β:Type}{F G:α->β->Prop}:∀{l₁:List α}{l₂:List β},QE F l₁ l₂->(∀a b,F a b->G a b)->QE G l₁ l₂:=by
 intro l₁ l₂ x f;induction x with
 |nil=>exact .nil
 |cons r t ih=>exact .cons (f _ _ r) ih
theorem bC.qk (x:bC P w H h a o)(k:∀b u,(b=a\/H b=some (.own a))->h.get? b=some u->h'.get? b=some u)
  (ho:∀b,H b=some (.own a)->H' b=some (.own a)) (ht:∀b xs,H b=some (.tup xs)->H' b=some (.tup xs)):bC P w H' h' a o:=by
 induction o with
 |lst xs=>obtain⟨z,be,n,r,e⟩:=x;exact⟨z,be,n,r,k _ _ (.inl rfl) e⟩
 |tup xs=>obtain⟨z,be,r,ob,e,c⟩:=x;exact⟨z,be,r,ob,k _ _ (.inl rfl) e,c⟩
 |dK kvs=>obtain⟨z,y,vs,r,ob,es,ep,e,c⟩:=x;exact⟨z,y,vs,r,ob,es,ep,k _ _ (.inl rfl) e,c⟩
 |dT kvs=>
  obtain⟨z,y,xs,r,ob,es,ep,e,c⟩:=x;exact⟨z,y,xs,Paired.Im r fun p q z=>⟨z.1,ht _ _ z.2.1,z.2.2⟩,ob,es,ep,k _ _ (.inl rfl) e,c⟩
 |set S n=>obtain⟨ob,es,ep,t,e,c⟩:=x;exact⟨ob,es,ep,t,k _ _ (.inl rfl) e,c⟩
 |ins C dx fs=>
  obtain⟨d,z,ne,e,mA,⟨od,es,ep,e2,c⟩,r⟩:=x;exact⟨ho _ d,z,ne,k _ _ (.inl rfl) e,mA,⟨od,es,ep,k _ _ (.inr d) e2,c⟩,r⟩
 |own y=>obtain⟨ob,e⟩:=x;exact⟨ob,k _ _ (.inl rfl) e⟩
 |xd fs=>obtain⟨mA,⟨od,es,ep,e,c⟩,r⟩:=x;exact⟨mA,⟨od,es,ep,k _ _ (.inl rfl) e,c⟩,r⟩
 |rng lo hi=>obtain⟨t,u,v,e⟩:=x;exact⟨t,u,v,k _ _ (.inl rfl) e⟩
 |frz ob u ih=>obtain⟨e,q⟩:=x;exact⟨k _ _ (.inl rfl) e,ih q⟩
 |tbl ps=>
  have e:h.get? a=some { cls:=.none,data:=.fields ps}:=x;show h'.get? a=some { cls:=.none,data:=.fields ps};exact k a _ (.inl rfl) e
 |met f y=>
  have e:h.get? a=some (Sb (.ref f) (.ref y)):=x;show h'.get? a=some (Sb (.ref f) (.ref y));exact k a _ (.inl rfl) e
 |ext φ=>obtain⟨p,⟨o,e⟩,st⟩:=x;exact⟨st _ _ p fun o q=>k _ _ (.inl rfl) q,⟨o,k _ _ (.inl rfl) e⟩,st⟩
theorem HOk.lt (x:HOk P w H h)(e:H a=some o):a<h.objs.size:=(x a o e).lt
theorem HOk.fresh (x:HOk P w H h)(e:h.objs.size<=a):H a=none:=by
 cases q:H a with
 |none=>rfl
 |some u=>exact absurd (A_ (x.lt q) e) (Lf _)
theorem HOk.kept (x:HOk P w H h)(k:∀b u,h.get? b=some u->h'.get? b=some u):HOk P w H h':=fun a o e=>
 (x a o e).qk (fun b u _ q=>k b u q) (fun _ q=>q) fun _ _ q=>q
theorem HOk.laid (x:HOk P w H h)(k:∀b u,h.get? b=some u->h'.get? b=some u)(hp:h.objs.size<=a)(new:bC P w (upd H a o) h' a o):HOk P w (upd H a o) h':=fun b u e=>by
 have hn:=x.fresh hp;by_cases hb:b=a
 ·subst hb;rw[aO]at e;cases e;exact new
 rw[aG hb]at e;exact(x b u e).qk (fun c v _ q=>k c v q) (fun c q=>by rw[aG (cI q hn)];exact q) fun c xs q=>by rw[aG (cI q hn)];exact q
end
noncomputable def Rd(H:Hp)(a:Oz)(u:HO):Prop:=H a=some u\/∃o,H a=some (.frz o u)
variable {P:OI}{h:OM}
theorem Rd.ok {u:HO}(r:Rd H a u)(x:HOk P w H h):bC P w H h a u:=by
 rcases r with r|⟨o,r⟩
 ·exact x a u r
 obtain⟨_,q⟩:=x a _ r;exact q
noncomputable def Mut:Option HO->Prop
 |some (.lst _)=>True
 |some (.dK _)=>True
 |some (.dT _)=>True
 |some (.set _ _)=>True
 |some (.ins _ _ _)=>True
 |some (.ext _)=>True
 | _=>False
section
variable{P:OI}{w:OK}{H:Hp}{h h':OM}{x e:Oz}{o':HO}
theorem HOk.write (ok:HOk P w H h)(mu:Mut (H x))(he:e=x\/H e=some (.own x))(k:∀b u,b≠e->h.get? b=some u->h'.get? b=some u)(heo:∃u,h'.get? e=some u)
  (new:bC P w (upd H x o') h' x o'):HOk P w (upd H x o') h':=fun b u q=>by
 have nown:∀c y,H c=some (.own y)->c≠x:=fun c y r z=>by subst z;rw[r]at mu;exact mu
 have ntup:∀c xs,H c=some (.tup xs)->c≠x:=fun c xs r z=>by subst z;rw[r]at mu;exact mu
 by_cases hb:b=x
 ·subst hb;rw[aO]at q;cases q;exact new
 rw[aG hb]at q;by_cases hbe:b=e
 ·have q':H b=some (.own x):=by
   rcases he with z|z
   ·exact absurd (hbe.trans z) hb
   rw[hbe];exact z
  rw[q]at q';cases q';obtain⟨v,hv⟩:=heo;exact⟨v,by rw[hbe];exact hv⟩
 refine(ok b u q).qk (fun c v hc r=>k c v ?_ r) (fun c r=>by rw[aG (nown c b r)];exact r) fun c xs r=>by rw[aG (ntup c xs r)];exact r
 rcases hc with rfl|hc
 ·exact hbe
 rintro rfl;rcases he with z|z
 ·exact nown c b hc z
 rw[hc]at z;cases z;exact hb rfl
end
structure Un (fs ex:List Oz) (H H':Hp) (h h':OM):Prop where
 keep:∀b o,h.get? b=some o->H b=none->b ∉ fs->b ∉ ex->h'.get? b=some o
 slot:∀b o,h.get? b=some o->H b=none->b∈fs->b ∉ ex->∃sl,h'.get? b=some {o with slots:=sl}
 free:∀b o,h.get? b=some o->H b=none->b ∉ ex->H' b=none
 there:∀b o,h.get? b=some o->b ∉ ex->∃o',h'.get? b=some o'
 tups:∀b xs,H b=some (.tup xs)->H' b=some (.tup xs)
 frzs:∀b o u,H b=some (.frz o u)->H' b=some (.frz o u)
 tbls:∀b ps,H b=some (.tbl ps)->∃more,H' b=some (.tbl (ps++more))
section
variable{fs fs' ex ex':List Oz}{H H1 H2:Hp}{h h1 h2 h':OM}{a x e:Oz}{o:HO}
theorem Un.any (u:Un fs ex H H1 h h1){ob:Obj}(q:h.get? b=some ob)(n:H b=none)(hx:b ∉ ex):∃sl,h1.get? b=some {ob with slots:=sl}:=by
 by_cases hb:b∈fs
 ·exact u.slot b ob q n hb hx
 exact⟨ob.slots,u.keep b ob q n hb hx⟩
theorem Un.kept (k:∀b u,h.get? b=some u->h'.get? b=some u):Un fs ex H H h h':=
 ⟨fun b ob q _ _ _=>k b ob q,fun b ob q _ _ _=>⟨ob.slots,k b ob q⟩,fun _ _ _ n _=>n,fun b ob q _=>⟨ob,k b ob q⟩,fun _ _ q=>q,fun _ _ _ q=>q,fun _ ps q=>⟨#[],by rw[q];simp⟩⟩
theorem Un.refl:Un fs ex H H h h:=Un.kept fun _ _ q=>q
theorem Un.laid (k:∀b u,h.get? b=some u->h'.get? b=some u)(hp:h.objs.size<=a)(hn:H a=none):Un fs ex H (upd H a o) h h' where
 keep:=fun b u q _ _ _=>k b u q
 slot:=fun b u q _ _ _=>⟨u.slots,k b u q⟩
 free:=fun b u q n _=>by rw[aG (j' (A_ (OG q) hp))];exact n
 there:=fun b u q _=>⟨u,k b u q⟩
 tups:=fun b xs q=>by rw[aG (cI q hn)];exact q
 frzs:=fun b u xs q=>by rw[aG (cI q hn)];exact q
 tbls:=fun b ps q=>⟨#[],by rw[aG (cI q hn),q];simp⟩
theorem Un.write (mu:Mut (H x))(he:e=x\/H e=some (.own x))(k:∀b u,b≠e->h.get? b=some u->h'.get? b=some u)(heo:∃u,h'.get? e=some u):Un fs ex H (upd H x o) h h':=by
 have hx:∀b,H b=none->b≠x:=fun b n z=>by subst z;rw[n]at mu;exact mu
 have hb:∀b,H b=none->b≠e:=fun b n z=>by
  subst z;rcases he with r|r
  ·exact hx b n r
  rw[n]at r;cases r
 have hm:∀b u,H b=some u->¬Mut (some u)->b≠x:=fun b u q nm z=>by subst z;rw[q]at mu;exact nm mu
 refine⟨fun b u q n _ _=>k b u (hb b n) q,fun b u q n _ _=>⟨u.slots,k b u (hb b n) q⟩,fun b u q n _=>by rw[aG (hx b n)];exact n,fun b u q _=>?_,
  fun b xs q=>by rw[aG (hm b _ q fun z=>z)];exact q,fun b u xs q=>by rw[aG (hm b _ q fun z=>z)];exact q,fun b ps q=>⟨#[],by rw[aG (hm b _ q fun z=>z),q];simp⟩⟩
 by_cases hbe:b=e
 ·subst hbe;exact heo
 exact⟨u,k b u hbe q⟩
end
noncomputable def trk(h:OM)(H:Hp):List Oz:=(A' h.objs.size).filter fun a=>(H a).isSome
def sJ(h:OM)(H:Hp):OM:=PySem.W.hideAll h (trk h H)
theorem zV(h:OM)(H:Hp):(sJ h H).objs.size=h.objs.size:=PySem.W.hideAll_size _ _
theorem Dj{o:Obj}(e:h.get? b=some o)(n:H b=none):(sJ h H).get? b=some o:=
 PySem.W.hideAll_get _ e fun hm=>by have q:(H b).isSome=true:=(La.mp hm).2;rw[n]at q;simp at q
theorem Ek{o:Obj}(e:(sJ h H).get? b=some o):h.get? b=some o/\H b=none:=by
 have e':h.get? b=some o:=PySem.W.of_hideAll (trk h H) e;refine⟨e',?_⟩;cases q:H b with
 |none=>rfl
 |some x=>
  have hm:b∈trk h H:=La.mpr ⟨Lz.mpr (OG e'),by simp[q]⟩;have z:(sJ h H).get? b=none:=PySem.W.hideAll_none (trk h H) hm;rw[z]at e;cases e
noncomputable def Ex(g h:OM)(L:Oz):List (Oz×Obj):=(A' h.objs.size).filterMap fun a=>if a=L\/(g.get? a).isSome=true then none else(h.get? a).map fun o=>(a,o)
def rest(g h:OM)(L d:Oz):List (Oz×Obj):=(Ex g h L).filter fun p=>decide (p.1≠d)
structure Mod (K:OA) (mg:Str->Option Oy) (base:OM):Prop where
 kin:K.In base
 glob:base.Ns Pu mg
 blt:∃mb,base.Ns Tn mb/\∀x:Str,x≠"__name__"->mb x=Ql x
 nolimit:base.NoLimit
structure Cx where
 prog:OI
 w:OK
 K:OA
 mg:Str->Option Oy
 base:OM
 A:OP
 N:List Str
 s₀:OB
 H₀:Hp
 env:Env
 outer:List Env
 stack:List Env
 ex:List Oz
 fn:Str->Bool
 calm:Bool
 pn:List (Oz×Obj)
 xe:Oy->OB->Prop
noncomputable def frs(l:List Env):List Oz:=l.filterMap (·.frame)
abbrev Cx.fs (X:Cx):List Oz:=frs X.outer
noncomputable def Vis(sc:PC)(x:Str):Prop:=sc.names.lookup x=some .local\/sc.names.lookup x=some .cell\/sc.names.lookup x=some .free
noncomputable def Loc(sc:PC)(x:Str):Prop:=sc.names.lookup x=some .local\/sc.names.lookup x=some .cell
noncomputable def Look(env:Env)(h:OM)(m:Str->Option Oy)(x:Str)(u:Oy):Prop:=
 (env.kindOf x=some .local/\m x=some u)\/((env.kindOf x=some .cell\/env.kindOf x=some .free)/\∃c,env.cells.lookup x=some c/\h.IsCell c (some u))
structure Cx.Ok (X:Cx):Prop where
 mod:Mod X.K X.mg X.base
 kind:X.env.scope.kind=.function
 glob:X.env.globals=Pu
 blt:X.env.builtins=Tn
 above:X.s₀.heap.objs.size<=X.env.locals
 inj:∀x y c,X.env.cells.lookup x=some c->X.env.cells.lookup y=some c->x=y
 has:∀x,(X.env.kindOf x=some .cell\/X.env.kindOf x=some .free)->∃c,X.env.cells.lookup x=some c
 cab:∀x c,X.fn x=true->X.env.cells.lookup x=some c->X.s₀.heap.objs.size<=c
 hd:X.calm=true->X.A.handled=none
 frames:X.A.frames=some X.stack
 stk:X.stack=X.outer\/(X.stack=X.env::X.outer/\X.env.frame=some X.env.locals)
 exf:∀b∈X.ex,b≠X.env.locals/\∀x c,X.env.cells.lookup x=some c->c≠b
 bs:∀b o,X.base.get? b=some o->X.s₀.heap.get? b=some o/\X.H₀ b=none
 bsz:X.base.objs.size<=X.s₀.heap.objs.size
 noex:∀b o,X.base.get? b=some o->b ∉ X.ex
 exfs:∀b∈X.ex,b ∉ X.fs
 pH:X.s₀.heap.FunFrames X.base X.outer
 frf:∀b∈X.fs,X.H₀ b=none
structure Inv (X:Cx) (ac:List (Oz×Obj)) (σ:List (Option V)) (H:Hp) (s:OB):Prop where
 ok:X.Ok
 os:s.os=X.s₀.os
 bare:RB s.gens
 base:Un X.fs X.ex X.H₀ H X.s₀.heap s.heap
 loc:∃m,s.heap.Ns X.env.locals m/\∀(i:Nat) (x:Str) (v:V),X.N[i]?=some x->σ[i]?=some (some v)->Vis X.env.scope x->∃u,RelV v u/\Look X.env s.heap m x u
 cell:∀x c,X.env.cells.lookup x=some c->∃v,s.heap.IsCell c v
 free:H X.env.locals=none
 freeC:∀x c,X.env.cells.lookup x=some c->H c=none
 pin:∀p∈X.pn++ac,s.heap.get? p.1=some p.2/\H p.1=none/\p.1≠X.env.locals/\p.1 ∉ X.fs/\∀v,p.2.data≠.cell v
 hok:HOk X.prog X.w H s.heap
 len:σ.length=X.N.length
variable {M:Rk}{N:List Str}{Q:Unit->OB->Prop}{ch:List Oz}{g':Array Uu}{i j t':Nat}{v:V}{x:Str}
section
variable{X:Cx}{ac:List (Oz×Obj)}{σ:List (Option V)}{H H':Hp}{s:OB}{h':OM}
theorem Cx.Ok.Ki (ok:X.Ok){o:Obj}(e:X.base.get? b=some o):b ∉ X.fs:=fun hb=>by have:=(ok.pH.mem hb).1;rw[e]at this;cases this
theorem Inv.bs (I:Inv X ac σ H s):∀b o,X.base.get? b=some o->s.heap.get? b=some o/\H b=none:=fun b o e=>
 ⟨I.base.keep b o (I.ok.bs b o e).1 (I.ok.bs b o e).2 (I.ok.Ki e) (I.ok.noex b o e),I.base.free b o (I.ok.bs b o e).1 (I.ok.bs b o e).2 (I.ok.noex b o e)⟩
theorem Inv.bk (I:Inv X ac σ H s):∀b o,X.base.get? b=some o->s.heap.get? b=some o:=fun b o e=>(I.bs b o e).1
theorem Inv.mod (I:Inv X ac σ H s):Mod X.K X.mg X.base:=I.ok.mod
theorem Inv.kIn (I:Inv X ac σ H s):X.K.In s.heap:=I.ok.mod.kin.keeps I.bk
theorem Inv.lt (I:Inv X ac σ H s):X.env.locals<s.heap.objs.size:=let ⟨_,hn,_⟩:=I.loc;hn.lt
theorem Inv.sz (I:Inv X ac σ H s):X.s₀.heap.objs.size<=s.heap.objs.size:=B' I.ok.above (KR I.lt)
theorem Inv.K4 (I:Inv X ac σ H s)(h:s.heap.objs.size<=a):a ∉ X.fs:=fun hb=>by obtain⟨_,o,ho,_⟩:=I.ok.pH.mem hb;exact absurd (A_ (OG ho) (B' I.sz h)) (Lf _)
theorem Inv.cne (I:Inv X ac σ H s):∀x c,X.env.cells.lookup x=some c->c≠X.env.locals:=fun x c e z=>by obtain⟨v,o,ho,hd⟩:=I.cell x c e;obtain⟨m,⟨o',es,ep,ho',hd',_⟩,_⟩:=I.loc;rw[z,ho']at ho;cases ho;rw[hd']at hd;cases hd
theorem Inv.pH (I:Inv X ac σ H s):s.heap.FunFrames X.base X.outer:=by
 have all:∀(l:List Env),(∀b∈frs l,b∈X.fs)->X.s₀.heap.FunFrames X.base l->s.heap.FunFrames X.base l:=by
  intro l;induction l with
  |nil=>intro _ _;trivial
  |cons env r ih=>
   intro hs hl;obtain⟨hk,⟨L,o,hf,hn,ho,hd⟩,hr⟩:=hl;have hL:L∈X.fs:=hs L (by unfold frs;rw[MH,hf];exact x_);obtain⟨sl,e⟩:=I.base.slot L o ho (I.ok.frf L hL) hL fun z=>I.ok.exfs L z hL;exact⟨hk,⟨L,_,hf,hn,e,hd⟩,ih (fun b hb=>hs b (by unfold frs;rw[MH,hf];exact m_ _ hb)) hr⟩
 exact all X.outer (fun _ hb=>hb) I.ok.pH
theorem Inv.stack (I:Inv X ac σ H s):s.heap.FunFrames X.base X.stack:=by
 rcases I.ok.stk with e|⟨e,hf⟩
 ·rw[e];exact I.pH
 rw[e];obtain⟨m,hn,_⟩:=I.loc;refine .cons (by rw[I.ok.kind];decide) hf hn ?_ I.pH;exact Heap.get?_none_of_le (B' I.ok.bsz I.ok.above)
theorem Inv.xw (I:Inv X ac σ H s):∀b∈frs X.stack,b∈X.env.locals::X.fs:=fun b hb=>by
 rcases I.ok.stk with e|⟨e,hf⟩
 ·rw[e]at hb;exact m_ _ hb
 rw[e]at hb;unfold frs at hb;rw[MH,hf]at hb;exact hb
theorem Inv.xM (I:Inv X ac σ H s):∀b∈frs X.stack,H b=none:=fun b hb=>by
 rcases h_.mp (I.xw b hb)with e|hb
 ·rw[e];exact I.free
 obtain⟨_,o,ho,_⟩:=I.ok.pH.mem hb;exact I.base.free b o ho (I.ok.frf b hb) fun z=>I.ok.exfs b z hb
theorem Inv.step {d':VF}(I:Inv X ac σ H s)
  (hch:∀b∈ch,(b∈X.ex\/X.s₀.heap.objs.size<=b)/\b≠X.env.locals/\(∀x c,X.env.cells.lookup x=some c->c≠b)/\∀p∈X.pn++ac,p.1≠b)
  (keep:∀b o,b≠X.env.locals->b ∉ X.fs->b ∉ ch->s.heap.get? b=some o->H b=none->h'.get? b=some o)
  (slot:∀b o,b≠X.env.locals->b∈X.fs->b ∉ ch->s.heap.get? b=some o->H b=none->∃sl,h'.get? b=some {o with slots:=sl}) (free:∀b o,b ∉ ch->s.heap.get? b=some o->H b=none->H' b=none)
  (there:∀b o,b ∉ ch->s.heap.get? b=some o->∃o',h'.get? b=some o')
  (tups:∀b xs,H b=some (.tup xs)->H' b=some (.tup xs)) (frzs:∀b o u,H b=some (.frz o u)->H' b=some (.frz o u)) (tbls:∀b ps,H b=some (.tbl ps)->∃more,H' b=some (.tbl (ps++more)))
  (ns:∀m,s.heap.Ns X.env.locals m->h'.Ns X.env.locals m) (hok:HOk X.prog X.w H' h') (hg:RB g') :
  Inv X ac σ H' {s with heap:=h',gens:=g',drawn:=d',toks:=t'}:=by
 have neL:∀b o,X.s₀.heap.get? b=some o->b≠X.env.locals:=fun b o e=>j' (A_ (OG e) I.ok.above);have neC:∀b o,X.s₀.heap.get? b=some o->b ∉ X.ex->b ∉ ch:=fun b o e hx hb=>by
  rcases(hch b hb).1 with z|z
  ·exact hx z
  exact absurd (A_ (OG e) z) (Lf _)
 have cellK:∀x c,X.env.cells.lookup x=some c->∀v,s.heap.IsCell c v->h'.IsCell c v:=fun x c e v ⟨o,ho,hd⟩=>by
  have nch:c ∉ ch:=fun z=>(hch c z).2.2.1 x c e rfl;by_cases hc:c∈X.fs
  ·obtain⟨sl,q⟩:=slot c o (I.cne x c e) hc nch ho (I.freeC x c e);exact⟨_,q,hd⟩
  exact⟨o,keep c o (I.cne x c e) hc nch ho (I.freeC x c e),hd⟩
 refine⟨I.ok,I.os,hg,⟨fun b o e n hb hx=>?_,fun b o e n hb hx=>?_,fun b o e n hx=>?_,fun b o e hx=>?_,fun b xs e=>tups b xs (I.base.tups b xs e),fun b o xs e=>frzs b o xs (I.base.frzs b o xs e),fun b ps e=>?_⟩,?_,fun x c e=>?_,?_,fun x c e=>?_,fun p hp=>?_,hok,I.len⟩
 ·exact keep b o (neL b o e) hb (neC b o e hx) (I.base.keep b o e n hb hx) (I.base.free b o e n hx)
 ·obtain⟨sl,e1⟩:=I.base.slot b o e n hb hx;obtain⟨sl',e2⟩:=slot b _ (neL b o e) hb (neC b o e hx) e1 (I.base.free b o e n hx);exact⟨sl',e2⟩
 ·obtain⟨o',e1⟩:=I.base.there b o e hx;exact free b o' (neC b o e hx) e1 (I.base.free b o e n hx)
 ·obtain⟨o',e1⟩:=I.base.there b o e hx;exact there b o' (neC b o e hx) e1
 ·obtain⟨m1,e1⟩:=I.base.tbls b ps e;obtain⟨m2,e2⟩:=tbls b _ e1;exact⟨m1++m2,by rw[e2,Array.append_assoc]⟩
 ·obtain⟨m,hn,hl⟩:=I.loc;refine⟨m,ns m hn,fun i x v e1 e2 e3=>?_⟩;obtain⟨u,r,l⟩:=hl i x v e1 e2 e3;refine⟨u,r,?_⟩;rcases l with l|⟨k,c,e,z⟩
  ·exact .inl l
  exact .inr ⟨k,c,e,cellK x c e _ z⟩
 ·obtain⟨v,z⟩:=I.cell x c e;exact⟨v,cellK x c e v z⟩
 ·obtain⟨m,⟨o,_,_,ho,_⟩,_⟩:=I.loc;exact free _ o (fun z=>(hch _ z).2.1 rfl) ho I.free
 ·obtain⟨v,o,ho,hd⟩:=I.cell x c e;exact free c o (fun z=>(hch c z).2.2.1 x c e rfl) ho (I.freeC x c e)
 obtain⟨e,n,ne,nf,d⟩:=I.pin p hp;have nch:p.1 ∉ ch:=fun z=>(hch p.1 z).2.2.2 p hp rfl;exact⟨keep p.1 p.2 ne nf nch e n,free p.1 p.2 nch e n,ne,nf,d⟩
theorem Inv.un (I:Inv X ac σ H s)(u:Un X.fs [] H H' s.heap h')(hok:HOk X.prog X.w H' h'):Inv X ac σ H' {s with heap:=h',toks:=t'}:=by
 obtain⟨m,⟨o,es,ep,ho,r⟩,_⟩:=id I.loc;obtain⟨sl,hL⟩:=u.any ho I.free (by simp);exact I.step (g':=s.gens) (d':=s.drawn) (ch:=[]) (fun _ z=>nomatch z) (fun b o _ hb _ e n=>u.keep b o e n hb (by simp)) (fun b o _ hb _ e n=>u.slot b o e n hb (by simp)) (fun b o _ e n=>u.free b o e n (by simp)) (fun b o _ e=>u.there b o e (by simp)) u.tups u.frzs u.tbls (fun m' hm=>by obtain⟨o',es',ep',ho',r'⟩:=hm;rw[ho]at ho';cases ho';exact⟨_,es',ep',hL,r'⟩) hok I.bare
theorem Inv.call {d':VF}(I:Inv X ac σ H s)(u:Un (frs X.stack) ch H H' s.heap h')(hok:HOk X.prog X.w H' h')(hg:RB g')
  (hch:∀b∈ch,(b∈X.ex\/X.s₀.heap.objs.size<=b)/\b≠X.env.locals/\(∀x c,X.env.cells.lookup x=some c->c≠b)/\∀p∈X.pn++ac,p.1≠b) :
  Inv X ac σ H' {s with heap:=h',gens:=g',drawn:=d',toks:=t'}:=by
 obtain⟨m,⟨o,es,ep,ho,r⟩,_⟩:=id I.loc;obtain⟨sl,hL⟩:=u.any ho I.free fun z=>(hch _ z).2.1 rfl;exact I.step (ch:=ch) hch (fun b o hL hb hc e n=>u.keep b o e n (fun z=>(h_.mp (I.xw b z)).elim hL hb) hc) (fun b o _ _ hc e n=>u.any e n hc) (fun b o hc e n=>u.free b o e n hc) (fun b o hc e=>u.there b o e hc) u.tups u.frzs u.tbls (fun m' hm=>by obtain⟨o',es',ep',ho',r'⟩:=hm;rw[ho]at ho';cases ho';exact⟨_,es',ep',hL,r'⟩) hok hg
theorem Inv.turned {it:Oz}(I:Inv X ac σ H s)(k:∀b o,b≠it->s.heap.get? b=some o->h'.get? b=some o)(hn:H it=none)(hL:it≠X.env.locals)
  (h1:it∈X.ex\/X.s₀.heap.objs.size<=it) (h2:∀x c,X.env.cells.lookup x=some c->c≠it) (h3:∀p∈X.pn++ac,p.1≠it):Inv X ac σ H {s with heap:=h',toks:=t'}:=by
 have nit:∀b u,H b=some u->b≠it:=fun b u e z=>by rw[z,hn]at e;cases e
 refine I.step (g':=s.gens) (d':=s.drawn) (ch:=[it]) (fun b hb=>?_) (fun b o _ _ hc e _=>k b o (fun z=>hc (by simp[z])) e) (fun b o _ _ hc e _=>⟨o.slots,k b o (fun z=>hc (by simp[z])) e⟩) (fun _ _ _ _ n=>n)
  (fun b o hc e=>⟨o,k b o (fun z=>hc (by simp[z])) e⟩) (fun _ _ e=>e) (fun _ _ _ e=>e) (fun b ps e=>⟨#[],by rw[e];simp⟩) (fun m hm=>?_) (fun b u e=>?_) I.bare
 ·have e:b=it:=by simpa using hb
  subst e;exact⟨h1,hL,h2,h3⟩
 ·obtain⟨o,es,ep,ho,r⟩:=hm;exact⟨o,es,ep,k _ o (Qv hL) ho,r⟩
 refine(I.hok b u e).qk (fun c v hc q=>k c v ?_ q) (fun _ q=>q) fun _ _ q=>q;rcases hc with z|z
 ·rw[z];exact nit b u e
 exact nit c _ z
theorem Inv.tok (I:Inv X ac σ H s)(t:Nat):Inv X ac σ H {s with toks:=t}:=I.un (h':=s.heap) (t':=t) Un.refl I.hok
theorem Inv.kept (I:Inv X ac σ H s)(k:∀b u,s.heap.get? b=some u->h'.get? b=some u):Inv X ac σ H {s with heap:=h',toks:=t'}:=I.un (Un.kept k) (I.hok.kept k)
theorem Inv.laid (I:Inv X ac σ H s)(k:∀b u,s.heap.get? b=some u->h'.get? b=some u)(hp:s.heap.objs.size<=a)(new:bC X.prog X.w (upd H a o) h' a o) :
  Inv X ac σ (upd H a o) {s with heap:=h',toks:=t'}:=I.un (Un.laid k hp (I.hok.fresh hp)) (I.hok.laid k hp new)
theorem Inv.write {x e:Oz}(I:Inv X ac σ H s)(mu:Mut (H x))(he:e=x\/H e=some (.own x))(k:∀b u,b≠e->s.heap.get? b=some u->h'.get? b=some u)(heo:∃u,h'.get? e=some u)
  (new:bC X.prog X.w (upd H x o) h' x o):Inv X ac σ (upd H x o) {s with heap:=h',toks:=t'}:=I.un (Un.write mu he k heo) (I.hok.write mu he k heo new)
theorem Inv.zC {pins':List (Oz×Obj)}(I:Inv X ac σ H s)(h:∀p∈pins',s.heap.get? p.1=some p.2/\H p.1=none/\p.1≠X.env.locals/\p.1 ∉ X.fs/\∀v,p.2.data≠.cell v):Inv X pins' σ H s:=
 ⟨I.ok,I.os,I.bare,I.base,I.loc,I.cell,I.free,I.freeC,fun p hp=>(F_.mp hp).elim (fun z=>I.pin p (KP _ z)) (h p),I.hok,I.len⟩
theorem vR(hN:N.Nodup)(a:N[i]?=some x)(b:N[j]?=some x):i=j:=by obtain⟨h1,e1⟩:=f_.mp a;obtain⟨h2,e2⟩:=f_.mp b;exact(NQ hN).mp (e1.trans e2.symm)
theorem qT(I:Inv X ac σ H s)(hN:X.N.Nodup)(hi:X.N[i]?=some x)(hx:Loc X.env.scope x)(r:RelV v u)
  (h:∀s',Inv X ac (σ.set i (some v)) H s'->(∃a,Pe a s.heap s'.heap/\(a=X.env.locals\/X.env.cells.lookup x=some a))->Q () s') (hf:X.fn x=true\/X.env.scope.names.lookup x=some .local:=by first|exact .inl rfl|exact .inr rfl|assumption):OE M A (storeName X.env x u) Q E s:=by
 obtain⟨m,hn,hl⟩:=id I.loc;have hcls:(X.env.scope.kind == .class || (X.env.scope.kind == .module&&X.env.locals != X.env.globals))=false:=by rw[I.ok.kind];rfl
 have hiσ:i<σ.length:=by rw[I.len];exact(f_.mp hi).1
 have cne:=I.cne;have tracked:∀{a:Oz}{h':OM},(∃o,s.heap.get? a=some o/\H a=none)->Pe a s.heap h'->HOk X.prog X.w H h':=fun{a h'} ha hs b ob e=>by
  obtain⟨_,_,hfree⟩:=ha;refine(I.hok b ob e).qk (fun c w' hc q=>(hs.2 c ?_).trans q) (fun _ q=>q) fun _ _ q=>q;rintro rfl;rcases hc with rfl|hc
  ·rw[hfree]at e;cases e
  rw[hfree]at hc;cases hc
 rcases hx with hk|hk
 ·refine wpAny_storeName_local hk hn (fun h' hn' hs=>?_) hcls;obtain⟨oL,_,_,hoL,_⟩:=id hn;refine h _ ⟨I.ok,I.os,I.bare,⟨fun b o e n hb hx=>?_,fun b o e n hb hx=>?_,I.base.free,fun b o e hx=>?_,I.base.tups,I.base.frzs,I.base.tbls⟩,⟨_,hn',fun j y v' e1 e2 e3=>?_⟩,fun y c e=>?_,I.free,I.freeC,fun p hp=>?_,tracked ⟨oL,hoL,I.free⟩ hs,by simpa using I.len⟩ ⟨_,hs,.inl rfl⟩
  ·exact(hs.2 b (j' (A_ (OG e) I.ok.above))).trans (I.base.keep b o e n hb hx)
  ·obtain⟨sl,e1⟩:=I.base.slot b o e n hb hx;exact⟨sl,(hs.2 b (j' (A_ (OG e) I.ok.above))).trans e1⟩
  ·obtain⟨o',e1⟩:=I.base.there b o e hx;exact⟨o',(hs.2 b (j' (A_ (OG e) I.ok.above))).trans e1⟩
  ·by_cases hj:j=i
   ·subst hj;rw[hi]at e1;cases e1;rw[Nf hiσ]at e2;cases e2;exact⟨u,r,.inl ⟨hk,by simp⟩⟩
   rw[MA (Qv hj)]at e2;obtain⟨u',r',q⟩:=hl j y v' e1 e2 e3;refine⟨u',r',?_⟩;rcases q with⟨k,e⟩|⟨k,c,e,z⟩
   ·refine .inl ⟨k,?_⟩;have:y≠x:=fun e=>hj (vR hN e1 (e▸hi));simp[this,e]
   exact .inr ⟨k,c,e,z.sameBut hs (cne y c e)⟩
  ·obtain⟨w',z⟩:=I.cell y c e;exact⟨w',z.sameBut hs (cne y c e)⟩
  obtain⟨e,n,ne,nf,d⟩:=I.pin p hp;exact⟨(hs.2 p.1 ne).trans e,n,ne,nf,d⟩
 have hfn:X.fn x=true:=by
  rcases hf with z|z
  ·exact z
  rw[z]at hk;cases hk
 obtain⟨c,hc⟩:=I.ok.has x (.inl hk);obtain⟨w',z⟩:=I.cell x c hc;refine wpAny_storeName_cell I.ok.kind hk hc z (fun h' hc' hs=>?_);obtain⟨oc,hoc,hocd⟩:=id z;refine h {s with heap:=h'} ⟨I.ok,I.os,I.bare,⟨fun b o e n hb hx=>?_,fun b o e n hb hx=>?_,I.base.free,fun b o e hx=>?_,I.base.tups,I.base.frzs,I.base.tbls⟩,⟨m,hn.sameBut hs (Qv (cne x c hc)),fun j y v' e1 e2 e3=>?_⟩,fun y c' e=>?_,I.free,I.freeC,fun p hp=>?_,tracked ⟨oc,hoc,I.freeC x c hc⟩ hs,by simpa using I.len⟩ ⟨c,hs,.inr hc⟩
 ·exact(hs.2 b (j' (A_ (OG e) (I.ok.cab x c hfn hc)))).trans (I.base.keep b o e n hb hx)
 ·obtain⟨sl,e1⟩:=I.base.slot b o e n hb hx;exact⟨sl,(hs.2 b (j' (A_ (OG e) (I.ok.cab x c hfn hc)))).trans e1⟩
 ·obtain⟨o',e1⟩:=I.base.there b o e hx;exact⟨o',(hs.2 b (j' (A_ (OG e) (I.ok.cab x c hfn hc)))).trans e1⟩
 ·by_cases hj:j=i
  ·subst hj;rw[hi]at e1;cases e1;rw[Nf hiσ]at e2;cases e2;exact⟨u,r,.inr ⟨.inl hk,c,hc,hc'⟩⟩
  rw[MA (Qv hj)]at e2;obtain⟨u',r',q⟩:=hl j y v' e1 e2 e3;refine⟨u',r',?_⟩;rcases q with q|⟨k,c',e,z'⟩
  ·exact .inl q
  refine .inr ⟨k,c',e,z'.sameBut hs ?_⟩;rintro rfl;exact hj (vR hN e1 (I.ok.inj _ _ _ e hc▸hi))
 ·by_cases hcc:c'=c
  ·subst hcc;exact⟨_,hc'⟩
  obtain⟨w2,z2⟩:=I.cell y c' e;exact⟨w2,z2.sameBut hs hcc⟩
 obtain⟨e,n,ne,nf,d⟩:=I.pin p hp;refine⟨(hs.2 p.1 ?_).trans e,n,ne,nf,d⟩;intro q;rw[q,hoc]at e;have q':oc=p.2:=C' e;exact d w' (by rw[<-q'];exact hocd)
theorem lY(I:Inv X ac σ H s)(hN:X.N.Nodup)(hi:X.N[i]?=some x)(hx:Loc X.env.scope x)(r:RelV v u)
  (h:∀s',Inv X ac (σ.set i (some v)) H s'->Q () s') (hf:X.fn x=true\/X.env.scope.names.lookup x=some .local:=by first|exact .inl rfl|exact .inr rfl|assumption):OE M A (storeName X.env x u) Q E s:=
 qT I hN hi hx r (fun s' I' _=>h s' I') hf
theorem Inv.FT {s':OB}(I:Inv X ac σ H s)(ho:s'.os=s.os)(u:Un (frs X.stack) ch H H' s.heap s'.heap)(hok:HOk X.prog X.w H' s'.heap)(hg:RB s'.gens)
  (hch:∀b∈ch,(b∈X.ex\/X.s₀.heap.objs.size<=b)/\b≠X.env.locals/\(∀x c,X.env.cells.lookup x=some c->c≠b)/\∀p∈X.pn++ac,p.1≠b):Inv X ac σ H' s':=by
 obtain⟨h',g',d',t',o'⟩:=s';have e:o'=s.os:=ho;subst e;exact I.call (g':=g') (t':=t') (d':=d') u hok hg hch
end
abbrev XK:=Oy->Option Oz->Hp->Prop
abbrev St:=List (Option V)
abbrev VK:=V->Hp->Prop
abbrev TE:=St->Hp->VK->Prop
abbrev TT:=St->Hp->(Bool->Hp->Prop)->Prop
abbrev TA:=St->Hp->(List V->Hp->Prop)->Prop
structure Ends where
 nx:St->Hp->Prop
 rt:VK
 bk:St->Hp->Prop:=fun _ _=>False
 ct:St->Hp->Prop:=fun _ _=>False
abbrev TS:=Ends->St->Hp->Prop
def EP(X:Cx)(ac:List (Oz×Obj))(σ:St)(Q:VK)(u:Oy)(s':OB):Prop:=∃v H',Inv X ac σ H' s'/\RelV v u/\Q v H'
noncomputable def TP(X:Cx)(ac:List (Oz×Obj))(σ:St)(Q:Bool->Hp->Prop)(b:Bool)(s':OB):Prop:=∃H',Inv X ac σ H' s'/\Q b H'
def AP(X:Cx)(ac:List (Oz×Obj))(σ:St)(Q:List V->Hp->Prop)(us:List Oy)(s':OB):Prop:=∃vs H',Inv X ac σ H' s'/\Vals vs us/\Q vs H'
def SP(X:Cx)(ac:List (Oz×Obj))(D:Ends)(f:Flow)(s':OB):Prop:=
 match f with
 | .next=>∃ f8 H',Inv X ac f8 H' s'/\D.nx f8 H'
 | .brk=>∃ f8 H',Inv X ac f8 H' s'/\D.bk f8 H'
 | .cont=>∃ f8 H',Inv X ac f8 H' s'/\D.ct f8 H'
 | .ret u=>∃v f8 H',Inv X ac f8 H' s'/\RelV v u/\D.rt v H'
def PE(X:Cx)(e:OL)(t:TE):Prop:=
 ∀(ac:List (Oz×Obj)) (s:OB) (σ:St) (H:Hp) (Q:VK),Inv X ac σ H s->t σ H Q->OE (OJ X.prog X.w) X.A (O1 e X.env) (EP X ac σ Q) X.xe s
def PT(X:Cx)(e:OL)(t:TT):Prop:=
 ∀(ac:List (Oz×Obj)) (s:OB) (σ:St) (H:Hp) (Q:Bool->Hp->Prop),Inv X ac σ H s->t σ H Q->OE (OJ X.prog X.w) X.A (TU e X.env (O1 e X.env)) (TP X ac σ Q) X.xe s
def PW(X:Cx)(e:OL)(t:TT):Prop:=
 ∀(whole:Sem Oy) (ac:List (Oz×Obj)) (s:OB) (σ:St) (H:Hp) (Q:Bool->Hp->Prop),Inv X ac σ H s->t σ H Q->OE (OJ X.prog X.w) X.A (TU e X.env whole) (TP X ac σ Q) X.xe s
variable {X:Cx}{e:OL}
theorem PW.pt {t:TT}(h:PW X e t):PT X e t:=h _
def PA(X:Cx)(es:List OL)(t:TA):Prop:=
 ∀(pos:Pos) (ac:List (Oz×Obj)) (s:OB) (σ:St) (H:Hp) (Q:List V->Hp->Prop),Inv X ac σ H s->t σ H Q->OE (OJ X.prog X.w) X.A (spliced (QF pos (OO es X.env))) (AP X ac σ Q) X.xe s
def PS(X:Cx)(st:OY)(t:TS):Prop:=
 ∀(ac:List (Oz×Obj)) (s:OB) (σ:St) (H:Hp) (D:Ends),Inv X ac σ H s->t D σ H->OE (OJ X.prog X.w) X.A (exec st X.env) (SP X ac D) X.xe s
def PSs(X:Cx)(st:List OY)(t:TS):Prop:=
 ∀(ac:List (Oz×Obj)) (s:OB) (σ:St) (H:Hp) (D:Ends),Inv X ac σ H s->t D σ H->OE (OJ X.prog X.w) X.A (execs st X.env) (SP X ac D) X.xe s
theorem thn{α:Type}{t:Sem α}{Q Q':α->OB->Prop}(h:OE M A t Q E s)(hQ:∀a s,Q a s->Q' a s):OE M A t Q' E s:=O4 h hQ fun _ _ x=>x
variable {ac:List (Oz×Obj)}{pos:Pos}{σ:St}
section
variable{X:Cx}
noncomputable def HF(i:Nat):TE:=fun σ H Q=>∃v,σ[i]?=some (some v)/\Q v H
noncomputable def tC(v:V):TE:=fun _ H Q=>Q v H
theorem jL(hN:X.N[i]?=some x)(hv:Vis X.env.scope x)(hd:(x ==("__debug__":Str))=false:=by decide)(hcd:(x ==("__classdict__":Str))=false:=by decide):PE X (.Name x pos) (HF i):=by
 intro ac s σ H Q I h;obtain⟨v,e,h⟩:=h;obtain⟨m,hn,hl⟩:=I.loc;obtain⟨u,r,l⟩:=hl i x v hN e hv;have fin:EP X ac σ Q u s:=⟨v,H,I,r,h⟩;rcases l with⟨hk,hm⟩|⟨hk,c,hc,hcell⟩
 ·exact UL (wpAny_loadName_local I.ok.kind hk hn hm fin) hd
 rcases hk with hk|hk
 ·exact UL (wpAny_loadName_cell I.ok.kind hk hc hcell fin) hd
 exact UL (wpAny_loadName_free I.ok.kind hk hc hcell fin hcd) hd
theorem fH{i j pos}:PE X (.Constant (.int i) j pos) (tC (.int i)):=fun _ _ _ H _ I h=>wpAny_Constant_int ⟨.int i,H,I.tok _,⟨_,rfl⟩,h⟩
theorem Ii{b j pos}:PE X (.Constant (.bool b) j pos) (tC (.bl b)):=fun _ _ _ H _ I h=>Constant_bool ⟨.bl b,H,I,rfl,h⟩
theorem Gf{j pos}:PE X (.Constant .none j pos) (tC .non):=fun _ _ _ H _ I h=>Constant_none ⟨.non,H,I,rfl,h⟩
theorem lQ{x j pos}:PE X (.Constant (.str x) j pos) (tC (.str x)):=fun _ _ _ H _ I h=>Calls.Constant_str ⟨.str x,H,I.tok _,⟨_,rfl⟩,h⟩
noncomputable def Gl(X:Cx)(x:Str):Prop:=X.env.kindOf x=some .globalImplicit
theorem xU{Q:Oy->OB->Prop}(I:Inv X ac σ H s)(hg:Gl X x)(hm:X.mg x=some u)(h:Q u s)
  (hd:(x ==("__debug__":Str))=false:=by decide):OE (OJ X.prog X.w) X.A (O1 (.Name x pos) X.env) Q E s:=
 R3 I.ok.kind hg (Calls.loadGlobal_global (by rw[I.ok.glob];exact I.mod.glob.keeps I.bk) hm h) hd
theorem iO{Q:Oy->OB->Prop}(I:Inv X ac σ H s)(hg:Gl X x)(hm:X.mg x=none)(hv:Ql x=some u)(h:Q u s)
  (hn:x≠"__name__":=by decide) (hd:(x ==("__debug__":Str))=false:=by decide):OE (OJ X.prog X.w) X.A (O1 (.Name x pos) X.env) Q E s:=by
 obtain⟨mb,h1,h2⟩:=I.mod.blt;exact R3 I.ok.kind hg (Calls.loadGlobal_builtin (by rw[I.ok.glob];exact I.mod.glob.keeps I.bk) hm (by rw[I.ok.blt];exact h1.keeps I.bk) ((h2 x hn).trans hv) h) hd
theorem ER(hg:Gl X x)(hm:X.mg x=some u)(r:RelV v u)(hd:(x ==("__debug__":Str))=false:=by decide):PE X (.Name x pos) (tC v):=
 fun _ _ _ H _ I h=>xU I hg hm ⟨v,H,I,r,h⟩ hd
theorem DM(hg:Gl X x)(hm:X.mg x=none)(hv:Ql x=some u)(r:RelV v u)(hn:x≠"__name__":=by decide)(hd:(x ==("__debug__":Str))=false:=by decide):PE X (.Name x pos) (tC v):=
 fun _ _ _ H _ I h=>iO I hg hm hv ⟨v,H,I,r,h⟩ hn hd
variable{a b:OL}{ta tb:TE}{pos:Pos}
variable{tA tB':TT}{rest:List OL}
noncomputable def Km(t u:TT):TT:=fun σ H Q=>t σ H fun c H1=>if c=true then u σ H1 Q else Q false H1
noncomputable def tOr(t u:TT):TT:=fun σ H Q=>t σ H fun c H1=>if c=true then Q true H1 else u σ H1 Q
noncomputable def Kd(t:TT):TT:=fun σ H Q=>t σ H fun c H1=>Q (!c) H1
theorem ED(ha:PT X a tA):PW X (.BoolOp .And [a] pos) tA:=by
 intro wh ac s σ H Q I h;refine isTrue_and (thn (ha ac s σ H Q I h) fun c s1 e=>?_);cases c with
 |true=>exact isTrue_and_nil e
 |false=>exact e
theorem GK(ha:PT X a tA):PW X (.BoolOp .Or [a] pos) tA:=by
 intro wh ac s σ H Q I h;refine isTrue_or (thn (ha ac s σ H Q I h) fun c s1 e=>?_);cases c with
 |false=>exact isTrue_or_nil e
 |true=>exact e
theorem HD(ha:PT X a tA)(hb:PW X (.BoolOp .And (b::rest) pos) tB'):PW X (.BoolOp .And (a::b::rest) pos) (Km tA tB'):=by
 intro wh ac s σ H Q I h;refine isTrue_and (thn (ha ac s σ H _ I h) ?_);rintro c s1 ⟨H1,I1,q1⟩;cases c with
 |true=>exact hb wh ac s1 σ H1 Q I1 q1
 |false=>exact⟨H1,I1,q1⟩
theorem Iw(ha:PT X a tA)(hb:PW X (.BoolOp .Or (b::rest) pos) tB'):PW X (.BoolOp .Or (a::b::rest) pos) (tOr tA tB'):=by
 intro wh ac s σ H Q I h;refine isTrue_or (thn (ha ac s σ H _ I h) ?_);rintro c s1 ⟨H1,I1,q1⟩;cases c with
 |true=>exact⟨H1,I1,q1⟩
 |false=>exact hb wh ac s1 σ H1 Q I1 q1
theorem Gi(ha:PT X a tA):PT X (.UnaryOp .Not a pos) (Kd tA):=by intro ac s σ H Q I h;exact isTrue_not (ha ac s σ H (fun c H1=>Q (!c) H1) I h)
noncomputable def IW(ta tb:TE):TE:=fun σ H Q=>ta σ H fun x H1=>∃c,x=.bl c/\if c=true then tb σ H1 Q else Q (.bl false) H1
noncomputable def Kc(ta tb:TE):TE:=fun σ H Q=>ta σ H fun x H1=>∃c,x=.bl c/\if c=true then Q (.bl true) H1 else tb σ H1 Q
theorem Hf{op}{t:TE}(h:PE X a t):PE X (.BoolOp op [a] pos) t:=fun ac s σ H Q I hw=>BoolOp_one (h ac s σ H Q I hw)
theorem He(ha:PE X a ta)(hb:PE X (.BoolOp .And (b::rest) pos) tb):PE X (.BoolOp .And (a::b::rest) pos) (IW ta tb):=by
 intro ac s σ H Q I h;refine BoolOp_and (thn (ha ac s σ H _ I h) ?_);rintro v s1 ⟨x,H1,I1,r1,q1⟩;obtain⟨c,rfl,q1⟩:=q1;cases r1;refine PX ?_;cases c with
 |true=>exact hb ac s1 σ H1 Q I1 q1
 |false=>exact⟨.bl false,H1,I1,rfl,q1⟩
theorem Jq(ha:PE X a ta)(hb:PE X (.BoolOp .Or (b::rest) pos) tb):PE X (.BoolOp .Or (a::b::rest) pos) (Kc ta tb):=by
 intro ac s σ H Q I h;refine BoolOp_or (thn (ha ac s σ H _ I h) ?_);rintro v s1 ⟨x,H1,I1,r1,q1⟩;obtain⟨c,rfl,q1⟩:=q1;cases r1;refine PX ?_;cases c with
 |false=>exact hb ac s1 σ H1 Q I1 q1
 |true=>exact⟨.bl true,H1,I1,rfl,q1⟩
end
def SqL(K:OA)(H:Hp)(a:Oz)(xs:List V):Prop:=
 Rd H a (.lst xs)\/
  ∃(o:Obj) (be:Array Oy) (n:Nat),K.lookup a=some o/\o.cls=.type "list"/\o.dict=none/\o.data=.seq be n/\be.size<=sizeLine/\Vals xs be.toList
def SqT(K:OA)(H:Hp)(a:Oz)(xs:List V):Prop:=
 Rd H a (.tup xs)\/
  ∃(o:Obj) (be:Array Oy) (n:Nat),K.lookup a=some o/\o.cls=.type "tuple"/\o.data=.seq be n/\be.size<=sizeLine/\Vals xs be.toList
noncomputable def KC:Oy->Option V
 | .none=>some .non
 | .bool b=>some (.bl b)
 | .int i _=>some (.int i)
 | .str x _=>some (.str x)
 | .bytes b _=>some (.byt b)
 | .float b _=>some (.flt b)
 | .ref a=>some (.ref a)
 | .type n=>some (.ty n)
 | _=>none
theorem RelV.abs {x:V}(r:RelV x u):KC u=some x:=by
 cases x with
 |non=>cases r;rfl
 |bl _=>cases r;rfl
 |int _=>obtain⟨t,rfl⟩:=r;rfl
 |str _=>obtain⟨t,rfl⟩:=r;rfl
 |byt _=>obtain⟨t,rfl⟩:=r;rfl
 |flt _=>obtain⟨t,rfl⟩:=r;rfl
 |ref _=>cases r;rfl
 |ty _=>cases r;rfl
theorem RelV.inj {x y:V}(r:RelV x u)(q:RelV y u):x=y:=C' (r.abs.symm.trans q.abs)
theorem Vals.inj:∀{xs ys:List V}{us:List Oy},Vals xs us->Vals ys us->xs=ys:=by
 intro xs ys us x;induction x generalizing ys with
 |nil=>intro y;cases y;rfl
 |cons r t ih=>
  intro y;cases y with
  |cons r' t'=>rw[r.inj r',ih t']
variable {K:OA}
section
variable{X:Cx}{ac:List (Oz×Obj)}{σ:St}{H:Hp}{s:OB}{a:Oz}{xs ys:List V}
theorem SqL.of (h:H a=some (.lst xs)):SqL K H a xs:=.inl (.inl h)
theorem SqT.of (h:H a=some (.tup xs)):SqT K H a xs:=.inl (.inl h)
theorem Inv.list (I:Inv X ac σ H s)(h:SqL X.K H a xs):∃be:List Oy,Vals xs be/\PlainL s.heap a be.toArray/\xs.length<=sizeLine:=by
 rcases h with h|⟨o,be,n,hk,hc,hd,hs,hz,r⟩
 ·obtain⟨z,be,n,r,e⟩:=h.ok I.hok;exact⟨be,r,⟨_,n,e,rfl,rfl,rfl⟩,z⟩
 refine⟨be.toList,r,⟨o,n,I.kIn a o hk,hc,hd,by simpa using hs⟩,?_⟩;have e:=r.length;simp only[l_]at e;lia
theorem Inv.tuple (I:Inv X ac σ H s)(h:SqT X.K H a xs):∃be:List Oy,Vals xs be/\VE s.heap a be.toArray/\xs.length<=sizeLine:=by
 rcases h with h|⟨o,be,n,hk,hc,hs,hz,r⟩
 ·obtain⟨z,be,r,p⟩:=h.ok I.hok;exact⟨be,r,p,z⟩
 refine⟨be.toList,r,⟨o,I.kIn a o hk,hc,n,by simpa using hs⟩,?_⟩;have e:=r.length;simp only[l_]at e;lia
theorem Inv.pU (I:Inv X ac σ H s)(h:SqL X.K H a xs)(h':SqL X.K H a ys):xs=ys:=by
 obtain⟨be,r,⟨o,n,e,_,_,d⟩,_⟩:=I.list h;obtain⟨its',r',⟨o',n',e',_,_,d'⟩,_⟩:=I.list h';rw[e]at e';cases e';rw[d]at d';injection d' with d1 _
 have:be=its':=by simpa using congrArg N9 d1
 subst this;exact r.inj r'
theorem Inv.kK (I:Inv X ac σ H s)(h:SqT X.K H a xs)(h':SqT X.K H a ys):xs=ys:=by
 obtain⟨be,r,⟨o,e,_,n,d⟩,_⟩:=I.tuple h;obtain⟨its',r',⟨o',e',_,n',d'⟩,_⟩:=I.tuple h';rw[e]at e';cases e';rw[d]at d';injection d' with d1 _
 have:be=its':=by simpa using congrArg N9 d1
 subst this;exact r.inj r'
end
abbrev Cx.qx (X:Cx)(E:Oy->OB->Prop):Cx:={ X with xe:=E}
abbrev Cx.nox (X:Cx):Cx:=X.qx fun _ _=>False
theorem Cx.Ok.qx (ok:X.Ok)(E:Oy->OB->Prop):(X.qx E).Ok:=
 ⟨ok.mod,ok.kind,ok.glob,ok.blt,ok.above,ok.inj,ok.has,ok.cab,ok.hd,ok.frames,ok.stk,ok.exf,ok.bs,ok.bsz,ok.noex,ok.exfs,ok.pH,ok.frf⟩
theorem Cx.Ok.kg (ok:(X.qx E).Ok):X.Ok:=
 ⟨ok.mod,ok.kind,ok.glob,ok.blt,ok.above,ok.inj,ok.has,ok.cab,ok.hd,ok.frames,ok.stk,ok.exf,ok.bs,ok.bsz,ok.noex,ok.exfs,ok.pH,ok.frf⟩
section
variable{X:Cx}{ac:List (Oz×Obj)}{σ:St}{H:Hp}{s:OB}{E:Oy->OB->Prop}
theorem Inv.qx (I:Inv X ac σ H s)(E:Oy->OB->Prop):Inv (X.qx E) ac σ H s:=⟨I.ok.qx E,I.os,I.bare,I.base,I.loc,I.cell,I.free,I.freeC,I.pin,I.hok,I.len⟩
theorem Inv.kg (I:Inv (X.qx E) ac σ H s):Inv X ac σ H s:=⟨I.ok.kg,I.os,I.bare,I.base,I.loc,I.cell,I.free,I.freeC,I.pin,I.hok,I.len⟩
theorem SP.kg {D:Ends}{f:Flow}{s':OB}(h:SP (X.qx E) ac D f s'):SP X ac D f s':=by
 cases f with
 |next=>obtain⟨f8,H',I,q⟩:=h;exact⟨f8,H',I.kg,q⟩
 |brk=>obtain⟨f8,H',I,q⟩:=h;exact⟨f8,H',I.kg,q⟩
 |cont=>obtain⟨f8,H',I,q⟩:=h;exact⟨f8,H',I.kg,q⟩
 |ret u=>obtain⟨v,f8,H',I,r,q⟩:=h;exact⟨v,f8,H',I.kg,r,q⟩
theorem PSs.nox {st:List OY}{t:TS}(h:PSs X.nox st t):PSs X st t:=fun ac s σ H D I hw=>
 O4 (h ac s σ H D (I.qx _) hw) (fun _ _ q=>q.kg) fun _ _ z=>ON z
end
section
variable{X:Cx}{st:OY}{rest:List OY}{t u:TS}{e:OL}{te:TE}{pos:Pos}
noncomputable def Il:TS:=fun D σ H=>D.nx σ H
noncomputable def Kj(t u:TS):TS:=fun D σ H=>t { D with nx:=u D} σ H
theorem t9:PSs X [] Il:=fun _ _ σ H _ I h=>RH ⟨σ,H,I,h⟩
theorem dw(h1:PS X st t)(h2:PSs X rest u):PSs X (st::rest) (Kj t u):=by
 intro ac s σ H D I h;refine Uv (thn (h1 ac s σ H { D with nx:=u D} I h) fun f s1 q=>?_);cases f with
 |next=>
  obtain⟨f8,H',I',q⟩:=q;exact h2 ac s1 f8 H' D I' q
 |ret v=>exact q
 |brk=>exact q
 |cont=>exact q
theorem ml(h1:PS X st t):PSs X [st] t:=by
 intro ac s σ H D I h;refine Uv (thn (h1 ac s σ H D I h) fun f s1 q=>?_);cases f with
 |next=>exact RH q
 |ret v=>exact q
 |brk=>exact q
 |cont=>exact q
theorem Inv.quiet (I:Inv X ac σ H s):V' X.env=false:=by simp[V',I.ok.kind]
noncomputable def II(te:TE):TS:=fun D σ H=>te σ H fun _ H1=>D.nx σ H1
theorem Ec(he:PE X e te)(hs:Ra e none pos.line X.env=pure false:=by rfl):PS X (.Expr e pos) (II te):=by intro ac s σ H D I h;exact wpAny_Expr_any (thn (he ac s σ H _ I h) fun v s1 ⟨x,H1,I1,r1,q1⟩=>⟨σ,H1,I1,q1⟩) I.quiet hs
noncomputable def Kg(te:TE):TS:=fun D σ H=>te σ H D.rt
theorem sj(he:PE X e te):PS X (.Return (some e) pos) (Kg te):=by intro ac s σ H D I h;exact wpAny_Return_some (thn (he ac s σ H _ I h) fun v s1 ⟨x,H1,I1,r1,q1⟩=>⟨x,σ,H1,I1,r1,q1⟩)
noncomputable def Kv(c:TT)(t u:TS):TS:=fun D σ H=>c σ H fun b H1=>if b=true then t D σ H1 else u D σ H1
theorem BN{c:OL}{a b:List OY}{tc:TT}(hc:PT X c tc)(ha:PSs X a t)(hb:PSs X b u):PS X (.If c a b pos) (Kv tc t u):=by
 intro ac s σ H D I h;refine wpAny_If (thn (hc ac s σ H _ I h) ?_);rintro d s1 ⟨H1,I1,q1⟩;cases d with
 |true=>exact ha ac s1 σ H1 D I1 q1
 |false=>exact hb ac s1 σ H1 D I1 q1
end
abbrev TG:=V->St->Hp->(St->Hp->Prop)->Prop
abbrev TGs:=List V->St->Hp->(St->Hp->Prop)->Prop
def PG(X:Cx)(target:OL)(t:TG):Prop:=
 ∀(ac:List (Oz×Obj)) (s:OB) (σ:St) (H:Hp) (v:V) (u:Oy) (Q:St->Hp->Prop),Inv X ac σ H s->RelV v u->t v σ H Q->
  OE (OJ X.prog X.w) X.A (Rb target X.env u) (fun _ s'=>∃ f8 H',Inv X ac f8 H' s'/\Q f8 H') X.xe s
def PGs(X:Cx)(ts:List OL)(t:TGs):Prop:=
 ∀(ac:List (Oz×Obj)) (s:OB) (σ:St) (H:Hp) (vs:List V) (us:List Oy) (Q:St->Hp->Prop),Inv X ac σ H s->Vals vs us->t vs σ H Q->
  OE (OJ X.prog X.w) X.A (R4 ((Po ts X.env).map (·.2)) us) (fun _ s'=>∃ f8 H',Inv X ac f8 H' s'/\Q f8 H') X.xe s
abbrev Fj:=V->V->V->Hp->(Hp->Prop)->Prop
def wZ(X:Cx)(t:Fj):Prop:=
 ∀(ac:List (Oz×Obj)) (s:OB) (σ:St) (H:Hp) (o i v:V) (ov iv u:Oy) (Q:Hp->Prop),Inv X ac σ H s->RelV o ov->RelV i iv->RelV v u->t o i v H Q->
  OE (OJ X.prog X.w) X.A (U' ov iv u) (fun _ s'=>∃H',Inv X ac σ H' s'/\Q H') X.xe s
variable {body:List OY}{es:List OL}{ta:TA}{tg:OL}
section
variable{X:Cx}{pos:Pos}
noncomputable def zJ(i:Nat):TG:=fun v σ H Q=>Q (σ.set i (some v)) H
theorem ye(hN:X.N.Nodup)(hi:X.N[i]?=some x)(hx:Loc X.env.scope x)(hf:X.fn x=true\/X.env.scope.names.lookup x=some .local:=by first|exact .inl rfl|exact .inr rfl|assumption):PG X (.Name x pos) (zJ i):=by intro ac s σ H v u Q I r h;exact Ua (lY I hN hi hx r (fun s' I'=>⟨_,H,I',h⟩) hf)
noncomputable def Kb:TGs:=fun vs σ H Q=>vs=[]/\Q σ H
noncomputable def Ir(t:TG)(u:TGs):TGs:=fun vs σ H Q=>∃v r,vs=v::r/\t v σ H fun f8 H'=>u r f8 H' Q
theorem xN:PGs X [] Kb:=by intro ac s σ H vs us Q I r h;obtain⟨e,h⟩:=h;subst e;cases r;exact Ub ⟨σ,H,I,h⟩
theorem pI{t:TG}{u:TGs}(h1:PG X e t)(h2:PGs X es u)
  (hs:(Po (e::es) X.env).map (·.2)=Rb e X.env::(Po es X.env).map (·.2):=by rfl):PGs X (e::es) (Ir t u):=by
 intro ac s σ H vs us Q I r h;obtain⟨v,vr,e1,h⟩:=h;subst e1;cases r with
 |cons r rr=>
  rw[hs];refine RZ (thn (h1 ac s σ H _ _ _ I r h) ?_);rintro _ s1 ⟨σ1,H1,I1,q1⟩;exact h2 ac s1 σ1 H1 _ _ Q I1 rr q1
def Kn(K:OA)(n:Nat)(t:TGs):TG:=fun v σ H Q=>∃a xs,v=.ref a/\SqT K H a xs/\xs.length=n/\t xs σ H Q
theorem Bx{k:Nat}{t:TGs}{n:Nat}(hc:X.calm=true)(h:PGs X es t)
  (hn:(Po es X.env).length=n:=by rfl) (hst:(Po es X.env).findIdx? (·.1)=none:=by rfl):PG X (.Tuple es k pos) (Kn X.K n t):=by
 intro ac s σ H v u Q I r hw;obtain⟨a,xs,e1,hq,hl,hw⟩:=hw;subst e1;cases r;obtain⟨be,rv,ht,hz⟩:=I.tuple hq;refine assign_Tuple_tuple (I.ok.hd hc) ht (by simp[hn,<-hl,rv.length]) hst fun h' hx=>?_
 have I1:Inv X ac σ H {s with heap:=h'}:=I.kept (t':=s.toks) fun b o e=>hx b o (j' (OG e)) e;exact h ac _ σ H xs _ Q I1 (by simpa using rv) hw
noncomputable def Kr(to ti:TE)(t:Fj):TG:=fun v σ H Q=>to σ H fun o H1=>ti σ H1 fun i H2=>t o i v H2 fun H3=>Q σ H3
theorem Cq{o i:OL}{to ti:TE}{t:Fj}(ho:PE X o to)(hi:PE X i ti)(hs:wZ X t)
  (ha:∀v,Rb (.Subscript o i pos) X.env v=(do
   let ov <-QS [v] (O1 o X.env)
   let iv <-QS [v,ov] (O1 i X.env)
   Va pos
   QS [v,ov,iv] (U' ov iv v)
   release [v,ov,iv] []):=by intro _;rfl):PG X (.Subscript o i pos) (Kr to ti t):=by
 intro ac s σ H v u Q I r h;rw[ha];refine Ox (OS (thn (ho ac s σ H _ I h) ?_));rintro ov s1 ⟨x,H1,I1,r1,q1⟩;refine Ox (OS (thn (hi ac s1 σ H1 _ I1 q1) ?_));rintro iv s2 ⟨y,H2,I2,r2,q2⟩;refine Ox (QO (Ox (OS (thn (hs ac s2 σ H2 x y v ov iv u _ I2 r1 r2 r q2) ?_))));rintro _ s3 ⟨H3,I3,q3⟩;exact wpAny_release ⟨σ,H3,I3,q3⟩
noncomputable def F8(te:TE)(g:TG):TS:=fun D σ H=>te σ H fun x H1=>g x σ H1 D.nx
theorem B8{te:TE}{g:TG}(he:PE X e te)(hg:PG X tg g)(hs:R5 [tg] e pos.line X.env=pure false:=by rfl)(hw:R6 [tg] e X.env=pure none:=by rfl)
  (h1:(Po [tg] X.env).map (·.2)=[Rb tg X.env]:=by rfl):PS X (.Assign [tg] e pos) (F8 te g):=by
 intro ac s σ H D I h;refine wpAny_Assign_stores (thn (he ac s σ H _ I h) fun v s1 ⟨x,H1,I1,r1,q1⟩=>?_) hs hw;rw[h1];exact thn (hg ac s1 σ H1 x v _ I1 r1 q1) fun _ s2 q=>q
theorem jY{te:TE}{pos':Pos}(hN:X.N.Nodup)(hi:X.N[i]?=some x)(hx:Loc X.env.scope x)(he:PE X e te)(hs:Ra e (some (.Name x pos')) pos.line X.env=pure false:=by rfl)(hf:X.fn x=true\/X.env.scope.names.lookup x=some .local:=by first|exact .inl rfl|exact .inr rfl|assumption) :
  PS X (.Assign [.Name x pos'] e pos) (F8 te (zJ i)):=by
 intro ac s σ H D I h;refine wpAny_Assign_Name (thn (he ac s σ H _ I h) fun v s1 ⟨y,H1,I1,r1,q1⟩=>?_) hs;exact lY I1 hN hi hx r1 (fun s2 I2=>⟨_,H1,I2,q1⟩) hf
noncomputable def K5(i j:Nat)(ta:TA):TS:=fun D σ H=>ta σ H fun vs H1=>∃v w,vs=[v,w]/\D.nx ((σ.set i (some v)).set j (some w)) H1
theorem Hr{y:Str}{a b:OL}{px py pt:Pos}{kt k2 pt2}(hc:X.calm=true)(hN:X.N.Nodup)(hi:X.N[i]?=some x)(hj:X.N[j]?=some y)(ld:i≠j)
  (hx:X.env.scope.names.lookup x=some .local) (hy:X.env.scope.names.lookup y=some .local) (ha:PA X [a,b] ta)
  (hw:R6 [.Tuple [.Name x px,.Name y py] kt pt] (.Tuple [a,b] k2 pt2) X.env=pure (some [x,y]))
  (hs:R5 [.Tuple [.Name x px,.Name y py] kt pt] (.Tuple [a,b] k2 pt2) pos.line X.env=pure false:=by rfl) :
  PS X (.Assign [.Tuple [.Name x px,.Name y py] kt pt] (.Tuple [a,b] k2 pt2) pos) (K5 i j ta):=by
 intro ac s σ H D I h;rw[exec_Assign_arm];refine Ox (QO ?_);rw[hs];refine Ox (OC ?_);rw[if_neg (by decide)];refine Ox (Tuple_ (thn (ha _ ac s σ H _ I h) ?_));rintro us s1 ⟨vs,H1,I1,r1,q1⟩;obtain⟨v,w,e1,q1⟩:=q1;subst e1;obtain⟨u1,u2,rfl,rv,rw'⟩:∃u1 u2,us=[u1,u2]/\RelV v u1/\RelV w u2:=by
  cases r1 with
  |cons p q=>
   cases q with
   |cons p' q'=>
    cases q';exact⟨_,_,rfl,p,p'⟩
 refine OU ?_ (by show 2<=sizeLine;decide);have I2:Inv X ac σ H1 {s1 with heap:=s1.heap.push { cls:=.type "tuple",data:=.seq [u1,u2].toArray} }:=I1.kept (t':=s1.toks) fun b o e=>OD _ e;rw[hw];refine Ox (OC ?_);show OE (OJ X.prog X.w) X.A (do rule "assign.swapped-stores";let items <-unpackItems (.ref s1.heap.objs.size) 2 none;R4 [fun v=>Uw X.env y v,fun v=>Uw X.env x v] items.reverse;pure WL) _ _ _;refine Ox (PQ (Ox (unpackItems_tuple (items:=#[u1,u2]) (I.ok.hd hc) (TV s1.heap _) fun h' hx'=>?_)));have I3:=I2.kept (h':=h') (t':=s1.toks) fun b o e=>hx' b o (j' (OG e)) e;show OE _ _ (R4 [fun v=>Uw X.env y v,fun v=>Uw X.env x v] [u2,u1] >>= fun _=>pure WL) _ _ _;refine Ox (RZ (Vb (lY I3 hN hj (.inl hy) rw' (fun s2 I4=>?_) (.inr hy))));refine RZ (Vb (lY I4 hN hi (.inl hx) rv (fun s3 I5=>Ub (OC ?_)) (.inr hx)));rw[List.set_comm _ _ (Qv ld)]at I5;exact⟨_,H1,I5,q1⟩
noncomputable def GF(c:TT)(tb:TS):TS:=fun D σ H=>∃W:Nat->St->Hp->Prop,(∃m,W m σ H)/\∀m σ H,W m σ H->
 c σ H fun b H1=>if b=true then ∃N:St->Hp->Prop,(∀ f8 H',N f8 H'->∃m',m'<m/\W m' f8 H')/\tb { D with nx:=N,ct:=N,bk:=D.nx} σ H1 else D.nx σ H1
theorem B6{c:OL}{tc:TT}{tb:TS}(hp:TY (OJ X.prog X.w) X.A X.env X.xe)(hc:PT X c tc)(hb:PSs X body tb):PS X (.While c body [] pos) (GF tc tb):=by
 intro ac s σ H D I h;obtain⟨W,⟨m0,w0⟩,turn⟩:=h;refine wpAny_While (codeAny_whileLoop (fun n s'=>∃ f8 H',Inv X ac f8 H' s'/\W n f8 H') ?_ m0 ⟨σ,H,I,w0⟩);rintro n s1 ⟨σ1,H1,I1,w1⟩;refine Qw hp (thn (hc ac s1 σ1 H1 _ I1 (turn n σ1 H1 w1)) ?_);rintro b s2 ⟨H2,I2,q2⟩;cases b with
 |true=>
  obtain⟨N,hN,q2⟩:=q2;rw[if_pos rfl];refine Qw hp (thn (hb ac s2 σ1 H2 _ I2 q2) fun f s3 q3=>?_);cases f with
  |next=>
   obtain⟨σ3,H3,I3,n3⟩:=q3;obtain⟨m',hm,w3⟩:=hN σ3 H3 n3;exact⟨m',hm,σ3,H3,I3,w3⟩
  |cont=>
   obtain⟨σ3,H3,I3,n3⟩:=q3;obtain⟨m',hm,w3⟩:=hN σ3 H3 n3;exact⟨m',hm,σ3,H3,I3,w3⟩
  |brk=>exact q3
  |ret v=>exact q3
 |false=>
  rw[if_neg KL];exact RH ⟨σ1,H2,I2,q2⟩
end
structure It where
 go:Nat->Hp->Prop
 yld:Nat->Hp->V->Hp->Prop
 stop:Nat->Hp->Prop
noncomputable def mJ(X:Cx)(ac:List (Oz×Obj))(H:Hp)(b:Oz):Prop:=
 H b=none/\b≠X.env.locals/\b ∉ X.fs/\(b∈X.ex\/X.s₀.heap.objs.size<=b)/\(∀x c,X.env.cells.lookup x=some c->c≠b)/\∀p∈X.pn++ac,p.1≠b
theorem Inv.tH {H':Hp}(I:Inv X ac σ H s)(hb:s.heap.objs.size<=b)(hn:H' b=none):mJ X ac H' b:=by
 refine⟨hn,LD (A_ I.lt hb),I.K4 hb,.inr (B' I.sz hb),fun x c e z=>?_,fun p hp z=>?_⟩
 ·obtain⟨v,q⟩:=I.cell x c e;exact absurd (A_ q.lt (by rw[z];exact hb)) (Lf _)
 exact absurd (A_ (OG (I.pin p hp).1) (by rw[z];exact hb)) (Lf _)
structure Turn (P:OI) (w:OK) (K:OA) (tg:OL) (J:It) (fp:List Oz) (it:Oz) (tn:Nat->OM->Prop):Prop where
 mem:it∈fp
 obj:∀i h,tn i h->∀b∈fp,∃o,h.get? b=some o/\∀v,o.data≠.cell v
 keep:∀i h h',tn i h->(∀b∈fp,∀o,h.get? b=some o->h'.get? b=some o)->tn i h'
 item:∀(X:Cx),X.prog=P->X.w=w->X.K=K->X.calm=true->∀(i:Nat) (ac:List (Oz×Obj)) (s:OB) (σ:St) (H:Hp) (E:Oy->OB->Prop),Inv X ac σ H s->(∀b∈fp,mJ X ac H b)->tn i s.heap->J.go i H->
  OE (OJ P w) X.A (Qh (.ref it)) (fun r s1=>∃u,r=some u/\
   OE (OJ P w) X.A (RI tg (.ref it) u) (fun _ s2=>∃x H',Inv X ac σ H' s2/\RelV x u/\J.yld i H x H'/\tn (i+1) s2.heap/\∀b∈fp,H' b=none) E s1) E s
 done:∀(X:Cx),X.prog=P->X.w=w->X.K=K->X.calm=true->∀(i:Nat) (ac:List (Oz×Obj)) (s:OB) (σ:St) (H:Hp) (E:Oy->OB->Prop),Inv X ac σ H s->(∀b∈fp,mJ X ac H b)->tn i s.heap->J.stop i H->
  OE (OJ P w) X.A (Qh (.ref it)) (fun r s1=>r=none/\Inv X ac σ H s1) E s
 self:∀(A:OP) (i:Nat) (s:OB) (Q:Oy->OB->Prop) (E:Oy->OB->Prop),tn i s.heap->Q (.ref it) s->OE (OJ P w) A (RJ (.ref it)) Q E s
abbrev TI:=St->Hp->(It->Hp->Prop)->Prop
def PIE(X:Cx)(ac:List (Oz×Obj))(σ:St)(tg:OL)(R:It->Hp->Prop)(itv:Oy)(s2:OB):Prop:=
 ∃(it:Oz) (fp:List Oz) (tn:Nat->OM->Prop) (J:It) (H':Hp),itv=.ref it/\Inv X ac σ H' s2/\Turn X.prog X.w X.K tg J fp it tn/\tn 0 s2.heap/\(∀b∈fp,mJ X ac H' b)/\R J H'
def PI(X:Cx)(tg iter:OL)(wi:TI):Prop:=
 ∀(ac:List (Oz×Obj)) (s:OB) (σ:St) (H:Hp) (R:It->Hp->Prop),Inv X ac σ H s->wi σ H R->
  OE (OJ X.prog X.w) X.A (O1 iter X.env) (fun v s1=>OE (OJ X.prog X.w) X.A (RJ v) (PIE X ac σ tg R) X.xe s1) X.xe s
theorem zu{it:Oz}{o:Obj}{n:String}{vs:Array Oy}(ho:s.heap.get? it=some o)(hc:o.cls=.type n)(hd:o.data=.fields vs)
    (hn:["enumerate","zip","dict_itemiterator","dict_reverseitemiterator","odict_iterator","itertools.zip_longest","itertools.pairwise"].contains n=false) (hQ:Q () s):OE M A (RI tg (.ref it) u) Q E s:=by
  unfold RI;cases tg <;> first
    |exact OC hQ
    | (cases u <;> first
        |exact OC hQ
        | (refine Ox (Sf ho ?_)
           rw[hc,hd];show OE M A (if(["enumerate","zip","dict_itemiterator","dict_reverseitemiterator","odict_iterator","itertools.zip_longest","itertools.pairwise"].contains n&&vs[0]? == some (Pl _))=true then _ else _) Q E s;rw[if_neg (by intro h;rw[hn,Nk]at h;cases h)];exact OC hQ))
def Itl(K:OA)(a:Oz):It:=
 ⟨fun i H=>∃xs x,SqL K H a xs/\xs[i]?=some x,fun i H x H'=>H'=H/\∀xs,SqL K H a xs->xs[i]?=some x,fun i H=>∃xs,SqL K H a xs/\xs.length<=i⟩
def Itt(K:OA)(a:Oz):It:=
 ⟨fun i H=>∃xs x,SqT K H a xs/\xs[i]?=some x,fun i H x H'=>H'=H/\∀xs,SqT K H a xs->xs[i]?=some x,fun i H=>∃xs,SqT K H a xs/\xs.length<=i⟩
noncomputable def Itr(lo:Int)(n:Nat):It:=⟨fun i _=>i<n,fun i H x H'=>H'=H/\x=.int (lo+i),fun i _=>n<=i⟩
theorem A4(a it:Oz):Turn P w K tg (Itl K a) [it] it (fun i h=>h.IsListIter it a i) where
 mem:=by simp
 obj:=fun i h st b hb=>by
  have e:b=it:=by simpa using hb
  subst e;obtain⟨o,e,c,d⟩:=st;exact⟨o,e,fun v z=>by rw[d]at z;cases z⟩
 keep:=fun i h h' st k=>st.at fun o e=>k it (by simp) o e
 item:=by
  intro X hP hw hK hc i ac s σ H E I hf st hg;subst hP hw hK;obtain⟨xs,x,hq,hx⟩:=hg;obtain⟨be,rv,p,hz⟩:=I.list hq;obtain⟨u,hu,ru⟩:=rv.get hx;obtain⟨f0,f1,f2,f3,f4,f5⟩:=hf it (by simp);refine SW st p.isList (x:=u) (by simpa using hu) fun h' am sb=>?_
  have I1:Inv X ac σ H {s with heap:=h'}:=I.turned (t':=s.toks) (fun b o hb e=>(sb.2 b hb).trans e) f0 f1 f3 f4 f5;obtain⟨o,e,c,d⟩:=id am;exact⟨u,rfl,zu (s:={s with heap:=h'}) e c d (by decide) ⟨x,H,I1,ru,⟨rfl,fun ys hy=>by rw[I.pU hy hq];exact hx⟩,am,fun b hb=>(hf b hb).1⟩⟩
 done:=by intro X hP hw hK hc i ac s σ H E I hf st hg;subst hP hw hK;obtain⟨xs,hq,hx⟩:=hg;obtain⟨be,rv,p,hz⟩:=I.list hq;obtain⟨f0,f1,f2,f3,f4,f5⟩:=hf it (by simp);have hl:=rv.length;exact S7 (I.ok.hd hc) st p.isList (by simp;lia) fun h' eb=>⟨rfl,I.turned (t':=s.toks) (fun b o hb e=>eb b o hb e) f0 f1 f3 f4 f5⟩
 self:=fun _ _ _ _ _ st h=>wpAny_pyIter_listiter st h
theorem xu(a it:Oz):Turn P w K tg (Itt K a) [it] it (fun i h=>h.IsTupleIter it a i) where
 mem:=by simp
 obj:=fun i h st b hb=>by
  have e:b=it:=by simpa using hb
  subst e;obtain⟨o,e,c,d⟩:=st;exact⟨o,e,fun v z=>by rw[d]at z;cases z⟩
 keep:=fun i h h' st k=>st.at fun o e=>k it (by simp) o e
 item:=by
  intro X hP hw hK hc i ac s σ H E I hf st hg;subst hP hw hK;obtain⟨xs,x,hq,hx⟩:=hg;obtain⟨be,rv,p,hz⟩:=I.tuple hq;obtain⟨u,hu,ru⟩:=rv.get hx;obtain⟨f0,f1,f2,f3,f4,f5⟩:=hf it (by simp);refine wpAny_pyNext_tuple_item st (show s.heap.IsTuple a be.toArray from p) (x:=u) (by simpa using hu) fun h' am sb=>?_
  have I1:Inv X ac σ H {s with heap:=h'}:=I.turned (t':=s.toks) (fun b o hb e=>(sb.2 b hb).trans e) f0 f1 f3 f4 f5;obtain⟨o,e,c,d⟩:=id am;exact⟨u,rfl,zu (s:={s with heap:=h'}) e c d (by decide) ⟨x,H,I1,ru,⟨rfl,fun ys hy=>by rw[I.kK hy hq];exact hx⟩,am,fun b hb=>(hf b hb).1⟩⟩
 done:=by intro X hP hw hK hc i ac s σ H E I hf st hg;subst hP hw hK;obtain⟨xs,hq,hx⟩:=hg;obtain⟨be,rv,p,hz⟩:=I.tuple hq;obtain⟨f0,f1,f2,f3,f4,f5⟩:=hf it (by simp);have hl:=rv.length;exact wpAny_pyNext_tuple_end (I.ok.hd hc) st (show s.heap.IsTuple a be.toArray from p) (by simp;lia) fun h' eb=>⟨rfl,I.turned (t':=s.toks) (fun b o hb e=>eb b o hb e) f0 f1 f3 f4 f5⟩
 self:=fun _ _ _ _ _ st h=>wpAny_pyIter_tupleiter st h
theorem wq(it:Oz)(lo:Int)(n:Nat):Turn P w K tg (Itr lo n) [it] it (fun i h=>Wa h it (lo+(i:Nat)*1) ((n:Int)-(i:Nat)) 1) where
 mem:=by simp
 obj:=fun i h st b hb=>by
  have e:b=it:=by simpa using hb
  subst e;exact⟨_,st,fun v z=>by have z':Ul _=SK v:=z;cases z'⟩
 keep:=fun i h h' st k=>k it (by simp) _ st
 item:=by intro X hP hw hK hc i ac s σ H E I hf st hg;subst hP hw hK;obtain⟨f0,f1,f2,f3,f4,f5⟩:=hf it (by simp);have W:=Walks.range (prog:=X.prog) (w:=X.w) (I.ok.hd hc) it lo 1 n;refine W.item i s _ _ hg st fun v h' tk hv am kk=>?_;obtain⟨t,rfl⟩:=hv;have I1:Inv X ac σ H {s with heap:=h',toks:=tk}:=I.turned (fun b o hb e=>kk b o (by simpa using hb) e) f0 f1 f3 f4 f5;refine⟨_,rfl,zu (s:={s with heap:=h',toks:=tk}) (n:="range_iterator") am rfl rfl (by decide) ⟨.int (lo+i),H,I1,⟨t,?_⟩,⟨rfl,rfl⟩,am,fun b hb=>(hf b hb).1⟩⟩;rw[Int.mul_one]
 done:=by intro X hP hw hK hc i ac s σ H E I hf st hg;subst hP hw hK;obtain⟨f0,f1,f2,f3,f4,f5⟩:=hf it (by simp);exact wpAny_pyNext_range_end (I.ok.hd hc) st (by have:n<=i:=hg;lia) fun h' eb=>⟨rfl,I.turned (t':=s.toks) (fun b o hb e=>eb b o hb e) f0 f1 f3 f4 f5⟩
 self:=fun _ _ _ _ _ st h=>wpAny_pyIter_rangeiter st h
variable {fp:List Oz}
section
variable{X:Cx}{tg:OL}
theorem vn{R:It->Hp->Prop}{lo hi:Int}{t u v:Tok}{tk:Nat}(I:Inv X ac σ H s)(h1:-(2 ^ 62)<=lo)(h2:lo<2 ^ 62)(h3:-(2 ^ 62)<=hi)(h4:hi<2 ^ 62)
  (q:R (Itr lo (hi-lo).toNat) H):OE (OJ X.prog X.w) X.A (RJ (.ref s.heap.objs.size)) (PIE X ac σ tg R) E {s with heap:=s.heap.push { cls:=.type "range",data:=.fields #[.int lo t,.int hi u,.int 1 v] },toks:=tk}:=by
 refine wpAny_pyIter_range (IsRange.new ..) (small_one h1 h2 h3 h4) ?_;have I1:Inv X ac σ H {s with heap:=s.heap.push { cls:=.type "range",data:=.fields #[.int lo t,.int hi u,.int 1 v] },toks:=tk}:=I.kept fun b o e=>OD _ e;refine⟨(s.heap.push { cls:=.type "range",data:=.fields #[.int lo t,.int hi u,.int 1 v] }).objs.size,[(s.heap.push { cls:=.type "range",data:=.fields #[.int lo t,.int hi u,.int 1 v] }).objs.size],_,_,H,rfl,
  I1.kept (t':=tk) fun b o e=>OD _ e,wq _ lo (hi-lo).toNat,?_,fun b hb=>?_,q⟩
 ·have e1:lo+((0:Nat):Int)*1=lo:=by simp
  have e2:(((hi-lo).toNat:Nat):Int)-((0:Nat):Int)=V4 lo hi 1:=by rw[rangeSize_one];split <;> lia
  show Wa _ _ (lo+((0:Nat):Int)*1) ((((hi-lo).toNat:Nat):Int)-((0:Nat):Int)) 1;rw[e1,e2];exact OF _ rfl
 have e:b=(s.heap.push { cls:=.type "range",data:=.fields #[.int lo t,.int hi u,.int 1 v] }).objs.size:=by simpa using hb
 subst e;exact I1.tH (b_ _) (I1.hok.fresh (b_ _))
def ID(ta:TA):TI:=fun σ H R=>ta σ H fun vs H1=>∃j:Int,vs=[.int j]/\-(2 ^ 62)<=j/\j<2 ^ 62/\R (Itr 0 j.toNat) H1
def IU(ta:TA):TI:=fun σ H R=>ta σ H fun vs H1=>∃i j:Int,vs=[.int i,.int j]/\(-(2 ^ 62)<=i/\i<2 ^ 62/\-(2 ^ 62)<=j/\j<2 ^ 62)/\R (Itr i (j-i).toNat) H1
theorem Af{a:OL}{p:Pos}(hg:Gl X "range")(hm:X.mg "range"=none)(ha:PA X [a] ta)(hs:OO [a] X.env=[(false,O1 a X.env)]:=by rfl):PI X tg (.Call (.Name "range" p) [a] [] pos) (ID ta):=by
 intro ac s σ H R I h;refine Wu (iO I hg hm boot_range (PZ (thn (ha pos ac s σ H _ I h) fun us s1 ⟨vs,H1,I1,r1,q1⟩=>?_) hs rfl));obtain⟨j,e,q1,q2,q⟩:=q1;subst e;cases r1 with
 |cons r rr=>
  cases rr;obtain⟨t,rfl⟩:=r;exact call_range_1 (vn I1 (by lia) (by lia) q1 q2 (by simpa using q))
theorem A8{a b:OL}{p:Pos}(hg:Gl X "range")(hm:X.mg "range"=none)(ha:PA X [a,b] ta)(hs:OO [a,b] X.env=[(false,O1 a X.env),(false,O1 b X.env)]:=by rfl)(hs2:OO [b] X.env=[(false,O1 b X.env)]:=by rfl) :
  PI X tg (.Call (.Name "range" p) [a,b] [] pos) (IU ta):=by
 intro ac s σ H R I h;refine Wu (iO I hg hm boot_range (PZ (thn (ha pos ac s σ H _ I h) fun us s1 ⟨vs,H1,I1,r1,q1⟩=>?_) (by rw[hs,hs2]) (by rw[hs2];rfl)));obtain⟨i,j,e,⟨q1,q2,q3,q4⟩,q⟩:=q1;subst e;cases r1 with
 |cons r rr=>
  cases rr with
  |cons r' rr=>
   cases rr;obtain⟨t,rfl⟩:=r;obtain⟨t',rfl⟩:=r';exact call_range_2 (vn I1 q1 q2 q3 q4 q)
noncomputable def K3(wi:TI)(g:TG)(tb:TS):TS:=fun D σ H=>wi σ H fun J H1=>∃W:Nat->Nat->St->Hp->Prop,(∃m,W 0 m σ H1)/\∀i m σ H,W i m σ H->
 (J.stop i H/\D.nx σ H)\/(J.go i H/\∃N:St->Hp->Prop,(∀ f8 H',N f8 H'->∃m',m'<m/\W (i+1) m' f8 H')/\∀x H',J.yld i H x H'->g x σ H' fun σ2 H2=>tb { D with nx:=N,ct:=N,bk:=D.nx} σ2 H2)
noncomputable def nh(fp:List Oz)(h:OM):List (Oz×Obj):=fp.filterMap fun b=>(h.get? b).map fun o=>(b,o)
theorem ij{o:Obj}(hb:b∈fp)(e:h.get? b=some o):(b,o)∈nh fp h:=NB.mpr ⟨b,hb,by rw[e];rfl⟩
theorem As{p:Oz×Obj}(hp:p∈nh fp h):p.1∈fp/\h.get? p.1=some p.2:=by
 obtain⟨b,hb,e⟩:=NB.mp hp;cases q:h.get? b with
 |none=>rw[q]at e;cases e
 |some o=>
  rw[q]at e;have e':(b,o)=p:=C' e;subst e';exact⟨hb,q⟩
theorem Inv.pinned (I:Inv X ac σ H s)(hf:∀b∈fp,mJ X ac H b)(ho:∀b∈fp,∃o,s.heap.get? b=some o/\∀v,o.data≠.cell v):Inv X (ac++nh fp s.heap) σ H s:=
 I.zC fun p hp=>(F_.mp hp).elim (fun z=>I.pin p (w_ _ z)) fun z=>by obtain⟨hb,e⟩:=As z;obtain⟨f0,f1,f2,_⟩:=hf p.1 hb;obtain⟨o,e',d⟩:=ho p.1 hb;rw[e]at e';cases e';exact⟨e,f0,f1,f2,d⟩
theorem Inv.kF {pl:List (Oz×Obj)}(I:Inv X (ac++pl) σ H s):Inv X ac σ H s:=I.zC fun p hp=>I.pin p (w_ _ (KP _ hp))
theorem Gz{iter:OL}{wi:TI}{g:TG}{tb:TS}(hp:TY (OJ X.prog X.w) X.A X.env X.xe)(hc:X.calm=true)(hi:PI X tg iter wi)(hg:PG X tg g)(hb:PSs X body tb)
  (hs:∀x,Pw iter X.env x=pure x:=by intro _;rfl):PS X (.For tg iter body [] pos) (K3 wi g tb):=by
 intro ac s σ H D I h;refine wpAny_For (thn (hi ac s σ H _ I h) fun v s1 h1=>thn h1 fun itv s2 h2=>?_) hs;obtain⟨it,fp,tn,J,H2,e,I2,T,io,f2,W,⟨m0,w0⟩,turn⟩:=h2;subst e;have stat:∀{H':Hp},(∀b∈fp,H' b=none)->∀b∈fp,mJ X ac H' b:=fun hn b hb=>⟨hn b hb,(f2 b hb).2⟩;refine codeAny_forLoop_any (fun n s'=>∃i f8 H',Inv X ac f8 H' s'/\tn i s'.heap/\(∀b∈fp,H' b=none)/\W i n f8 H') ?_ m0 ⟨0,σ,H2,I2,io,fun b hb=>(f2 b hb).1,w0⟩;rintro n s3 ⟨i,σ3,H3,I3,jp,fr3,w3⟩;rcases turn i n σ3 H3 w3 with⟨stop,qn⟩|⟨go,N,hN,step⟩
 ·refine Qw hp (thn (T.done X rfl rfl rfl hc i ac s3 σ3 H3 X.xe I3 (stat fr3) jp stop) ?_);rintro r s4 ⟨hr,I4⟩;subst hr;exact RH ⟨σ3,H3,I4,qn⟩
 refine Qw hp (thn (T.item X rfl rfl rfl hc i ac s3 σ3 H3 X.xe I3 (stat fr3) jp go) ?_);rintro r s4 ⟨u,hr,h4⟩;subst hr;refine Qw hp (thn h4 ?_);rintro _ s5 ⟨x,H5,I5,r5,y5,st5,fr5⟩;have I5':=I5.pinned (stat fr5) (T.obj _ _ st5);refine Qw hp (thn (hg _ s5 σ3 H5 x u _ I5' r5 (step x H5 y5)) ?_);rintro _ s6 ⟨σ6,H6,I6,q6⟩;refine Qw hp (thn (hb _ s6 σ6 H6 _ I6 q6) fun f s7 q7=>?_);have again:∀{σ7:St}{H7:Hp},Inv X (ac++nh fp s5.heap) σ7 H7 s7->N σ7 H7->∃m,m<n/\∃i f8 H',Inv X ac f8 H' s7/\tn i s7.heap/\(∀b∈fp,H' b=none)/\W i m f8 H':=fun{σ7 H7} I7 n7=>by obtain⟨m',hm,w7⟩:=hN σ7 H7 n7;refine⟨m',hm,i+1,σ7,H7,I7.kF,T.keep _ _ _ st5 fun b hb o e=>(I7.pin (b,o) (w_ _ (w_ _ (ij hb e)))).1,fun b hb=>?_,w7⟩;obtain⟨o,e,d⟩:=T.obj _ _ st5 b hb;exact(I7.pin (b,o) (w_ _ (w_ _ (ij hb e)))).2.1
 cases f with
 |next=>obtain⟨σ7,H7,I7,n7⟩:=q7;exact again I7 n7
 |cont=>obtain⟨σ7,H7,I7,n7⟩:=q7;exact again I7 n7
 |brk=>obtain⟨σ7,H7,I7,q7⟩:=q7;exact⟨σ7,H7,I7.kF,q7⟩
 |ret v=>obtain⟨x7,σ7,H7,I7,r7,q7⟩:=q7;exact⟨x7,σ7,H7,I7.kF,r7,q7⟩
end
abbrev R2:=V->V->Hp->VK->Prop
def OpR(X:Cx)(f:Oy->Oy->Sem Oy)(r:R2):Prop:=
 ∀(ac:List (Oz×Obj)) (s:OB) (σ:St) (H:Hp) (x y:V) (v u:Oy) (Q:VK),Inv X ac σ H s->RelV x v->RelV y u->r x y H Q->
  OE (OJ X.prog X.w) X.A (f v u) (EP X ac σ Q) X.xe s
def UnR(X:Cx)(f:Oy->Sem Oy)(r:V->Hp->VK->Prop):Prop:=
 ∀(ac:List (Oz×Obj)) (s:OB) (σ:St) (H:Hp) (x:V) (v:Oy) (Q:VK),Inv X ac σ H s->RelV x v->r x H Q->
  OE (OJ X.prog X.w) X.A (f v) (EP X ac σ Q) X.xe s
def cH(X:Cx)(f:Oy)(r:List V->Hp->VK->Prop):Prop:=
 ∀(ac:List (Oz×Obj)) (s:OB) (σ:St) (H:Hp) (xs:List V) (us:List Oy) (Q:VK),Inv X ac σ H s->Vals xs us->r xs H Q->
  OE (OJ X.prog X.w) X.A (call f us) (EP X ac σ Q) X.xe s
def Ke(X:Cx)(r:V->Hp->(Bool->Hp->Prop)->Prop):Prop:=
 ∀(ac:List (Oz×Obj)) (s:OB) (σ:St) (H:Hp) (x:V) (v:Oy) (Q:Bool->Hp->Prop),Inv X ac σ H s->RelV x v->r x H Q->
  OE (OJ X.prog X.w) X.A (truthy v) (TP X ac σ Q) X.xe s
noncomputable def tOp(r:R2)(ta tb:TE):TE:=fun σ H Q=>ta σ H fun x H1=>tb σ H1 fun y H2=>r x y H2 Q
noncomputable def tUn(r:V->Hp->VK->Prop)(ta:TE):TE:=fun σ H Q=>ta σ H fun x H1=>r x H1 Q
noncomputable def rI(C:Int->Int->Prop)(g:Int->Int->V):R2:=fun x y H Q=>∃i j,x=.int i/\y=.int j/\C i j/\Q (g i j) H
noncomputable def rI0(g:Int->Int->V):R2:=fun x y H Q=>∃i j,x=.int i/\y=.int j/\Q (g i j) H
noncomputable def rU(g:Int->V):V->Hp->VK->Prop:=fun x H Q=>∃i,x=.int i/\Q (g i) H
variable {f:Oy->Oy->Sem Oy}{g:Int->Int->Int}{op:SM}
section
variable{X:Cx}{a b c:OL}{ta tb tc:TE}{pos:Pos}
theorem GX(ha:PE X a ta)(hb:PE X b tb){R:V->V->Hp->Prop}(I:Inv X ac σ H s)
  (h:ta σ H fun x H1=>tb σ H1 fun y H2=>R x y H2) {Q:Oy->OB->Prop} {f:Oy->Oy->Sem Oy}
  (hf:∀v u s2 x y H2,Inv X ac σ H2 s2->RelV x v->RelV y u->R x y H2->OE (OJ X.prog X.w) X.A (f v u) Q X.xe s2) :
  OE (OJ X.prog X.w) X.A (O1 a X.env) (fun v s₁=>OE (OJ X.prog X.w) X.A (O1 b X.env) (fun u s₂=>OE (OJ X.prog X.w) X.A (f v u) Q X.xe s₂) X.xe s₁) X.xe s:=by
 refine thn (ha ac s σ H _ I h) ?_;rintro v s1 ⟨x,H1,I1,r1,q1⟩;refine thn (hb ac s1 σ H1 _ I1 q1) ?_;rintro u s2 ⟨y,H2,I2,r2,q2⟩;exact hf v u s2 x y H2 I2 r1 r2 q2
theorem g9{op:Operator}{r:R2}(ho:OpR X (PD op) r)(ha:PE X a ta)(hb:PE X b tb):PE X (.BinOp a op b pos) (tOp r ta tb):=by intro ac s σ H Q I h;exact wpAny_BinOp (GX ha hb I h fun v u s2 x y H2 I2 rx ry q=>ho ac s2 σ H2 x y v u Q I2 rx ry q)
theorem JU{op:UnaryOp}{r:V->Hp->VK->Prop}(ho:UnR X (unaryOp op) r)(ha:PE X a ta):PE X (.UnaryOp op a pos) (tUn r ta):=by intro ac s σ H Q I h;exact UnaryOp_ (thn (ha ac s σ H _ I h) fun v s1 ⟨x,H1,I1,r1,q1⟩=>ho ac s1 σ H1 x v Q I1 r1 q1)
theorem opI{C:Int->Int->Prop}
  (rule:∀(i j:Int) (t u:Tok) (s:OB) (Q:Oy->OB->Prop) (E:Oy->OB->Prop),C i j->Q (.int (g i j) s.toks) {s with toks:=s.toks+1}->OE (OJ X.prog X.w) X.A (f (.int i t) (.int j u)) Q E s) :
  OpR X f (rI C fun i j=>.int (g i j)):=by
 intro ac s σ H x y v u Q I rx ry h;obtain⟨i,j,rfl,rfl,hc,q⟩:=h;obtain⟨t,rfl⟩:=rx;obtain⟨t',rfl⟩:=ry;exact rule i j t t' s _ _ hc ⟨.int (g i j),H,I.tok _,⟨_,rfl⟩,q⟩
theorem Jt
  (rule:∀(i j:Int) (t u:Tok) (s:OB) (Q:Oy->OB->Prop) (E:Oy->OB->Prop),Q (.int (g i j) s.toks) {s with toks:=s.toks+1}->OE (OJ X.prog X.w) X.A (f (.int i t) (.int j u)) Q E s) :
  OpR X f (rI0 fun i j=>.int (g i j)):=by
 intro ac s σ H x y v u Q I rx ry h;obtain⟨i,j,rfl,rfl,q⟩:=h;obtain⟨t,rfl⟩:=rx;obtain⟨t',rfl⟩:=ry;exact rule i j t t' s _ _ ⟨.int (g i j),H,I.tok _,⟨_,rfl⟩,q⟩
theorem Em{g:Int->Int->Bool}
  (rule:∀(i j:Int) (t u:Tok) (s:OB) (Q:Oy->OB->Prop) (E:Oy->OB->Prop),Q (.bool (g i j)) s->OE (OJ X.prog X.w) X.A (f (.int i t) (.int j u)) Q E s) :
  OpR X f (rI0 fun i j=>.bl (g i j)):=by
 intro ac s σ H x y v u Q I rx ry h;obtain⟨i,j,rfl,rfl,q⟩:=h;obtain⟨t,rfl⟩:=rx;obtain⟨t',rfl⟩:=ry;exact rule i j t t' s _ _ ⟨.bl (g i j),H,I,rfl,q⟩
noncomputable def DP(i j:Int):Prop:=0<j/\j<1073741824
noncomputable def Kz(i j:Int):Prop:=0<=j/\j<=1000000/\i.natAbs<2 ^ 64
noncomputable def wU(i j:Int):Prop:=(-(2 ^ 64)<i/\i<2 ^ 64)\/(-(2 ^ 64)<j/\j<2 ^ 64)
theorem wU.ok {i j:Int}(h:wU i j):IntMulOk i j:=by
 rcases h with⟨h1,h2⟩|⟨h1,h2⟩
 ·exact .of_left (Vs h1 h2)
 exact .of_right (Vs h1 h2)
theorem qe:OpR X (PD .Add) (rI0 fun i j=>.int (i+j)):=Jt fun _ _ _ _ _ _ _ q=>add_int q
theorem HS:OpR X (PD .Sub) (rI0 fun i j=>.int (i-j)):=Jt fun _ _ _ _ _ _ _ q=>sub_int q
theorem lG:OpR X (PD .Mult) (rI wU fun i j=>.int (i*j)):=opI fun _ _ _ _ _ _ _ hc q=>mul_int q hc.ok
theorem yR:OpR X (PD .FloorDiv) (rI DP fun i j=>.int (i/j)):=opI fun i j _ _ _ _ _ hc q=>by have h1:(0:Int)<j:=hc.1;have h2:j<1073741824:=hc.2;exact floordiv_int (by lia) (by rw[MO i (by lia)];exact q) (.inl (SX (by lia)))
theorem lM:OpR X (PD .Mod) (rI (fun _ j=>0<j) fun i j=>.int (i%j)):=opI fun i j _ _ _ _ _ hc q=>by have h1:(0:Int)<j:=hc;exact mod_int' (by lia) (by rw[MP i (by lia)];exact q)
theorem HL:OpR X (PD .Pow) (rI Kz fun i j=>.int (i ^ j.toNat)):=opI fun _ _ _ _ _ _ _ hc q=>pow_int_small hc.1 hc.2.1 hc.2.2 q
theorem unI{f:Oy->Sem Oy}{g:Int->Int}
  (rule:∀(i:Int) (t:Tok) (s:OB) (Q:Oy->OB->Prop) (E:Oy->OB->Prop),Q (.int (g i) s.toks) {s with toks:=s.toks+1}->OE (OJ X.prog X.w) X.A (f (.int i t)) Q E s) :
  UnR X f (rU fun i=>.int (g i)):=by
 intro ac s σ H x v Q I rx h;obtain⟨i,rfl,q⟩:=h;obtain⟨t,rfl⟩:=rx;exact rule i t s _ _ ⟨.int (g i),H,I.tok _,⟨_,rfl⟩,q⟩
theorem Hm:UnR X (unaryOp .USub) (rU fun i=>.int (-i)):=unI fun _ _ _ _ _ q=>neg_int q
theorem Ju:OpR X (OX .Lt) (rI0 fun i j=>.bl (decide (i<j))):=Em fun _ _ _ _ _ _ _ q=>lt_int q
theorem JF:OpR X (OX .LtE) (rI0 fun i j=>.bl (decide (i<=j))):=Em fun _ _ _ _ _ _ _ q=>le_int q
theorem Jc:OpR X (OX .Gt) (rI0 fun i j=>.bl (decide (j<i))):=Em fun _ _ _ _ _ _ _ q=>gt_int q
theorem JH:OpR X (OX .GtE) (rI0 fun i j=>.bl (decide (j<=i))):=Em fun _ _ _ _ _ _ _ q=>ge_int q
theorem aN(b:OL)(h:op≠.In:=by decide)(h2:op≠.NotIn:=by decide):QZ op b=false:=by
 have e1:(op == CmpOp.In)=false:=by cases op <;> first|rfl|exact absurd rfl h
 have e2:(op == CmpOp.NotIn)=false:=by cases op <;> first|rfl|exact absurd rfl h2
 cases b <;> simp[QZ,e1,e2]
theorem EL{r:R2}(ho:OpR X (OX op) r)(ha:PE X a ta)(hb:PE X b tb)(hm:QZ op b=false):PE X (.Compare a [op] [b] pos) (tOp r ta tb):=by intro ac s σ H Q I h;exact wpAny_Compare1 (GX ha hb I h fun v u s2 x y H2 I2 rx ry q=>ho ac s2 σ H2 x y v u Q I2 rx ry q) hm
noncomputable def C8(t:TE):TT:=fun σ H Q=>t σ H fun x H'=>∃k,x=.bl k/\Q k H'
theorem sS{r:R2}(ho:OpR X (OX op) r)(ha:PE X a ta)(hb:PE X b tb)(hm:QZ op b=false):PT X (.Compare a [op] [b] pos) (C8 (tOp r ta tb)):=by
 intro ac s σ H Q I h;refine wpAny_isTrue_Compare1 (thn (ha ac s σ H _ I h) fun v s1 ⟨x,H1,I1,r1,q1⟩=>thn (hb ac s1 σ H1 _ I1 q1) fun u s2 ⟨y,H2,I2,r2,q2⟩=>
  thn (ho ac s2 σ H2 x y v u _ I2 r1 r2 q2) fun c s3 ⟨z,H3,I3,r3,k,e,q3⟩=>?_) hm
 subst e;cases r3;exact PX ⟨H3,I3,q3⟩
noncomputable def xH(r r':R2)(ta tb tc:TE):TE:=fun σ H Q=>ta σ H fun x H1=>tb σ H1 fun y H2=>r x y H2 fun z H3=>∃k,z=.bl k/\
 (if k=true then tc σ H3 fun w' H4=>r' y w' H4 Q else Q (.bl false) H3)
theorem Bl{op':SM}{r r':R2}(ho:OpR X (OX op) r)(ho':OpR X (OX op') r')(ha:PE X a ta)(hb:PE X b tb)(hc:PE X c tc)
  (hm:TZ [op,op'] [b,c]=false:=by with_unfolding_all rfl):PE X (.Compare a [op,op'] [b,c] pos) (xH r r' ta tb tc):=by
 intro ac s σ H Q I h;refine Compare_chain (thn (ha ac s σ H _ I h) fun v s1 ⟨x,H1,I1,r1,q1⟩=>chain_link (thn (hb ac s1 σ H1 _ I1 q1) fun u s2 ⟨y,H2,I2,r2,q2⟩=>
  thn (ho ac s2 σ H2 x y v u _ I2 r1 r2 q2) fun d s3 ⟨z,H3,I3,r3,k,e,q3⟩=>?_)) hm
 subst e;cases r3;refine PX ?_;cases k with
 |false=>exact ite_ff ⟨.bl false,H3,I3,rfl,q3⟩
 |true=>exact ite_tt (chain_last (thn (hc ac s3 σ H3 _ I3 q3) fun w' s4 ⟨z',H4,I4,r4,q4⟩=>ho' ac s4 σ H4 y z' u w' Q I4 r2 r4 q4))
theorem D4{op':SM}{r r':R2}(ho:OpR X (OX op) r)(ho':OpR X (OX op') r')(ha:PE X a ta)(hb:PE X b tb)(hc:PE X c tc)
  (hm:TZ [op,op'] [b,c]=false:=by with_unfolding_all rfl):PT X (.Compare a [op,op'] [b,c] pos) (C8 (xH r r' ta tb tc)):=by
 intro ac s σ H Q I h;refine isTrue_chain (thn (ha ac s σ H _ I h) ?_) hm;rintro v s1 ⟨x,H1,I1,r1,q1⟩;refine test_link (thn (hb ac s1 σ H1 _ I1 q1) ?_);rintro u s2 ⟨y,H2,I2,r2,q2⟩;refine thn (ho ac s2 σ H2 x y v u _ I2 r1 r2 q2) ?_;rintro d s3 ⟨z,H3,I3,r3,k,e,q3⟩;subst e;cases r3;refine PX ?_;cases k with
 |false=>
  obtain⟨k',e',q'⟩:=q3;cases e';exact ite_ff ⟨H3,I3,q'⟩
 |true=>
  refine ite_tt (test_last (thn (hc ac s3 σ H3 _ I3 q3) ?_));rintro w' s4 ⟨z',H4,I4,r4,q4⟩;refine thn (ho' ac s4 σ H4 y z' u w' _ I4 r2 r4 q4) ?_;rintro d' s5 ⟨z2,H5,I5,r5,k2,e2,q5⟩;subst e2;cases r5;exact PX ⟨H5,I5,q5⟩
def Gg(K:OA)(x:V)(H:Hp)(k:Bool):Prop:=
 match x with
 | .non=>k=false
 | .bl b=>k=b
 | .int i=>k=(i != 0)
 | .str y=>y.length<=sizeLine/\k=((y.length:Int) != 0)
 | .byt y=>y.size<=sizeLine/\k=((y.size:Int) != 0)
 | .ref p=>(∃xs,SqL K H p xs/\k=!xs.isEmpty)\/(∃xs,SqT K H p xs/\k=!xs.isEmpty)\/∃kvs,H p=some (.dK kvs)/\k=!kvs.isEmpty
 | _=>False
theorem wu{κ:Type}{kvs:List (κ×V)}{vs:List (κ×Oy)}(r:KV kvs vs):(!vs.isEmpty)=!kvs.isEmpty:=by cases r <;> rfl
theorem pP{be:List Oy}(r:Vals xs be):(!be.toArray.isEmpty)=!xs.isEmpty:=by cases r <;> simp
theorem lO:(sizeLine:Nat)<2 ^ 63:=by rw[sizeLine_eq];decide
theorem Ig:Ke X (fun x H Q=>∃k,Gg X.K x H k/\Q k H):=by
 intro ac s σ H x v Q I rx h;obtain⟨k,e,q⟩:=h;have hl:=lO;have hs:sizeLine=16777216:=sizeLine_eq;cases x with
 |non=>
  cases rx;have e':k=false:=e;subst e';exact truthy_none ⟨H,I,q⟩
 |bl b=>
  cases rx;have e':k=b:=e;subst e';exact PX ⟨H,I,q⟩
 |int i=>
  obtain⟨t,rfl⟩:=rx;have e':k=(i != 0):=e;subst e';exact PySem.P.truthy_int ⟨H,I,q⟩
 |str y=>
  obtain⟨t,rfl⟩:=rx;obtain⟨hy,e'⟩:y.length<=sizeLine/\k=((y.length:Int) != 0):=e;subst e';exact PySem.P.truthy_str (by lia) ⟨H,I.tok _,q⟩
 |byt y=>
  obtain⟨t,rfl⟩:=rx;obtain⟨hy,e'⟩:y.size<=sizeLine/\k=((y.size:Int) != 0):=e;subst e';exact PySem.W.truthy_bytes (by lia) ⟨H,I.tok _,q⟩
 |ref p=>
  cases rx;have e':(∃xs,SqL X.K H p xs/\k=!xs.isEmpty)\/(∃xs,SqT X.K H p xs/\k=!xs.isEmpty)\/∃kvs,H p=some (.dK kvs)/\k=!kvs.isEmpty:=e;rcases e' with⟨xs,hx,e'⟩|⟨xs,hx,e'⟩|⟨kvs,hx,e'⟩
  ·subst e';obtain⟨be,r,pl,hz⟩:=I.list hx;have hlen:=r.length;exact wpAny_truthy_list pl.isList (by simp only[i_];lia) ⟨H,I.tok _,by rw[pP r];exact q⟩
  ·subst e';obtain⟨be,r,pl,hz⟩:=I.tuple hx;have hlen:=r.length;exact truthy_tuple pl (by simp only[i_];lia) ⟨H,I.tok _,by rw[pP r];exact q⟩
  ·subst e';obtain⟨hz,hS,vs,r,m⟩:kvs.length<=sizeLine/\(p == O0)=false/\∃vs,KV kvs vs/\s.heap.DictOf (bx X.prog X.w) p vs:=I.hok p _ hx;have hlen:kvs.length=vs.length:=PH r;exact wpAny_truthy_dict hS m (by lia) ⟨H,I.tok _,by rw[wu r];exact q⟩
 | _=>exact(show False from e).elim
theorem CF(ha:PE X a ta)(he:∀whole,TU a X.env whole=(do let v <-whole;Va a.pos;QS [v] (truthy v))) :
  PT X a (fun σ H Q=>ta σ H fun x H'=>∃k,Gg X.K x H' k/\Q k H'):=by
 intro ac s σ H Q I h;exact isTrue_plain (thn (ha ac s σ H _ I h) fun v s1 ⟨x,H1,I1,r1,q1⟩=>Ig ac s1 σ H1 x v Q I1 r1 q1) (he _)
theorem wb:OpR X (PD .Add) (fun x y H Q=>∃i j,x=.str i/\y=.str j/\i.length+j.length<=sizeLine/\Q (.str (i++j)) H):=by intro ac s σ H x y v u Q I rx ry h;obtain⟨i,j,rfl,rfl,hz,q⟩:=h;obtain⟨t,rfl⟩:=rx;obtain⟨t',rfl⟩:=ry;exact add_str (fun t' tk=>⟨.str (i++j),H,I.tok _,⟨_,rfl⟩,q⟩) hz
theorem vals1{x:V}(r:Vals [x] us):∃u,us=[u]/\RelV x u:=by
 cases r with
 |cons r1 r2=>cases r2;exact⟨_,rfl,r1⟩
theorem vals2{x y:V}(r:Vals [x,y] us):∃u w',us=[u,w']/\RelV x u/\RelV y w':=by
 cases r with
 |cons r1 r2=>
  cases r2 with
  |cons r3 r4=>cases r4;exact⟨_,_,rfl,r1,r3⟩
theorem C3:cH X (.builtin "abs") (fun xs H Q=>∃i,xs=[.int i]/\Q (.int (if i<0 then -i else i)) H):=by intro ac s σ H xs us Q I r h;obtain⟨i,rfl,q⟩:=h;obtain⟨u,rfl,t,rfl⟩:=vals1 r;exact call_abs_int fun u tk=>⟨.int (if i<0 then -i else i),H,I.tok _,⟨_,rfl⟩,q⟩
theorem Az(hc:X.calm=true):cH X (.builtin "max") (fun xs H Q=>∃i j,xs=[.int i,.int j]/\Q (.int (if j > i then j else i)) H):=by
 intro ac s σ H xs us Q I r h;obtain⟨i,j,rfl,q⟩:=h;obtain⟨u,w',rfl,⟨t,rfl⟩,⟨t',rfl⟩⟩:=vals2 r;refine max_two_ints (I.ok.hd hc) fun h' tk k=>⟨_,H,I.kept k,?_,q⟩;by_cases hj:j > i
 ·rw[if_pos hj,if_pos hj];exact⟨_,rfl⟩
 rw[if_neg hj,if_neg hj];exact⟨_,rfl⟩
theorem zO(hc:X.calm=true):cH X (.builtin "min") (fun xs H Q=>∃i j,xs=[.int i,.int j]/\Q (.int (if j<i then j else i)) H):=by
 intro ac s σ H xs us Q I r h;obtain⟨i,j,rfl,q⟩:=h;obtain⟨u,w',rfl,⟨t,rfl⟩,⟨t',rfl⟩⟩:=vals2 r;refine min_two_ints (I.ok.hd hc) fun h' tk k=>⟨_,H,I.kept k,?_,q⟩;by_cases hj:j<i
 ·rw[if_pos hj,if_pos hj];exact⟨_,rfl⟩
 rw[if_neg hj,if_neg hj];exact⟨_,rfl⟩
theorem qM:cH X (.type "int") (fun xs H Q=>(∃i,xs=[.int i]/\Q (.int i) H)\/∃k,xs=[.bl k]/\Q (.int (if k then 1 else 0)) H):=by
 intro ac s σ H xs us Q I r h;rcases h with⟨i,rfl,q⟩|⟨k,rfl,q⟩
 ·obtain⟨u,rfl,t,rfl⟩:=vals1 r;exact call_int_int ⟨.int i,H,I,⟨_,rfl⟩,q⟩
 obtain⟨u,rfl,r1⟩:=vals1 r;cases r1;exact call_int_bool ⟨.int (if k then 1 else 0),H,I.tok _,⟨_,rfl⟩,q⟩
theorem vo:cH X (.builtin "divmod") (fun xs H Q=>∃i j,xs=[.int i,.int j]/\DP i j/\∀p,H p=none->Q (.ref p) (upd H p (.tup [.int (i/j),.int (i%j)]))):=by intro ac s σ H xs us Q I r h;obtain⟨i,j,rfl,⟨h1,h2⟩,q⟩:=h;obtain⟨u,w',rfl,⟨t,rfl⟩,⟨t',rfl⟩⟩:=vals2 r;refine divmod_int (by lia) ?_ (.inl (SX (by lia)));rw[MO i (by lia),MP i (by lia)];have hn:H s.heap.objs.size=none:=I.hok.fresh (b_ _);refine⟨.ref s.heap.objs.size,_,?_,rfl,q _ hn⟩;refine I.laid (fun b o e=>OD _ e) (b_ _) ⟨by simp only[g_,LP];rw[sizeLine_eq];decide,[.int (i/j) s.toks,.int (i%j) (s.toks+1)],.cons ⟨_,rfl⟩ (.cons ⟨_,rfl⟩ .nil),?_⟩;exact⟨_,OF s.heap rfl,rfl,0,rfl⟩
end
theorem qy.some_of {o:Option Oy}(r:qy (some v) o):∃u,o=some u/\RelV v u:=by
 cases o with
 |none=>exact(show False from r).elim
 |some u=>exact⟨u,rfl,r⟩
structure Room (k:Nat) (A:OP):Prop where
 hd:A.handled=none
 dp:A.depth+3*k+5<recursionLimit
 un:A.units+16*k+200<cLine
 gs:A.guards=some []
theorem Room.mono {k:Nat}(r:Room k A)(h:j<=k):Room j A:=⟨r.hd,by have:=r.dp;lia,by have:=r.un;lia,r.gs⟩
theorem Room.deeper {k:Nat}(r:Room (k+1) A)(env:Env):Room k (A.deeper env):=
 ⟨r.hd,by have:=r.dp;show A.depth+1+3*k+5<_;lia,by have:=r.un;show A.units+3+16*k+200<_;lia,r.gs⟩
theorem Room.depth {k:Nat}(r:Room k A):A.depth<recursionLimit:=by have:=r.dp;lia
theorem Room.units {k:Nat}(r:Room k A):A.units+64<cLine:=by have:=r.un;lia
noncomputable def Kf:TA:=fun _ H Q=>Q [] H
noncomputable def JK(ta:TE)(tr:TA):TA:=fun σ H Q=>ta σ H fun x H1=>tr σ H1 fun xs H2=>Q (x::xs) H2
section
variable{X:Cx}{e:OL}{es:List OL}{te:TE}{t:TA}{pos:Pos}
theorem lH:PA X [] Kf:=fun _ _ _ _ H Q I h=>Uc ⟨[],H,I,.nil,h⟩
theorem j3(ha:PE X e te)(hr:PA X es t)(hs:OO (e::es) X.env=(false,O1 e X.env)::OO es X.env:=by rfl):PA X (e::es) (JK te t):=by intro pos ac s σ H Q I h;rw[hs];show OE _ _ (spliced ((false,O1 e X.env)::QF pos (OO es X.env))) _ _ s;refine P9 (thn (ha ac s σ H _ I h) ?_);rintro u s1 ⟨x,H1,I1,r1,q1⟩;exact thn (hr pos ac s1 σ H1 _ I1 q1) fun us s2 ⟨xs,H2,I2,r2,q2⟩=>⟨x::xs,H2,I2,.cons r1 r2,q2⟩
def K7(t:TA):TE:=fun σ H Q=>t σ H fun xs H1=>xs.length<=sizeLine/\∀p,H1 p=none->Q (.ref p) (upd H1 p (.lst xs))
theorem Bf(h:PA X es t):PE X (.List es pos) (K7 t):=by intro ac s σ H Q I hq;refine T1 (thn (h pos ac s σ H _ I hq) fun us s1 ⟨xs,H1,I1,r,z,q⟩=>⟨by rw[<-r.length];exact z,?_⟩);have hf:H1 s1.heap.objs.size=none:=I1.hok.fresh (b_ _);refine⟨.ref s1.heap.objs.size,upd H1 s1.heap.objs.size (.lst xs),I1.laid (t':=s1.toks) (fun b u e=>OD _ e) (b_ _) ?_,rfl,q _ hf⟩;exact⟨z,us,0,r,OF _ rfl⟩
end
abbrev Sp:=List V->Hp->VK->XK->Prop
abbrev CXT:=List Env->Hp->OB->XK->Oy->OB->Prop
structure Env0 (P:OI) (w:OK) (K:OA) (mg:Str->Option Oy) (base:OM) (A:OP) (outer:List Env) (s:OB) (H:Hp):Prop where
 frames:A.frames=some outer
 mod:Mod K mg base
 bs:∀b o,base.get? b=some o->s.heap.get? b=some o/\H b=none
 bsz:base.objs.size<=s.heap.objs.size
 pH:s.heap.FunFrames base outer
 frf:∀b∈frs outer,H b=none
 hok:HOk P w H s.heap
 bare:RB s.gens
def CE(outer:List Env)(P:OI)(w:OK)(H:Hp)(s:OB)(Q:VK)(u:Oy)(s':OB):Prop:=
 ∃v H',s'.os=s.os/\RB s'.gens/\Un (frs outer) [] H H' s.heap s'.heap/\HOk P w H' s'.heap/\RelV v u/\Q v H'
def CR(CX:CXT)(outer:List Env)(P:OI)(w:OK)(H:Hp)(s:OB)(Q:VK)(E:XK)(r:UM)(s':OB):Prop:=
 match r with
 | .ok (.ret u)=>CE outer P w H s Q u s'
 | .ok _=>False
 | .error e=>CX outer H s E e s'
structure FnOk (P:OI) (w:OK) (K:OA) (mg:Str->Option Oy) (base:OM) (CX:CXT) (k:Nat) (f:Oz) (fd:OR) (ps:List Str) (sp:Sp):Prop where
 len:∀vs H Q E,sp vs H Q E->vs.length=ps.length
 run:∀(A:OP) (outer:List Env) (s:OB) (H:Hp) (args:Args) (us:List Oy) (vs:List V) (Q:VK) (E:XK),Room k A->Env0 P w K mg base A outer s H->S8 s fd args (ps.zip us)->Vals vs us->sp vs H Q E->
  Qx (OJ P w) A (.call (.ref f) args) (CR CX outer P w H s Q E) s
variable {CX:CXT}{base:OM}{mg:Str->Option Oy}{ps:List Str}
theorem FnOk.imp {k:Nat}{f:Oz}{fd:OR}{sp sp':Sp}(F:FnOk P w K mg base CX k f fd ps sp)
  (h:∀vs H Q E,sp' vs H Q E->sp vs H Q E):FnOk P w K mg base CX k f fd ps sp':=
 ⟨fun vs H Q E q=>F.len vs H Q E (h _ _ _ _ q),fun A outer s H args us vs Q E hr he hb hv hs=>F.run A outer s H args us vs Q E hr he hb hv (h _ _ _ _ hs)⟩
section
variable{X:Cx}{ac:List (Oz×Obj)}{σ:St}{H:Hp}{s s':OB}
theorem Inv.Kq (I:Inv X ac σ H s):Env0 X.prog X.w X.K X.mg X.base X.A X.stack s H:=
 ⟨I.ok.frames,I.ok.mod,I.bs,B' I.ok.bsz I.sz,I.stack,I.xM,I.hok,I.bare⟩
theorem Inv.after {Q:VK}(I:Inv X ac σ H s)(h:CE X.stack X.prog X.w H s Q u s'):EP X ac σ Q u s':=by obtain⟨v,H',os,bare,un,hok,r,q⟩:=h;obtain⟨hh,g,d,t,os'⟩:=s';obtain rfl:os'=s.os:=os;exact⟨v,H',I.call (h':=hh) (g':=g) (d':=d) (t':=t) (ch:=[]) un hok bare (fun b z=>absurd z (by simp)),r,q⟩
end
noncomputable def CZ(sp:Sp)(dvs:List V)(E:XK)(t:TA):TE:=fun σ H Q=>t σ H fun vs H1=>sp (vs++dvs) H1 Q E
noncomputable def Binds(K:OA)(fd:OR)(ps:List Str)(ds:List Oy):Prop:=
 ∀(s:OB) (us:List Oy),K.In s.heap->(us++ds).length=ps.length->S8 s fd ⟨us,[]⟩ (ps.zip (us++ds))
theorem Binds.all {fd:OR}(h:∀us:List Oy,us.length=ps.length->VL fd ⟨us,[]⟩=pure (ps.zip us)):Binds K fd ps []:=fun s us _ hl=>by rw[J']at hl ⊢;exact .of_eq (h us hl)
noncomputable def Passes(CX:CXT)(X:Cx)(E:XK):Prop:=∀(ac:List (Oz×Obj)) (σ:St) (H:Hp) (s:OB) (e:Oy) (s':OB),Inv X ac σ H s->CX X.stack H s E e s'->X.xe e s'
variable {vs:List V}
section
variable{X:Cx}{CX:CXT}{k:Nat}{f C:Oz}{fd:OR}{ps:List Str}{sp:Sp}{dvs:List V}{ds:List Oy}{E:XK}{x m:Str}{p pos apos:Pos}{e o:OL}{es:List OL}{ta:TE}{t:TA}
theorem Hc{Q:VK}(F:FnOk X.prog X.w X.K X.mg X.base CX k f fd ps sp)(hr:Room k X.A)(hb:Binds X.K fd ps ds)(hd:Vals dvs ds)(hx:Passes CX X E)
  (I:Inv X ac σ H s) (r:Vals vs us) (h:sp (vs++dvs) H Q E):OE (OJ X.prog X.w) X.A (call (.ref f) us) (EP X ac σ Q) X.xe s:=by
 have r2:Vals (vs++dvs) (us++ds):=r.append hd;have hl:(us++ds).length=ps.length:=by rw[<-r2.length];exact F.len _ _ _ _ h
 refine wpAny_call (Qm (F.run X.A X.stack s H ⟨us,[]⟩ (us++ds) (vs++dvs) Q E hr I.Kq (hb s us I.kIn hl) r2 h) fun r s' hq=>?_);cases r with
 |error e=>exact hx ac σ H s e s' I hq
 |ok fl=>
  cases fl with
  |ret u=>exact I.after hq
  |next=>exact ON hq
  |brk=>exact ON hq
  |cont=>exact ON hq
theorem F4(F:FnOk X.prog X.w X.K X.mg X.base CX k f fd ps sp)(hr:Room k X.A)(hg:Gl X x)(hm:X.mg x=some (.ref f))(hk:Rm X.K (.ref f)=true)(hb:Binds X.K fd ps ds)(hd:Vals dvs ds)(hx:Passes CX X E)
  (ha:PA X (e::es) t) (hdb:(x ==("__debug__":Str))=false:=by decide) (he:OO (e::es) X.env=(false,O1 e X.env)::OO es X.env:=by rfl) (hpl:(QF pos (OO es X.env)).any (·.1)=false:=by rfl) :
  PE X (.Call (.Name x p) (e::es) [] pos) (CZ sp dvs E t):=by
 intro ac s σ H Q I h;refine P_ (xU I hg hm ?_ hdb);refine PySem.W.callWith_K (h₀:=X.base) I.ok.mod.kin hk (thn (ha pos ac s σ H _ I h) fun us s1 ⟨vs,H1,I1,r,q⟩=>⟨I1.kIn,?_⟩) he hpl;exact Hc F hr hb hd hx I1 r q
end
structure FnScope (N P:List Str) (sc:PC):Prop where
 kind:sc.kind=.function
 co:sc.isCoroutine=false
 gen:sc.isGenerator=false
 nd:N.Nodup
 pre:N.take P.length=P
 par:∀x∈P,sc.names.lookup x=some .local\/sc.names.lookup x=some .cell
 nofree:∀y∈sc.names,y.2≠.free
theorem rW{kindOf:Str->Option QG}{x:Str}:∀{binds:List (Str×Oy)}{m:Str->Option Oy},(∀v,(x,v) ∉ binds)->To kindOf binds m x=m x
 | [],_,_=>rfl
 | (n,v)::r,m,h=>by
  unfold To;rw[rW fun w hw=>h w (m_ _ hw)];split
  ·have:x≠n:=by rintro rfl;exact h v x_
   simp[this]
  rfl
theorem rQ{kindOf:Str->Option QG}{x:Str}:∀{binds:List (Str×Oy)}{m:Str->Option Oy},(∀v,(x,v) ∉ binds)->Tp kindOf binds m x=m x
 | [],_,_=>rfl
 | (n,v)::r,m,h=>by
  unfold Tp;rw[rQ fun w hw=>h w (m_ _ hw)];split
  ·rfl
  have:x≠n:=by rintro rfl;exact h v x_
  simp[this]
theorem qQ{kindOf:Str->Option QG}{x:Str}{v:Oy}:∀{P:List Str}{vs:List Oy}{i:Nat}{m:Str->Option Oy},P.Nodup->P[i]?=some x->vs[i]?=some v->kindOf x=some .local->
  To kindOf (P.zip vs) m x=some v
 | [],_,_,_,_,h,_,_=>by simp at h
 | _::_,[],_,_,_,_,h,_=>by simp at h
 |p::P,w::vs,0,m,nd,h1,h2,hk=>by simp at h1 h2;subst h1;subst h2;show To kindOf ((p,w)::P.zip vs) m p=_;unfold To;rw[rW fun v hv=>(C_.mp nd).1 (M' hv).1,if_pos hk];simp
 |p::P,w::vs,i+1,m,nd,h1,h2,hk=>by show To kindOf ((p,w)::P.zip vs) m x=_;unfold To;exact qQ (i:=i) (C_.mp nd).2 (by simpa using h1) (by simpa using h2) hk
theorem rn{kindOf:Str->Option QG}{x:Str}{v:Oy}:∀{P:List Str}{vs:List Oy}{i:Nat}{m:Str->Option Oy},P.Nodup->P[i]?=some x->vs[i]?=some v->kindOf x≠some .local->
  Tp kindOf (P.zip vs) m x=some v
 | [],_,_,_,_,h,_,_=>by simp at h
 | _::_,[],_,_,_,_,h,_=>by simp at h
 |p::P,w::vs,0,m,nd,h1,h2,hk=>by simp at h1 h2;subst h1;subst h2;show Tp kindOf ((p,w)::P.zip vs) m p=_;unfold Tp;rw[rQ fun v hv=>(C_.mp nd).1 (M' hv).1,if_neg hk];simp
 |p::P,w::vs,i+1,m,nd,h1,h2,hk=>by show Tp kindOf ((p,w)::P.zip vs) m x=_;unfold Tp;exact rn (i:=i) (C_.mp nd).2 (by simpa using h1) (by simpa using h2) hk
noncomputable def start(N:List Str)(vs:List V):St:=vs.map some++z_ (N.length-vs.length) none
noncomputable def wx(CX:CXT)(P:OI)(w:OK)(K:OA)(mg:Str->Option Oy)(base:OM)(N:List Str)(qual:Str)(scope:PC)(f:Oz)(cd:Oy)(A:OP)(outer:List Env)(s:OB)(H:Hp)(E:XK):Cx where
 prog:=P
 w:=w
 K:=K
 mg:=mg
 base:=base
 A:=A.deeper (RK qual scope s.heap.objs.size f cd)
 N:=N
 s₀:=s
 H₀:=H
 env:=RK qual scope s.heap.objs.size f cd
 outer:=outer
 stack:=RK qual scope s.heap.objs.size f cd::outer
 ex:=[]
 calm:=true
 fn:=fun _=>true
 pn:=[]
 xe:=fun e s'=>OE (OJ P w) (A.deeper (RK qual scope s.heap.objs.size f cd)) (leaving (RK qual scope s.heap.objs.size f cd) e) (fun _ s''=>CX outer H s E e s'') (fun e' s''=>CX outer H s E e' s'') s'
theorem uV{sc:PC}{n:Nat}(h:sc.names.lookup x=some .cell):∃c,(Vp n sc.names []).lookup x=some c:=by have q:=SY sc.names n [] (.inl h);exact Option.isSome_iff_exists.mp q
theorem zR{qual:Str}{scope:PC}{f:Oz}{cd:Oy}{outer:List Env}{s1:OB}{E:XK}
  (S:FnScope N ps scope) (hd:A.handled=none) (e0:Env0 P w K mg base A outer s H) (hl:vs.length=ps.length) (r:Vals vs us)
  (x:InCallC s s.heap.objs.size (To (RK qual scope s.heap.objs.size f cd).kindOf (ps.zip us) fun _=>none) (Vp (s.heap.objs.size+1) scope.names []) (Tp (RK qual scope s.heap.objs.size f cd).kindOf (ps.zip us) fun _=>none) s1) :
  Inv (wx CX P w K mg base N qual scope f cd A outer s H E) [] (start N vs) H s1:=by
 have hpl:ps.length<=N.length:=by have:=congrArg NO S.pre;rw[B_]at this;lia
 obtain⟨h1,tk,rfl,hk⟩:=x.done;have noA:∀b:Oz,b ∉ (wx CX P w K mg base N qual scope f cd A outer s H E).ex:=fun b z=>absurd (show b∈([]:List Oz)from z) (by simp)
 refine⟨⟨e0.mod,S.kind,rfl,rfl,b_ _,fun y z c h1 h2=>?_,fun y hy=>?_,fun y c _ h=>?_,fun _=>hd,Around.frames_deeper e0.frames,.inr ⟨rfl,rfl⟩,fun b z=>absurd z (noA b),e0.bs,e0.bsz,fun b _ _=>noA b,fun b z=>absurd z (noA b),e0.pH,e0.frf⟩,
  rfl,e0.bare,Un.kept hk,⟨_,x.toInCall.ns,fun i y v h1 h2 h3=>?_⟩,fun y c h=>⟨_,x.cell y c h⟩,e0.hok.fresh (b_ _),fun y c h=>?_,fun p hp=>absurd (show p∈([]:List (Oz×Obj))from hp) (by simp),e0.hok.kept hk,?_⟩
 ·exact name_of_addr x.apart (P0 h1) (P0 h2)
 ·have hy:scope.names.lookup y=some .cell\/scope.names.lookup y=some .free:=hy;rcases hy with hy|hy
  ·exact uV hy
  exact absurd rfl (S.nofree _ (P0 hy))
 ·exact KR (x.above y c (P0 h))
 ·have hi:i<vs.length:=by
   unfold start at h2;by_cases hi:i<vs.length
   ·exact hi
   rw[List.getElem?_append_right (by simpa using hi)]at h2;rw[List.getElem?_replicate]at h2;split at h2 <;> cases h2
  have ha:vs[i]?=some v:=by
   unfold start at h2;rw[MZ (by simpa using hi),p_]at h2;cases e:vs[i]? with
   |none=>rw[e]at h2;cases h2
   |some a=>rw[e]at h2;cases h2;rfl
  obtain⟨u,hu,rv⟩:=r.get ha;have hp:ps[i]?=some y:=by rw[<-S.pre,Mg (by lia)];exact h1
  have ndP:ps.Nodup:=by rw[<-S.pre];exact S.nd.sublist (List.take_sublist _ _)
  refine⟨u,rv,?_⟩;rcases S.par y (H_ hp)with k|k
  ·exact .inl ⟨k,qQ ndP hp hu k⟩
  obtain⟨c,e⟩:=uV (n:=s.heap.objs.size+1) k;refine .inr ⟨.inl k,c,e,?_⟩;have q:=x.cell y c e;rw[rn ndP hp hu (by show scope.names.lookup y≠_;rw[k];decide)]at q;exact q
 ·exact e0.hok.fresh (KR (x.above y c (P0 h)))
 unfold start;show _=N.length;rw[gV,a_,Mv];lia
theorem JO{k:Nat}{f:Oz}{name qual:Str}{params:Arguments}{scope:PC}{dV kV doc pm cdv ct oc:Oy}{an od:Option Oz}
  {osl:Array (Option Oy)}{N ps:List Str}{sp:Sp} (lk:K.lookup f=some ⟨oc,od,.func (Qn name qual params body scope dV kV doc pm an cdv ct),osl⟩) (hcd:RR K cdv qual=true) (S:FnScope N ps scope)
  (len:∀vs H Q E,sp vs H Q E->vs.length=ps.length)
  (hbody:∀(A:OP) (outer:List Env) (s:OB) (H:Hp) (vs:List V) (Q:VK) (E:XK),Room k (A.deeper (RK qual scope s.heap.objs.size f cdv))->sp vs H Q E->
   ∃t,PSs (wx CX P w K mg base N qual scope f cdv A outer s H E) body t/\t { nx:=fun _ H'=>Q .non H',rt:=Q} (start N vs) H) :
  FnOk P w K mg base CX (k+1) f (Qn name qual params body scope dV kV doc pm an cdv ct) ps sp:=by
 refine⟨len,fun A outer s H args us vs Q E hr e0 hb r hsp=>?_⟩;have hl:=len _ _ _ _ hsp;have KX:K.In s.heap:=e0.mod.kin.keeps fun b o e=>(e0.bs b o e).1;have lim:s.heap.NoLimit:=e0.mod.nolimit.keeps fun b o e=>(e0.bs b o e).1;have hkind:∀y∈ps.zip us,scope.names.lookup y.1=some .local\/(scope.names.lookup y.1=some .cell/\((Vp (s.heap.objs.size+1) scope.names []).lookup y.1).isSome=true):=fun⟨n,v⟩ hy=>by
  rcases S.par n (M' hy).1 with q|q
  ·exact .inl q
  exact .inr ⟨q,SY _ _ _ (.inl q)⟩
 refine codeAny_call_function hr.depth (KX _ _ lk) rfl S.co S.gen rfl (PySem.W.codeRec_of KX hcd) (hb _ _ _ _ ?_);refine wpAny_newFunctionEnv_cells S.kind hkind fun env he s1 x=>?_;subst he;refine⟨lim.keeps x.toInCall.keep,codeAny_func ?_⟩;obtain⟨t,ht,hq⟩:=hbody A outer s H vs Q E (hr.deeper _) hsp;have I:Inv (wx CX P w K mg base N qual scope f cdv A outer s H E) [] (start N vs) H s1:=zR S hr.hd e0 hl r x;refine O4 (ht [] s1 (start N vs) H _ I hq) (fun fl s' hs=>?_) fun e s' hs=>hs;have fin:∀{f8:St}{H':Hp}{v:V}{u:Oy},Inv (wx CX P w K mg base N qual scope f cdv A outer s H E) [] f8 H' s'->RelV v u->Q v H'->CE outer P w H s Q u s':=
  fun{f8 H' v u} J rv q=>⟨v,H',J.os,J.bare,J.base,J.hok,rv,q⟩
 cases fl with
 |ret u=>
  obtain⟨v,f8,H',J,rv,q⟩:=hs;exact fin J rv q
 |next=>
  obtain⟨f8,H',J,q⟩:=hs;exact fin (v:=V.non) (u:=Pj) J rfl q
 |brk=>
  obtain⟨_,_,_,q⟩:=hs;exact ON q
 |cont=>
  obtain⟨_,_,_,q⟩:=hs;exact ON q
section
variable{X:Cx}{x:Str}{p pos:Pos}{e:OL}{es:List OL}{t:TA}{id T:String}{r:List V->Hp->VK->Prop}
noncomputable def tCB(r:List V->Hp->VK->Prop)(t:TA):TE:=fun σ H Q=>t σ H fun vs H1=>r vs H1 Q
theorem pL(hc:cH X (.builtin id) r)(hg:Gl X x)(hm:X.mg x=none)(hv:Ql x=some (.builtin id))(ha:PA X (e::es) t)(hn:x≠"__name__":=by decide)(hdb:(x ==("__debug__":Str))=false:=by decide)
  (he:OO (e::es) X.env=(false,O1 e X.env)::OO es X.env:=by rfl) (hpl:(QF pos (OO es X.env)).any (·.1)=false:=by rfl):PE X (.Call (.Name x p) (e::es) [] pos) (tCB r t):=by
 intro ac s σ H Q I h;refine P_ (iO I hg hm hv ?_ hn hdb);exact UN (thn (ha pos ac s σ H _ I h) fun us s1 ⟨vs,H1,I1,r1,q1⟩=>hc ac s1 σ H1 vs us Q I1 r1 q1) he hpl
theorem rR(hc:cH X (.type T) r)(hg:Gl X x)(hm:X.mg x=none)(hv:Ql x=some (.type T))(ha:PA X (e::es) t)(hn:x≠"__name__":=by decide)(hdb:(x ==("__debug__":Str))=false:=by decide)
  (he:OO (e::es) X.env=(false,O1 e X.env)::OO es X.env:=by rfl) (hpl:(QF pos (OO es X.env)).any (·.1)=false:=by rfl):PE X (.Call (.Name x p) (e::es) [] pos) (tCB r t):=by
 intro ac s σ H Q I h;refine P_ (iO I hg hm hv ?_ hn hdb);exact PZ (thn (ha pos ac s σ H _ I h) fun us s1 ⟨vs,H1,I1,r1,q1⟩=>hc ac s1 σ H1 vs us Q I1 r1 q1) he hpl
end
end L2
namespace HT
open PySem PyProof.Rows
variable {Q:Oy->OB->Prop}{hi lo:Option Int}
section
variable{prog:OI}{w:OK}{A:OP}{E:Oy->OB->Prop}{s:OB}
theorem Ea{t b:Oz}{vs ws:List Oy}(ht:VE s.heap t vs.toArray)(hb:VE s.heap b ws.toArray)(hv:vs≠[])
  (h1:ws=[]->Q (.ref t) s) (h2:ws≠[]->Q (.ref s.heap.objs.size) {s with heap:=s.heap.push { cls:=.type "tuple",data:=.seq (vs++ws).toArray} })
  (hsz:vs.length+ws.length<=sizeLine):OE (OJ prog w) A (PD .Add (.ref t) (.ref b)) Q E s:=by
 obtain⟨⟨cls,dd,data,sl⟩,ho,hc,n,hd⟩:=id ht;obtain⟨⟨cls2,dd2,data2,sl2⟩,ho2,hc2,n2,hd2⟩:=id hb;simp only at hc hd hc2 hd2;subst hc hd hc2 hd2;have e:vs.toArray++ws.toArray=(vs++ws).toArray:=by simp
 by_cases hw:ws=[]
 ·exact T2 ⟨_,ho,rfl⟩ ⟨_,ho2,rfl⟩ So TF Ru Ro (Rc _ _)
   (tuple_addW1 t b vs.toArray ws.toArray n n2 dd dd2 sl sl2 (by simpa using hv) (by simp[hw])) ⟨ho,ho2,h1 hw⟩
 refine T2 ⟨_,ho,rfl⟩ ⟨_,ho2,rfl⟩ So TF Ru Ro (Rc _ _)
  (tuple_addW2 t b vs.toArray ws.toArray n n2 dd dd2 sl sl2 (by simpa using hv) (by simpa using hw) (by rw[i_,i_];exact hsz)) ⟨ho,ho2,?_⟩
 rw[e];exact h2 hw
noncomputable def sIx(n d:Nat):Option Int->Nat
 |none=>d
 |some v=>if v<0 then(v+(n:Int)).toNat else min v.toNat n
theorem uM(n d:Nat):sIx n d none=d:=rfl
theorem yt(n d k:Nat):sIx n d (some (k:Int))=min k n:=by show(if(k:Int)<0 then((k:Int)+(n:Int)).toNat else min (k:Int).toNat n)=min k n;rw[if_neg (by lia),KS]
theorem Gm(n d:Nat)(hd:d<=n)(o:Option Int):sIx n d o<=n:=by
 cases o with
 |none=>exact hd
 |some v=>
  show(if v<0 then(v+(n:Int)).toNat else min v.toNat n)<=n;by_cases hv:v<0
  ·rw[if_pos hv];lia
  rw[if_neg hv];exact Nat.min_le_right _ _
theorem yZ(v:Int)(n d:Nat):(if v<0 then max (v+(n:Int)) 0 else min v (n:Int))=((sIx n d (some v):Nat):Int):=by
 show(if v<0 then max (v+(n:Int)) 0 else min v (n:Int))=(((if v<0 then(v+(n:Int)).toNat else min v.toNat n):Nat):Int);by_cases hv:v<0
 ·simp only[if_pos hv];lia
 simp only[if_neg hv];lia
theorem wC(lo hi:Option Int)(n:Nat):Q8 lo hi 1 (n:Int)=(((sIx n 0 lo:Nat):Int),((sIx n n hi:Nat):Int)):=by
 have h1:¬((1:Int)<0):=by lia
 unfold Q8;simp only[h1,if_false];refine L8 ?_ ?_
 ·cases lo with
  |none=>rfl
  |some v=>exact yZ v n 0
 cases hi with
 |none=>rfl
 |some v=>exact yZ v n n
theorem wa(i j:Nat):QB (i:Int) (j:Int) 1=j-i:=by
 unfold QB;have h1:(1:Int) > 0:=by lia
 simp only[h1,if_true,Int.ediv_one];split <;> lia
theorem qm{v:Oy}{o:Option Int}{Q:Option Int->OB->Prop}(p:Sr v o)(h:Q o s):OE (OJ prog w) A (Vc v) Q E s:=by
 cases p with
 |none=>exact Vd h
 |int i t=>exact slicePart_int h
theorem nB{sl:Oz}{vl vu:Oy}{n:Nat}{Q:Int×Int×Nat->OB->Prop}(hs:s.heap.IsSliceOf sl vl vu .none)(pl:Sr vl lo)(pu:Sr vu hi)
  (h:Q (((sIx n 0 lo:Nat):Int),1,sIx n n hi-sIx n 0 lo) s):OE (OJ prog w) A (R7 (.ref sl) (pure (n:Int))) Q E s:=by
 obtain⟨os,hos,hcs,hds⟩:=id hs;unfold R7 VG;refine Ox (Ox (Py hos hds (x:=vl) rfl (Ox (Py hos hds (x:=vu) rfl (Ox (Py hos hds (x:=.none) rfl (OC ?_)))))));refine Ox (Vd ?_);show OE _ _ (if((1:Int) == 0)=true then _ else _) _ _ s;rw[if_neg (by decide)];refine Ox (qm pl (Ox (qm pu (Ox (OC ?_)))));show OE _ _ (match Q8 lo hi 1 (n:Int)with|(lo,hi)=>pure (lo,(1:Int),QB lo hi 1)) _ _ s;rw[wC lo hi n];show OE _ _ (pure (((sIx n 0 lo:Nat):Int),(1:Int),QB ((sIx n 0 lo:Nat):Int) ((sIx n n hi:Nat):Int) 1)) _ _ s;rw[wa];exact OC h
theorem CG(xs:Array Oy)(i k:Nat):((A' k).filterMap fun(m:Nat)=>xs[((i:Int)+(m:Int)*1).toNat]?).toArray=((xs.toList.drop i).take k).toArray:=by
 have e:(fun(m:Nat)=>xs[((i:Int)+(m:Int)*1).toNat]?)=fun m=>xs[i+m]?:=by
  funext m;have:((i:Int)+(m:Int)*1).toNat=i+m:=by lia
  rw[this]
 rw[e];have:=pick_run xs i k;rw[List.filterMap_map]at this;have e2:((fun x=>xs[x]?) ∘ fun x=>i+x)=fun m=>xs[i+m]?:=rfl;rw[e2]at this;rw[this]
theorem lT{t sl:Oz}{items:Array Oy}{vl vu:Oy}(ht:VE s.heap t items)(hs:s.heap.IsSliceOf sl vl vu .none)(pl:Sr vl lo)(pu:Sr vu hi)
  (hw:¬(sIx items.size 0 lo=0/\sIx items.size items.size hi=items.size))
  (h:Q (.ref s.heap.objs.size) {s with heap:=s.heap.push { cls:=.type "tuple",data:=.seq ((items.toList.drop (sIx items.size 0 lo)).take (sIx items.size items.size hi-sIx items.size 0 lo)).toArray} })
  (hsz:items.size<=sizeLine):OE (OJ prog w) A (RS (.ref t) (.ref sl)) Q E s:=by
 have htake:sizeOk (.seq ((items.toList.drop (sIx items.size 0 lo)).take (sIx items.size items.size hi-sIx items.size 0 lo)).toArray):=by show((items.toList.drop (sIx items.size 0 lo)).take (sIx items.size items.size hi-sIx items.size 0 lo)).toArray.size<=sizeLine;rw[i_,B_,KU,l_];omega
 have hj:sIx items.size items.size hi<=items.size:=Gm _ _ (b_ _) hi;obtain⟨os,hos,hcs,hds⟩:=id hs;have hTs:s.TypeIs (.ref sl) "slice":=⟨os,hos,hcs⟩;unfold RS
 try with_reducible refine OS ?_
 first|refine Ox (OC ?_)|skip
 refine Ox (wpAny_sequenceKey ht.typeIs (by decide) ?_);refine Ox (O' (name:=P4 "__getitem__") ht.typeIs QM
  (O5 QM ht.typeIs entry_tuple_getitem ?_ (args_tuple_getitem _ _)))
 show OE _ _ (Vt (.ref t) >>= _) _ _ s;refine Ox (tupleItemsOf_ ht ?_);refine Ox (Rf hTs ?_);rw[if_pos (by decide)];refine Ox (nB hs pl pu ?_);have hno:¬((((sIx items.size 0 lo:Nat):Int) == 0&&(1:Int) == 1&&(sIx items.size items.size hi-sIx items.size 0 lo) == items.size)=true):=by intro q;rw[G',G']at q;have q1:((sIx items.size 0 lo:Nat):Int)=0:=eq_of_beq q.1.1;have q2:sIx items.size items.size hi-sIx items.size 0 lo=items.size:=eq_of_beq q.2;exact hw ⟨by lia,by lia⟩
 show OE _ _ (if(((sIx items.size 0 lo:Nat):Int) == 0&&(1:Int) == 1&&(sIx items.size items.size hi-sIx items.size 0 lo) == items.size)=true then _ else _) _ _ s;rw[if_neg hno,CG]
 first
  |exact Ox (m:=QH _) (OU (OC ⟨_,rfl,OC h⟩) htake)
  |exact Ox (m:=QH _) (OU (Ox (OC (OC ⟨_,rfl,OC h⟩))) htake)
  |exact Ox (Ox (m:=QH _) (OU (OC (OC ⟨_,rfl,OC h⟩)) htake))
  |exact Ox (Ox (m:=QH _) (OU (OC ⟨_,rfl,OC h⟩) htake))
end
end HT
namespace L2
open PySem PySem.Spec PyProof.Rows
abbrev TO:=St->Hp->(Option Int->Hp->Prop)->Prop
noncomputable def PO(X:Cx)(e:Option OL)(t:TO):Prop:=
 ∀(ac:List (Oz×Obj)) (s:OB) (σ:St) (H:Hp) (Q:Option Int->Hp->Prop),Inv X ac σ H s->t σ H Q->
  OE (OJ X.prog X.w) X.A (evalPart e X.env) (fun u s'=>∃o H',Inv X ac σ H' s'/\Sr u o/\Q o H') X.xe s
noncomputable def EX:TO:=fun _ H Q=>Q none H
noncomputable def JA(t:TE):TO:=fun σ H Q=>t σ H fun x H1=>∃i,x=.int i/\Q (some i) H1
theorem intsAre_of{ns:List Int}:∀{us:List Oy},Vals (ns.map V.int) us->P1 us ns:=by
 induction ns with
 |nil=>intro us r;rw[LX]at r;cases r;exact .nil
 |cons n ns ih=>
  intro us r;rw[c_]at r;cases r with
  |cons r1 r2=>
   obtain⟨t,e⟩:=r1;subst e;exact .cons n t (ih r2)
variable {us:List Oy}
section
variable{X:Cx}{e:OL}{te:TE}{lo hi:Option OL}{tl th:TO}{pos p2:Pos}
theorem zx:PO X none EX:=by intro ac s σ H Q I h;rw[Vu];exact OC ⟨none,H,I,.none,h⟩
theorem yd(h:PE X e te):PO X (some e) (JA te):=by intro ac s σ H Q I hw;rw[evalPart_some];refine thn (h ac s σ H _ I hw) ?_;rintro u s1 ⟨x,H1,I1,r1,q1⟩;obtain⟨i,rfl,q⟩:=q1;obtain⟨t,rfl⟩:=r1;exact⟨some i,H1,I1,.int i t,q⟩
def SlR(X:Cx)(r:V->Option Int->Option Int->Hp->VK->Prop):Prop:=
 ∀(ac:List (Oz×Obj)) (s:OB) (σ:St) (H:Hp) (x:V) (v vl vu:Oy) (lo hi:Option Int) (sl:Oz) (Q:VK),Inv X ac σ H s->RelV x v->s.heap.IsSliceOf sl vl vu .none->Sr vl lo->Sr vu hi->r x lo hi H Q->
  ∃T id,UO (.type T) "__getitem__"=pure (some (.builtin id))/\s.TypeIs v T/\OE (OJ X.prog X.w) X.A (RS v (.ref sl)) (EP X ac σ Q) X.xe s
noncomputable def tSl(r:V->Option Int->Option Int->Hp->VK->Prop)(te:TE)(tl th:TO):TE:=fun σ H Q=>te σ H fun x H1=>tl σ H1 fun l H2=>th σ H2 fun u H3=>r x l u H3 Q
theorem ux{r:V->Option Int->Option Int->Hp->VK->Prop}(hr:SlR X r)(he:PE X e te)(hl:PO X lo tl)(hu:PO X hi th):PE X (.Subscript e (.Slice lo hi none p2) pos) (tSl r te tl th):=by intro ac s σ H Q I h;refine UP (thn (he ac s σ H _ I h) ?_);rintro v s1 ⟨x,H1,I1,r1,q1⟩;refine wpAny_Slice (thn (hl ac s1 σ H1 _ I1 q1) fun vl s2 ⟨l,H2,I2,pl,q2⟩=>thn (hu ac s2 σ H2 _ I2 q2) ?_);rintro vu s3 ⟨u,H3,I3,pu,q3⟩;rw[Vu];refine OC ?_;have I4:Inv X ac σ H3 {s3 with heap:=s3.heap.push { cls:=.type "slice",data:=.fields #[vl,vu,.none] } }:=I3.kept (t':=s3.toks) fun b ob q=>OD _ q;obtain⟨T,id,hT,ht,hg⟩:=hr ac {s3 with heap:=s3.heap.push { cls:=.type "slice",data:=.fields #[vl,vu,.none] } } σ H3 x v vl vu l u s3.heap.objs.size Q I4 r1 (WM ..) pl pu q3;show OE (OJ X.prog X.w) X.A (Rx e (.Slice lo hi none p2) v (.ref s3.heap.objs.size)) (EP X ac σ Q) X.xe {s3 with heap:=s3.heap.push { cls:=.type "slice",data:=.fields #[vl,vu,.none] } };exact tail_any (ops:=[.ref s3.heap.objs.size,v]) ht hT hg (by with_unfolding_all rfl)
def kx(xs:List V)(lo hi:Option Int):List V:=(xs.drop (HT.sIx xs.length 0 lo)).take (HT.sIx xs.length xs.length hi-HT.sIx xs.length 0 lo)
theorem o8(xs:List V)(lo hi:Option Int):(kx xs lo hi).length<=xs.length:=by unfold kx;rw[B_,KU];lia
def Kh(K:OA):V->Option Int->Option Int->Hp->VK->Prop:=fun x lo hi H Q=>∃a xs,x=.ref a/\SqT K H a xs/\
 ¬(HT.sIx xs.length 0 lo=0/\HT.sIx xs.length xs.length hi=xs.length)/\∀p,H p=none->Q (.ref p) (upd H p (.tup (kx xs lo hi)))
theorem GC:SlR X (Kh X.K):=by
 intro ac s σ H x v vl vu lo hi sl Q I rx hs pl pu h;obtain⟨a,xs,rfl,hx,hw,q⟩:=h;cases rx;obtain⟨be,r,ht,hz⟩:=I.tuple hx;have hlen:be.toArray.size=xs.length:=by rw[i_];exact r.length.symm
 refine⟨"tuple",_,QM.lookup,ht.typeIs,?_⟩;refine HT.lT ht hs pl pu (by rw[hlen];exact hw) ?_ (by rw[hlen];exact hz);rw[hlen];refine⟨.ref s.heap.objs.size,_,I.laid (t':=s.toks) (o:=.tup (kx xs lo hi)) (fun b ob q=>OD _ q) (b_ _) ?_,rfl,q _ (I.hok.fresh (b_ _))⟩;exact⟨B' (o8 xs lo hi) hz,_,(r.drop (HT.sIx xs.length 0 lo)).take (HT.sIx xs.length xs.length hi-HT.sIx xs.length 0 lo),TV _ _⟩
def JS(K:OA):R2:=fun x y H Q=>∃a b xs ys,x=.ref a/\y=.ref b/\SqT K H a xs/\SqT K H b ys/\xs≠[]/\xs.length+ys.length<=sizeLine/\
 (ys=[]->Q (.ref a) H)/\(ys≠[]->∀p,H p=none->Q (.ref p) (upd H p (.tup (xs++ys))))
theorem Vals.t5 {xs:List V}(r:Vals xs us):us=[]↔xs=[]:=by
 cases r with
 |nil=>simp
 |cons _ _=>simp
theorem EJ:OpR X (PD .Add) (JS X.K):=by intro ac s σ H x y v u Q I rx ry h;obtain⟨a,b,xs,ys,rfl,rfl,ha,hb,hx,hz,q1,q2⟩:=h;cases rx;cases ry;obtain⟨be,r1,p1,_⟩:=I.tuple ha;obtain⟨its2,r2,p2,_⟩:=I.tuple hb;refine HT.Ea p1 p2 (fun z=>hx (r1.t5.mp z)) (fun z=>⟨.ref a,H,I,rfl,q1 (r2.t5.mp z)⟩) (fun z=>?_) (by rw[<-r1.length,<-r2.length];exact hz);refine⟨.ref s.heap.objs.size,_,I.laid (t':=s.toks) (o:=.tup (xs++ys)) (fun b ob q=>OD _ q) (b_ _) ?_,rfl,q2 (fun w=>z (r2.t5.mpr w)) _ (I.hok.fresh (b_ _))⟩;exact⟨by rw[gV];exact hz,_,r1.append r2,TV _ _⟩
theorem nZ:cH X (.type "tuple") (fun xs H Q=>∃a ys,xs=[.ref a]/\SqT X.K H a ys/\Q (.ref a) H):=by intro ac s σ H xs us Q I r h;obtain⟨a,ys,rfl,ha,q⟩:=h;obtain⟨u,rfl,ru⟩:=vals1 r;cases ru;obtain⟨be,_,p1,_⟩:=I.tuple ha;exact UQ (items:=be.toArray) p1 ⟨.ref a,H,I,rfl,q⟩
end
noncomputable def ixN(n:Nat)(i:Int):Option Nat:=if 0<=i then(if i<n then some i.toNat else none)else if -(n:Int)<=i then some (i+n).toNat else none
variable {α:Type}
def atI(xs:List α)(i:Int):Option α:=(ixN xs.length i).bind fun j=>xs[j]?
variable {n:Nat}
theorem sQ{i:Int}{j:Nat}(h:ixN n i=some j):Vq i n=some j/\j<n/\-(n:Int)<=i/\i<n:=by
 unfold ixN at h;by_cases h0:0<=i
 ·rw[if_pos h0]at h;by_cases h1:i<n
  ·rw[if_pos h1]at h;have e:i.toNat=j:=C' h;exact⟨by rw[Um h0 h1,e],by lia,by lia,h1⟩
  rw[if_neg h1]at h;cases h
 rw[if_neg h0]at h;by_cases h1:-(n:Int)<=i
 ·rw[if_pos h1]at h;have e:(i+n).toNat=j:=C' h;exact⟨by rw[T3 (by lia) h1,e],by lia,h1,by lia⟩
 rw[if_neg h1]at h;cases h
theorem tm{xs:List α}{i:Int}{v:α}(h:atI xs i=some v):∃j,Vq i xs.length=some j/\xs[j]?=some v/\j<xs.length/\-(xs.length:Int)<=i/\i<xs.length:=by
 unfold atI at h;cases e:ixN xs.length i with
 |none=>rw[e]at h;cases h
 |some j=>
  rw[e]at h;obtain⟨h1,h2,h3,h4⟩:=sQ e;exact⟨j,h1,h,h2,h3,h4⟩
theorem iG{xs:List α}{j:Nat}{v:α}(h:xs[j]?=some v):atI xs (j:Int)=some v:=by
 have hj:j<xs.length:=(f_.mp h).1;have e:ixN xs.length (j:Int)=some j:=by unfold ixN;rw[if_pos (by lia),if_pos (by lia)];simp
 unfold atI;rw[e];exact h
noncomputable def zy(b:OL):Prop:=∀o i,RY b false o i=Wo [o,i] (RS o i)
def IxR(X:Cx)(r:R2):Prop:=
 ∀(value slice:OL) (ac:List (Oz×Obj)) (s:OB) (σ:St) (H:Hp) (x y:V) (v u:Oy) (Q:VK),Inv X ac σ H s->RelV x v->RelV y u->r x y H Q->
  RY slice false v u=Wo [v,u] (RS v u)->OE (OJ X.prog X.w) X.A (Rx value slice v u) (EP X ac σ Q) X.xe s
def MtR(X:Cx)(id:String)(r:V->List V->Hp->VK->Prop):Prop:=
 ∀(ac:List (Oz×Obj)) (s:OB) (σ:St) (H:Hp) (x:V) (xs:List V) (v:Oy) (us:List Oy) (Q:VK),Inv X ac σ H s->RelV x v->Vals xs us->r x xs H Q->
  OE (OJ X.prog X.w) X.A (call (.builtin id) (v::us)) (EP X ac σ Q) X.xe s
variable {H:Hp}{be its':List Oy}{ac:List (Oz×Obj)}{s:OB}{σ:St}
section
variable{X:Cx}{a b:OL}{ta tb:TE}{pos:Pos}
theorem IxR.or {r r':R2}(h:IxR X r)(h':IxR X r'):IxR X (fun x y H Q=>r x y H Q\/r' x y H Q):=by
 intro value slice ac s σ H x y v u Q I rx ry q hs;rcases q with q|q
 ·exact h value slice ac s σ H x y v u Q I rx ry q hs
 exact h' value slice ac s σ H x y v u Q I rx ry q hs
theorem G1{r:R2}(hr:IxR X r)(ha:PE X a ta)(hb:PE X b tb)(hs:zy b):PE X (.Subscript a b pos) (tOp r ta tb):=by intro ac s σ H Q I h;exact UP (GX ha hb I h fun v u s2 x y H2 I2 rx ry q=>hr a b ac s2 σ H2 x y v u Q I2 rx ry q (hs _ _))
def J1(K:OA):R2:=fun x y H Q=>∃p xs i v,x=.ref p/\y=.int i/\SqL K H p xs/\atI xs i=some v/\Q v H
def IV(K:OA):R2:=fun x y H Q=>∃p xs i v,x=.ref p/\y=.int i/\SqT K H p xs/\atI xs i=some v/\Q v H
def JE:R2:=fun x y H Q=>∃z i c,x=.str z/\y=.int i/\z.length<=sizeLine/\atI z.cps.toList i=some c/\Q (.str ⟨#[c]⟩) H
theorem zE:IxR X (J1 X.K):=by
 intro value slice ac s σ H x y v u Q I rx ry h hs;obtain⟨p,xs,i,z,rfl,rfl,hq,he,q⟩:=h;cases rx;obtain⟨t,rfl⟩:=ry;obtain⟨be,r,pl,hz⟩:=I.list hq;obtain⟨j,h1,h2,h3,h4,h5⟩:=tm he;obtain⟨w,ew,rw'⟩:=r.get h2;have hl:=r.length;have hn:=lO;have fin:EP X ac σ Q w s:=⟨z,H,I,rw',q⟩;by_cases h0:0<=i
 ·have hj:i.toNat=j:=by rw[Um h0 h5]at h1;exact C' h1
  exact item_listR pl.isList h0 (by lia) (by rw[hj];simpa using ew) fin hs
 have hj:(i+(be.toArray.size:Int)).toNat=j:=by rw[T3 (by lia) h4]at h1;rw[i_,<-hl];exact C' h1
 exact S0 (x:=w) pl.isList.typeIs slot_list_getitem.lookup
  (wpAny_getItem_list_neg (Q:=fun r s'=>r=w/\EP X ac σ Q r s') pl.isList (by lia) (by rw[i_] <;> lia) (by lia) (by rw[hj];simpa using ew) ⟨rfl,fin⟩) hs
theorem GP:IxR X (IV X.K):=by
 intro value slice ac s σ H x y v u Q I rx ry h hs;obtain⟨p,xs,i,z,rfl,rfl,hq,he,q⟩:=h;cases rx;obtain⟨t,rfl⟩:=ry;obtain⟨be,r,pl,hz⟩:=I.tuple hq;obtain⟨j,h1,h2,h3,h4,h5⟩:=tm he;obtain⟨w,ew,rw'⟩:=r.get h2;have hl:=r.length;have hn:=lO;have fin:EP X ac σ Q w s:=⟨z,H,I,rw',q⟩;exact S0 (x:=w) pl.typeIs slot_tuple_getitem.lookup
  (getItem_tuple (j:=j) (Q:=fun r s'=>r=w/\EP X ac σ Q r s') pl (by lia) (by lia) (by rw[i_,<-hl];exact h1) (by simpa using ew) ⟨rfl,fin⟩) hs
theorem CI:IxR X JE:=by
 intro value slice ac s σ H x y v u Q I rx ry h hs;obtain⟨z,i,c,rfl,rfl,hz,he,q⟩:=h;obtain⟨t,rfl⟩:=rx;obtain⟨t',rfl⟩:=ry;obtain⟨j,h1,h2,h3,h4,h5⟩:=tm he;have hl:z.cps.toList.length=z.length:=by simp[Str.length]
 rw[hl]at h1 h4 h5;have hn:=lO;exact tail_any (typeIs_str s z t) slot_str_getitem.lookup (getItem_str (c:=c) (by have e1:decide (i < -(2 ^ 63:Int))=false:=decide_eq_false (by lia);have e2:decide (i>=2 ^ 63)=false:=decide_eq_false (by lia);rw[e1,e2,N6]) (by rw[h1];simpa using h2) ⟨.str ⟨#[c]⟩,H,I.tok _,⟨_,rfl⟩,q⟩) hs
def rIx(K:OA):R2:=fun x y H Q=>J1 K x y H Q\/IV K x y H Q\/JE x y H Q
theorem HC:IxR X (rIx X.K):=zE.or (GP.or CI)
theorem xq(be:List Oy)(n j:Nat)(u:Oy):O_ (·.setIfInBounds j u) { cls:=.type "list",data:=.seq be.toArray n}={ cls:=.type "list",data:=.seq (be.set j u).toArray n}:=by simp[O_]
theorem Inv.lst {ac:List (Oz×Obj)}{σ:St}{H:Hp}{s:OB}{p:Oz}{xs:List V}(I:Inv X ac σ H s)(h:H p=some (.lst xs)) :
  ∃(be:List Oy) (n:Nat),Vals xs be/\s.heap.get? p=some { cls:=.type "list",data:=.seq be.toArray n}/\xs.length<=sizeLine:=by
 obtain⟨z,be,n,r,e⟩:=I.hok p _ h;exact⟨be,n,r,e,z⟩
theorem Inv.Hx {p:Oz}{xs ys:List V}{n':Nat}{f:Obj->Obj}(I:Inv X ac σ H s)(h:H p=some (.lst xs))
  (ho:s.heap.get? p=some { cls:=.type "list",data:=.seq be.toArray n}) (hf:f { cls:=.type "list",data:=.seq be.toArray n}={ cls:=.type "list",data:=.seq its'.toArray n'}) (r:Vals ys its') (hz:ys.length<=sizeLine) (t:Nat) :
  Inv X ac σ (upd H p (.lst ys)) {s with heap:=s.heap.update p f,toks:=t}:=by
 have e:(s.heap.update p f).get? p=some { cls:=.type "list",data:=.seq its'.toArray n'}:=by rw[O6 f ho (by rw[hf] <;> rfl),hf]
 refine I.write (x:=p) (e:=p) (by rw[h];trivial) (.inl rfl) (fun b u hb q=>(P5 _ _ (Qv hb)).trans q) ⟨_,e⟩ ?_;exact⟨hz,its',n',r,e⟩
def IE:V->V->V->Hp->(Hp->Prop)->Prop:=fun o i v H Q=>∃p xs k j,o=.ref p/\i=.int k/\H p=some (.lst xs)/\ixN xs.length k=some j/\Q (upd H p (.lst (xs.set j v)))
theorem set_list:wZ X IE:=by
 intro ac s σ H o i v ov iv u Q I ro ri rv h;obtain⟨p,xs,k,j,rfl,rfl,hp,hj,q⟩:=h;cases ro;obtain⟨t,rfl⟩:=ri;obtain⟨be,n,r,ho,hz⟩:=I.lst hp;obtain⟨h1,h2,h3,h4⟩:=sQ hj;have hl:=r.length;have hn:=lO;have I':Inv X ac σ (upd H p (.lst (xs.set j v))) {s with heap:=s.heap.update p (O_ (·.setIfInBounds j u)) }:=
  I.Hx hp ho (xq be n j u) (r.set rv j) (by rw[KG];exact hz) s.toks
 by_cases h0:0<=k
 ·have hk:k.toNat=j:=by rw[Um h0 h4]at h1;exact C' h1
  exact PySem.W.ki_setAt ho h0 (by lia) (by rw[i_,<-hl];exact h4) (by rw[hk];exact⟨_,I',q⟩)
 have hk:(k+(be.toArray.size:Int)).toNat=j:=by rw[T3 (by lia) h3]at h1;rw[i_,<-hl];exact C' h1
 exact PySem.W.ki_setBack ho (by lia) (by rw[i_,<-hl];exact h3) (by lia) (by rw[hk];exact⟨_,I',q⟩)
theorem tU(lo hi:Option Int)(n:Nat):(Q3 lo hi none n).1=((HT.sIx n 0 lo:Nat):Int)/\(Q3 lo hi none n).2.1=((HT.sIx n n hi:Nat):Int)/\(Q3 lo hi none n).2.2=1:=by
 refine⟨?_,?_,rfl⟩
 ·cases lo with
  |none=>simp[Q3,HT.sIx]
  |some i=>
   simp only[Q3,HT.sIx,NR,show(1:Int) > 0 by decide,if_true];by_cases h:i<0
   ·simp only[h,if_true] <;> lia
   simp only[h,if_false] <;> lia
 cases hi with
 |none=>simp[Q3,HT.sIx]
 |some i=>
  simp only[Q3,HT.sIx,NR,show(1:Int) > 0 by decide,if_true];by_cases h:i<0
  ·simp only[h,if_true] <;> lia
  simp only[h,if_false] <;> lia
theorem qE(be:List Oy)(lo hi:Option Int):slicePick be.toArray lo hi none=((be.drop (HT.sIx be.length 0 lo)).take (HT.sIx be.length be.length hi-HT.sIx be.length 0 lo)).toArray:=by obtain⟨h1,h2,h3⟩:=tU lo hi be.toArray.size;unfold slicePick;rw[h1,h2,h3];simp only[sliceRange_one,pick_run,i_] <;> rfl
def Ko(K:OA):V->Option Int->Option Int->Hp->VK->Prop:=fun x lo hi H Q=>∃a xs,x=.ref a/\SqL K H a xs/\∀p,H p=none->Q (.ref p) (upd H p (.lst (kx xs lo hi)))
theorem yS:SlR X (Ko X.K):=by intro ac s σ H x v vl vu lo hi sl Q I rx hs pl pu h;obtain⟨a,xs,rfl,hx,q⟩:=h;cases rx;obtain⟨be,r,ht,hz⟩:=I.list hx;have hlen:=r.length;refine⟨"list",_,slot_list_getitem.lookup,ht.isList.typeIs,?_⟩;refine wpAny_getItem_list_slice ht.isList hs pl pu .none (by simp) ?_ (by rw[i_] <;> lia);rw[qE,<-hlen];refine⟨.ref s.heap.objs.size,_,I.laid (t':=s.toks) (o:=.lst (kx xs lo hi)) (fun b ob q=>OD _ q) (b_ _) ?_,rfl,q _ (I.hok.fresh (b_ _))⟩;exact⟨B' (o8 xs lo hi) hz,_,0,(r.drop (HT.sIx xs.length 0 lo)).take (HT.sIx xs.length xs.length hi-HT.sIx xs.length 0 lo),OF _ rfl⟩
theorem tS:OpR X (OX .NotIn) (fun x y H Q=>∃i j,x=.str i/\y=.str j/\Q (.bl (!(!(SA j i 0 j.length 1).isEmpty))) H):=by intro ac s σ H x y v u Q I rx ry h;obtain⟨i,j,rfl,rfl,q⟩:=h;obtain⟨t,rfl⟩:=rx;obtain⟨t',rfl⟩:=ry;exact notIn_str ⟨.bl _,H,I,rfl,q⟩
theorem lW:cH X (.builtin "len") (fun xs H Q=>∃p ys,xs=[.ref p]/\(SqL X.K H p ys\/SqT X.K H p ys)/\Q (.int ys.length) H):=by
 intro ac s σ H xs us Q I r h;obtain⟨p,ys,rfl,hq,q⟩:=h;obtain⟨u,rfl,rx⟩:=vals1 r;cases rx;have hn:=lO;rcases hq with hq|hq
 ·obtain⟨be,r',pl,hz⟩:=I.list hq;have hlen:=r'.length;exact Calls.call_len_list pl.isList (by simp only[i_] <;> lia) ⟨.int ys.length,H,I.tok _,⟨s.toks+1,by rw[i_,hlen]⟩,q⟩
 obtain⟨be,r',pl,hz⟩:=I.tuple hq;have hlen:=r'.length;exact len_tuple pl (by simp only[i_] <;> lia) ⟨.int ys.length,H,I.tok _,⟨s.toks+1,by rw[i_,hlen]⟩,q⟩
theorem tE:cH X (.builtin "len") (fun xs H Q=>∃z,xs=[.str z]/\z.length<=sizeLine/\Q (.int z.length) H):=by intro ac s σ H xs us Q I r h;obtain⟨z,rfl,hz,q⟩:=h;obtain⟨u,rfl,t,rfl⟩:=vals1 r;have hn:=lO;exact len_str (by lia) ⟨.int z.length,H,I.tok _,⟨_,rfl⟩,q⟩
theorem mh:cH X (.type "list") (fun xs H Q=>∃p ys,xs=[.ref p]/\(SqL X.K H p ys\/SqT X.K H p ys)/\∀l,H l=none->Q (.ref l) (upd H l (.lst ys))):=by
 intro ac s σ H xs us Q I r h;obtain⟨p,ys,rfl,hq,q⟩:=h;obtain⟨u,rfl,rx⟩:=vals1 r;cases rx;have fin:∀(be:List Oy),Vals ys be->ys.length<=sizeLine->∀(h':OM) (c':Nat),(∀b o',s.heap.get? b=some o'->h'.get? b=some o')->
   h'.get? s.heap.objs.size=some { cls:=.type "list",dict:=none,data:=.seq be.toArray c',slots:=#[] }->EP X ac σ Q (.ref s.heap.objs.size) {s with heap:=h'}:=fun be r' hz h' c' kp e=>
  ⟨.ref s.heap.objs.size,_,I.laid (t':=s.toks) kp (b_ _) (show bC X.prog X.w _ h' _ (.lst ys)from⟨hz,be,c',r',e⟩),rfl,q _ (I.hok.fresh (b_ _))⟩
 rcases hq with hq|hq
 ·obtain⟨be,r',pl,hz⟩:=I.list hq;have hlen:=r'.length;obtain⟨o,ho,hc,n,hd⟩:=pl.isList;exact Vv p (.inl rfl) ho hc hd (fun h' c' kp e=>fin be r' hz h' c' kp e) (by simp only[i_] <;> lia)
 obtain⟨be,r',pl,hz⟩:=I.tuple hq;have hlen:=r'.length;obtain⟨o,ho,hc,n,hd⟩:=pl;exact Vv p (.inr rfl) ho hc hd (fun h' c' kp e=>fin be r' hz h' c' kp e) (by simp only[i_] <;> lia)
theorem qz:cH X (.type "tuple") (fun xs H Q=>∃p ys,xs=[.ref p]/\((SqL X.K H p ys/\∀l,H l=none->Q (.ref l) (upd H l (.tup ys)))\/(SqT X.K H p ys/\Q (.ref p) H))):=by
 intro ac s σ H xs us Q I r h;obtain⟨p,ys,rfl,h⟩:=h;obtain⟨u,rfl,rx⟩:=vals1 r;cases rx;rcases h with⟨hq,q⟩|⟨hq,q⟩
 ·obtain⟨be,r',pl,hz⟩:=I.list hq;have hlen:=r'.length;refine call_tuple_list pl.isList (fun h' kp=>?_) (by simp only[i_] <;> lia);have I1:Inv X ac σ H {s with heap:=h'}:=I.kept (t':=s.toks) kp;have I2:Inv X ac σ (upd H h'.objs.size (.tup ys)) {s with heap:=h'.push { cls:=.type "tuple",data:=.seq be.toArray} }:=
   I1.laid (t':=s.toks) (fun b o e=>OD _ e) (b_ _) (show bC X.prog X.w _ _ _ (.tup ys)from⟨hz,be,r',TV _ _⟩)
  exact⟨.ref h'.objs.size,_,I2,rfl,q _ (I1.hok.fresh (b_ _))⟩
 obtain⟨be,r',pl,hz⟩:=I.tuple hq;exact UQ pl ⟨.ref p,H,I,rfl,q⟩
def tyV(K:OA)(T:String)(x:V)(H:Hp):Prop:=match x with
 | .str _=>T="str"
 | .int _=>T="int"
 | .ref p=>(T="list"/\∃xs,SqL K H p xs)\/(T="tuple"/\∃o,K.lookup p=some o/\o.cls=.type "tuple"/\o.dict=none)\/
   (T="dict"/\((∃kvs,H p=some (.dK kvs))\/∃kvs,H p=some (.dT kvs)))\/(T="set"/\∃S n,H p=some (.set S n))
 | _=>False
theorem Cr{T:String}{x:V}{v:Oy}(I:Inv X ac σ H s)(r:RelV x v)(ty:tyV X.K T x H) :
  s.TypeIs v T/\∀a,v=.ref a->∃ob,s.heap.get? a=some ob/\ob.dict=none:=by
 cases x with
 |str z=>
  obtain⟨t,rfl⟩:=r;cases (show T="str" from ty);exact⟨typeIs_str s z t,fun _ e=>nomatch e⟩
 |int i=>
  obtain⟨t,rfl⟩:=r;cases (show T="int" from ty);exact⟨UR s i t,fun _ e=>nomatch e⟩
 |ref p=>
  cases r;rcases ty with⟨rfl,xs,hq⟩|⟨rfl,o,hk,hc,hd⟩|⟨rfl,hk⟩|⟨rfl,S,n,hk⟩
  ·obtain⟨be,_,pl,_⟩:=I.list hq;refine⟨pl.isList.typeIs,fun a e=>?_⟩;cases e;obtain⟨o,n,e,c,hd,_⟩:=pl;exact⟨o,e,hd⟩
  ·refine⟨⟨o,I.kIn p o hk,hc⟩,fun a e=>?_⟩;cases e;exact⟨o,I.kIn _ o hk,hd⟩
  ·have z:∃o,s.heap.get? p=some o/\o.ExactDict:=by
    rcases hk with⟨kvs,hk⟩|⟨kvs,hk⟩
    ·obtain⟨_,_,_,_,o,_,_,e,ex,_⟩:=I.hok p _ hk;exact⟨o,e,ex⟩
    obtain⟨_,_,_,_,o,_,_,e,ex,_⟩:=I.hok p _ hk;exact⟨o,e,ex⟩
   obtain⟨o,e,ex⟩:=z;refine⟨⟨o,e,ex.1⟩,fun a e2=>?_⟩;cases e2;exact⟨o,e,ex.2.1⟩
  ·obtain⟨o,_,_,_,e,ex,_⟩:=I.hok p _ hk;refine⟨⟨o,e,ex.1⟩,fun a e2=>?_⟩;cases e2;exact⟨o,e,ex.2.1⟩
 | _=>exact ON ty
def Kt(K:OA)(T:String)(r:V->List V->Hp->VK->Prop)(to:TE):TE:=fun σ H Q=>to σ H fun x H1=>tyV K T x H1/\r x [] H1 Q
def tBM(K:OA)(T:String)(r:V->List V->Hp->VK->Prop)(to:TE)(t:TA):TE:=fun σ H Q=>to σ H fun x H1=>tyV K T x H1/\t σ H1 fun xs H2=>r x xs H2 Q
variable{o e:OL}{es:List OL}{to:TE}{t:TA}{name:Str}{apos lv:Pos}{T id:String}{r:V->List V->Hp->VK->Prop}
theorem Gp(pa:PlainAttrs T)(slot:VM T name id)(hty:VN (.builtin id)=pure (.type "method_descriptor"))(hm:MtR X id r)(ho:PE X o to)
  (hbase:Ry o name X.env (O1 o X.env)=O1 o X.env:=by rfl) (hline:(apos.endLine == lv.line)=true:=by rfl):PE X (.Call (.Attribute o name apos) [] [] lv) (Kt X.K T r to):=by
 intro ac s σ H Q I h;refine wpAny_Call_method0_late hbase hline (thn (ho ac s σ H _ I h) ?_);rintro v s1 ⟨x,H1,I1,r1,ty,q1⟩;obtain⟨h1,h2⟩:=Cr I1 r1 ty;exact⟨T,id,pa,slot,hty,h1,h2,Rv rfl (PySem.evalArgs_none (hm ac s1 σ H1 x [] v [] Q I1 r1 .nil q1))⟩
theorem Jk(pa:PlainAttrs T)(slot:VM T name id)(hty:VN (.builtin id)=pure (.type "method_descriptor"))(hm:MtR X id r)(ho:PE X o to)(ha:PA X (e::es) t)
  (hbase:Ry o name X.env (O1 o X.env)=O1 o X.env:=by rfl)
  (hfew:((QF lv (OO (e::es) X.env)).all (fun x=>!x.1)&&(VO lv (Uo [] X.env)).all (fun x=>x.1.isSome)
   && decide ((e::es).length+([]:List S9).length+(if([]:List S9).isEmpty then 0 else 1)<30))=true:=by rfl)
  (hline:(apos.endLine == lv.line)=true:=by rfl) (hs:OO (e::es) X.env=(false,O1 e X.env)::OO es X.env:=by rfl) (hplain:(QF lv (OO es X.env)).any (·.1)=false:=by rfl) :
  PE X (.Call (.Attribute o name apos) (e::es) [] lv) (tBM X.K T r to t):=by
 intro ac s σ H Q I h;refine wpAny_Call_method_late hbase hfew hline rfl (thn (ho ac s σ H _ I h) ?_);rintro v s1 ⟨x,H1,I1,r1,ty,q1⟩;obtain⟨h1,h2⟩:=Cr I1 r1 ty;refine⟨T,id,pa,slot,hty,h1,h2,?_⟩;have hA:=ha lv ac s1 σ H1 _ I1 q1;rw[hs]at hA ⊢;refine Rv (by show(false || (QF lv (OO es X.env)).any (·.1))=false;rw[hplain] <;> rfl) (Tq ?_);exact thn hA fun us s2 ⟨vs,H2,I2,r2,q2⟩=>hm ac s2 σ H2 x vs v us Q I2 r1 r2 q2
end
def MtM(X:Cx)(id:String)(r:V->List V->Hp->VK->Prop):Prop:=
 ∀(ac:List (Oz×Obj)) (s:OB) (σ:St) (H:Hp) (x:V) (xs:List V) (v:Oy) (us:List Oy) (Q:VK),Inv X ac σ H s->RelV x v->Vals xs us->r x xs H Q->
  OE (OJ X.prog X.w) X.A (call (.builtin id) (v::us)) (EP X ac σ Q) X.xe s
theorem Vals.one:∀{x:V}{us:List Oy},Vals [x] us->∃u,us=[u]/\RelV x u:=by
 intro x us h;cases h with
 |cons r t=>cases t;exact⟨_,rfl,r⟩
theorem Vals.two:∀{x y:V}{us:List Oy},Vals [x,y] us->∃u v,us=[u,v]/\RelV x u/\RelV y v:=by
 intro x y us h;cases h with
 |cons r h=>
  cases h with
  |cons q h=>cases h;exact⟨_,_,rfl,r,q⟩
theorem Vals.zero:∀{us:List Oy},Vals [] us->us=[]
 | _,.nil=>rfl
theorem Vals.eraseIdx:∀{xs:List V}{us:List Oy} (i:Nat),Vals xs us->Vals (xs.eraseIdx i) (us.eraseIdx i)
 | _,_,_,.nil=>.nil
 | _,_,0,.cons _ t=>t
 | _,_,i+1,.cons r t=>.cons r (Vals.eraseIdx i t)
theorem Vals.reverse {xs:List V}(h:Vals xs us):Vals xs.reverse us.reverse:=by
 induction h with
 |nil=>exact .nil
 |cons r t ih=>rw[Li,Li];exact Vals.append ih (.cons r .nil)
theorem Vals.rep {xs:List V}(h:Vals xs us):∀k:Nat,Vals (z_ k xs).flatten (z_ k us).flatten
 |0=>.nil
 |k+1=>by rw[KZ,KZ,LU,LU];exact Vals.append h (Vals.rep h k)
theorem rJ{α:Type}:∀(l:List α) (i:Nat),(l.eraseIdx i).length<=l.length
 | [],_=>b_ _
 | _::_,0=>LR _
 | _::r,i+1=>LA (rJ r i)
theorem foldl_rep(be:List Oy):∀(k:Nat) (acc:List Oy),
  NY (fun x1 x2=>x1++x2) acc.toArray (z_ k be.toArray)=(acc++(z_ k be).flatten).toArray
 |0,acc=>by simp
 |k+1,acc=>by
  have e:acc.toArray++be.toArray=(acc++be).toArray:=by simp
  have e2:(acc++be)++(z_ k be).flatten=acc++(z_ (k+1) be).flatten:=by rw[KZ,LU,o_]
  rw[<-e2,<-foldl_rep be k (acc++be),<-e,KZ,Lw]
variable {t':Nat}
section
variable{X:Cx}{ac:List (Oz×Obj)}{σ:St}{H:Hp}{s:OB}{l b:Oz}{xs ys zs:List V}
theorem Inv.CH {f:Array Oy->Array Oy}(I:Inv X ac σ H s)(hH:H l=some (.lst xs))
  (e:s.heap.get? l=some { cls:=.type "list",data:=.seq be.toArray n}) (hf:f be.toArray=its'.toArray) (hv:Vals ys its') (hz:ys.length<=sizeLine) :
  Inv X ac σ (upd H l (.lst ys)) {s with heap:=s.heap.update l (O_ f),toks:=t'}:=by
 have q:=WZ e f;rw[hf]at q;refine I.write (x:=l) (e:=l) (by rw[hH];exact trivial) (.inl rfl) (fun b' u hb hu=>(P5 s.heap (O_ f) (Qv hb)).trans hu) ⟨_,q⟩ ?_;exact⟨hz,its',_,hv,q⟩
theorem Inv.Iu (I:Inv X ac σ H s)(hv:Vals ys be)(hz:ys.length<=sizeLine) :
  Inv X ac σ (upd H s.heap.objs.size (.lst ys)) {s with heap:=s.heap.push { cls:=.type "list",data:=.seq be.toArray},toks:=t'}:=
 I.laid (fun _ _ q=>OD _ q) (b_ _) ⟨hz,be,0,hv,OF _ rfl⟩
theorem Inv.fresh (I:Inv X ac σ H s):H s.heap.objs.size=none:=I.hok.fresh (b_ _)
theorem Inv.x4 (I:Inv X ac σ H s)(hH:H l=some (.lst xs)):xs.length<=sizeLine/\∃(be:List Oy) (n:Nat),Vals xs be/\xs.length=be.length/\s.heap.get? l=some { cls:=.type "list",data:=.seq be.toArray n}:=by obtain⟨z,be,n,r,e⟩:=I.hok l _ hH;exact⟨z,be,n,r,r.length,e⟩
theorem vM(h:n<=sizeLine):QI n=false:=by unfold QI;exact decide_eq_false (by lia)
end
section
variable{X:Cx}
def EM:V->List V->Hp->VK->Prop:=fun x vs H Q=>∃l xs y,x=.ref l/\vs=[y]/\H l=some (.lst xs)/\xs.length<sizeLine/\Q .non (upd H l (.lst (xs++[y])))
theorem nN:MtM X "list.append" EM:=by intro ac s σ H x vs v us Q I rx rv h;obtain⟨l,xs,y,rfl,rfl,hH,hz,q⟩:=h;cases rx;obtain⟨u,rfl,ru⟩:=rv.one;obtain⟨z,be,n,r,hl,e⟩:=I.x4 hH;refine QU F.slot_list_append ⟨_,e,rfl⟩ F.entry_list_append (F.args_list_append_2 _ _) (PySem.list_append l be.toArray n u (by rw[i_];lia)) ⟨e,?_⟩;refine⟨.non,_,I.CH (its':=be++[u]) hH e (by simp) (r.append (.cons ru .nil)) ?_,rfl,q⟩;rw[gV,Mw];lia
def F3:V->List V->Hp->VK->Prop:=fun x vs H Q=>∃l b xs zs,x=.ref l/\vs=[.ref b]/\H l=some (.lst xs)/\H b=some (.lst zs)/\xs.length+zs.length<=sizeLine/\Q .non (upd H l (.lst (xs++zs)))
theorem AL:MtM X "list.extend" F3:=by
 intro ac s σ H x vs v us Q I rx rv h;obtain⟨l,b,xs,zs,rfl,rfl,hH,hB,hz,q⟩:=h;cases rx;obtain⟨u,rfl,ru⟩:=rv.one;cases ru;obtain⟨z,be,n,r,hl,e⟩:=I.x4 hH;obtain⟨z2,its2,n2,r2,hl2,e2⟩:=I.x4 hB;have hsz:be.toArray.size+its2.toArray.size<=sizeLine:=by rw[i_,i_];lia
 have hlong:¬(!be.toArray.isEmpty&&QI (be.toArray.size+its2.toArray.size))=true:=by rw[vM hsz,N3];exact KL
 refine QU F.slot_list_extend ⟨_,e,rfl⟩ F.entry_list_extend (F.args_list_extend_2 _ _)
  (Ux l be.toArray n b its2.toArray n2 hlong (by rw[i_];lia) (by lia)) ⟨e,e2,?_⟩
 refine⟨.non,_,I.CH (its':=be++its2) hH e (by simp) (r.append r2) ?_,rfl,q⟩;rw[gV];omega
def HV:V->List V->Hp->VK->Prop:=fun x vs H Q=>∃l xs i k y,x=.ref l/\vs=[.int i]/\H l=some (.lst xs)/\-(2 ^ 63)<=i/\i<2 ^ 63/\Vq i xs.length=some k/\xs[k]?=some y/\Q y (upd H l (.lst (xs.eraseIdx k)))
theorem Cf:MtM X "list.pop" HV:=by
 intro ac s σ H x vs v us Q I rx rv h;obtain⟨l,xs,i,k,y,rfl,rfl,hH,h1,h2,hk,hy,q⟩:=h;cases rx;obtain⟨u,rfl,ru⟩:=rv.one;obtain⟨t,rfl⟩:=ru;obtain⟨z,be,n,r,hl,e⟩:=I.x4 hH;obtain⟨w,hw,rw'⟩:=r.get hy;refine QU F.slot_list_pop ⟨_,e,rfl⟩ F.entry_list_pop (F.args_list_pop_2 _ _)
  (Wv l be.toArray n i t k w (Ve h1 h2) (by rw[i_,<-hl];exact hk) (by rw[<-r_];exact hw) (by rw[i_];lia)) ⟨e,?_⟩
 refine⟨y,_,I.CH (its':=be.eraseIdx k) hH e ?_ (r.eraseIdx k) ?_,rw',q⟩
 ·show be.toArray.eraseIdxIfInBounds k=(be.eraseIdx k).toArray;rw[List.eraseIdxIfInBounds_toArray]
 have:=rJ xs k;lia
def CV:V->List V->Hp->VK->Prop:=fun x vs H Q=>∃l xs,x=.ref l/\vs=[]/\H l=some (.lst xs)/\Q .non (upd H l (.lst xs.reverse))
theorem x6:MtM X "list.reverse" CV:=by intro ac s σ H x vs v us Q I rx rv h;obtain⟨l,xs,rfl,rfl,hH,q⟩:=h;cases rx;have hus:=rv.zero;subst hus;obtain⟨z,be,n,r,hl,e⟩:=I.x4 hH;refine QU F.slot_list_reverse ⟨_,e,rfl⟩ F.entry_list_reverse (F.args_list_reverse_1 _) (Vf l be.toArray n (by rw[i_];lia)) ⟨e,?_⟩;refine⟨.non,_,I.CH (its':=be.reverse) hH e (by simp) r.reverse ?_,rfl,q⟩;rw[KO];omega
def Ks:R2:=fun x y H Q=>∃l k xs,x=.ref l/\y=.int k/\H l=some (.lst xs)/\-(2 ^ 63)<=k/\k<2 ^ 63/\xs.length*k.toNat<=sizeLine/\
 ∀p,H p=none->Q (.ref p) (upd H p (.lst (z_ k.toNat xs).flatten))
theorem len_rep(xs:List α)(k:Nat):(z_ k xs).flatten.length=k*xs.length:=by
 induction k with
 |zero=>simp
 |succ k ih=>rw[KZ,LU,gV,ih,Nat.succ_mul,Nat.add_comm]
theorem Gv:OpR X (PD .Mult) Ks:=by
 intro ac s σ H x y v u Q I rx ry h;obtain⟨l,k,xs,rfl,rfl,hH,h1,h2,hz,q⟩:=h;cases rx;obtain⟨t,rfl⟩:=ry;obtain⟨z,be,n,r,hl,e⟩:=I.x4 hH;have hlen:be.toArray.size*k.toNat<=sizeLine:=by rw[i_,<-hl];exact hz
 have hcap:¬be.toArray.size*k.toNat >(2 ^ 63-1)/8:=by
  have:(sizeLine:Nat)<=(2 ^ 63-1)/8:=by decide
  lia
 have hfit:¬(!R8 k)=true:=by rw[Ve h1 h2];exact KL
 have hlong:¬QI (be.toArray.size*k.toNat)=true:=by rw[vM hlen];exact KL
 have hnew:NY (fun x1 x2=>x1++x2) #[] (z_ (if be.toArray.isEmpty=true then 0 else k.toNat) be.toArray)=(z_ k.toNat be).flatten.toArray:=by
  have f0:∀m:Nat,NY (fun x1 x2=>x1++x2) #[] (z_ m be.toArray)=(z_ m be).flatten.toArray:=fun m=>by have:=foldl_rep be m [];rw[Lr]at this;exact this
  rw[f0];cases be with
  |nil=>simp
  |cons a r'=>rw[if_neg (by simp)]
 refine wpAny_binaryOp_repeat_ref (T:="list") (U:="int") (by decide) ⟨_,e,rfl⟩ (fun s'=>UR s' k t) noFill_list_mul F.fills_int_mul US repeat_list F.slot_int_index.lookup
  (QU US (UR s k t) F.entry_int_rmul (F.args_int_rmul_2 _ _) (int___rmul___int_list k t l be.toArray n)
   ⟨e,rfl,⟨_,e,rfl⟩,QU F.slot_list_mul ⟨_,e,rfl⟩ F.entry_list_mul (F.args_list_mul_2 _ _) (Uq l be.toArray n k t hfit hcap hlong) ⟨e,?_⟩⟩)
 rw[hnew];exact⟨.ref _,_,I.Iu (t':=s.toks) (r.rep k.toNat) (by rw[len_rep,Nat.mul_comm];exact hz),rfl,q _ I.fresh⟩
end
variable {o:Option V}{u:Oy}{y:V}
section
variable{κ:Type}[DecidableEq κ]
noncomputable def iA(kvs:List (κ×V))(k:κ):Option V:=(kvs.find? fun kv=>decide (kv.1=k)).map (·.2)
noncomputable def putK(kvs:List (κ×V))(k:κ)(v:V):List (κ×V):=
 if(kvs.any fun kv=>decide (kv.1=k))=true then kvs.map (fun kv=>if kv.1=k then(kv.1,v)else kv)else kvs++[(k,v)]
theorem pT{p:κ×V}{r:List (κ×V)}{k:κ}(e:p.1=k):iA (p::r) k=some p.2:=by simp[iA,KQ,e]
theorem qc{p:κ×V}{r:List (κ×V)}{k:κ}(e:¬p.1=k):iA (p::r) k=iA r k:=by simp[iA,KQ,e]
theorem mf(k:κ):∀kvs:List (κ×V),(kvs.any fun kv=>decide (kv.1=k))=(iA kvs k).isSome
 | []=>rfl
 |p::r=>by
  rw[LH];by_cases e:p.1=k
  ·simp only[pT e,decide_eq_true e,Bool.true_or,NC]
  rw[qc e,decide_eq_false e,MQ];exact mf k r
theorem j4(kvs:List (κ×V))(k:κ)(v:V):(putK kvs k v).length<=kvs.length+1:=by
 unfold putK;split
 ·rw[a_];lia
 rw[gV,g_,LP];lia
theorem vB{kvs:List (κ×V)}{k:κ}(v:V)(h:iA kvs k=none):putK kvs k v=kvs++[(k,v)]:=by unfold putK;rw[mf,h];exact if_neg (by decide)
theorem qy.nS {u:Option Oy}(r:qy o u):o.isSome=u.isSome:=by
 cases o with
 |none=>cases u with
  |none=>rfl
  |some _=>exact(show False from r).elim
 |some _=>cases u with
  |none=>exact(show False from r).elim
  |some _=>rfl
theorem KV.val {kvs:List (κ×V)}{vs:List (κ×Oy)}(r:KV kvs vs)(k:κ):qy (iA kvs k) (Sl vs k):=by
 unfold KV at r;induction r with
 |nil=>exact Qc
 | @cons p q ps qs h t ih=>
  obtain⟨h1,h2⟩:=h;by_cases e:p.1=k
  ·have e':q.1=k:=h1.symm.trans e;have b:Sl (q::qs) k=some q.2:=by simp[Sl,KQ,e']
   rw[pT e,b];exact h2
  have e':¬q.1=k:=fun z=>e (h1.trans z);have b:Sl (q::qs) k=Sl qs k:=by simp[Sl,KQ,e']
  rw[qc e,b];exact ih
theorem KV.any {kvs:List (κ×V)}{vs:List (κ×Oy)}(r:KV kvs vs)(k:κ):(kvs.any fun kv=>decide (kv.1=k))=vs.any fun kv=>decide (kv.1=k):=by
 unfold KV at r;induction r with
 |nil=>rfl
 |cons h t ih=>rw[LH,LH,ih,h.1]
theorem KV.GL {kvs:List (κ×V)}{vs:List (κ×Oy)}(r:KV kvs vs)(k:κ)(ry:RelV y u) :
  KV (kvs.map fun kv=>if kv.1=k then(kv.1,y)else kv) (vs.map fun kv=>if kv.1=k then(kv.1,u)else kv):=by
 unfold KV at r ⊢;induction r with
 |nil=>exact .nil
 | @cons p q ps qs h t ih=>
  rw[c_,c_];refine .cons ?_ ih;obtain⟨h1,h2⟩:=h;by_cases e:p.1=k
  ·rw[if_pos e,if_pos (h1.symm.trans e)];exact⟨h1,ry⟩
  rw[if_neg e,if_neg (fun z=>e (h1.trans z))];exact⟨h1,h2⟩
theorem KV.put {kvs:List (κ×V)}{vs:List (κ×Oy)}(r:KV kvs vs)(k:κ)(ry:RelV y u):KV (putK kvs k y) (stored vs k u):=by
 unfold putK stored;rw[r.any k];by_cases e:(vs.any fun kv=>decide (kv.1=k))=true
 ·rw[if_pos e,if_pos e];exact r.GL k ry
 rw[if_neg e,if_neg e];exact We r ⟨rfl,ry⟩
theorem KV.length {kvs:List (κ×V)}{vs:List (κ×Oy)}(r:KV kvs vs):kvs.length=vs.length:=PH r
end
variable {P:OI}{w:OK}
theorem uY{k:Key}(r:RelV (kV k) u):(bx P w).is k u=true:=by
 rcases k with i | _|x
 ·obtain⟨t,e⟩:=(show ∃t,u=QT i t from r);subst e;exact uD P w i t
 ·cases r;rfl
 obtain⟨t,e⟩:=(show ∃t,u=TR x t from r);subst e;exact uL P w x t
theorem rD{P:OI}{w:OK}:∀{ks:List Key}{us:List Oy},Vals (ks.map kV) us->ItemsAre (bx P w) ks us
 | [],_,r=>by rw[LX]at r;cases r;exact .nil
 |k::ks,_,r=>by
  rw[c_]at r;cases r with
  |cons h t=>exact .cons (uY h) (rD t)
abbrev KT(H:Hp):List (List Key×V)->List (List Key×Oz×Oy)->Prop:=QE fun p q=>p.1=q.1/\H q.2.1=some (.tup (p.1.map kV))/\RelV p.2 q.2.2
variable {kvs:List (List Key×V)}{xs:List (List Key×Oz×Oy)}
theorem KT.val (r:KT H kvs xs)(k:List Key):qy (iA kvs k) ((SN xs k).map (·.2)):=by
 induction r with
 |nil=>exact Qc
 | @cons p q ps qs h t ih=>
  obtain⟨h1,_,h2⟩:=h;by_cases e:p.1=k
  ·have e':q.1=k:=h1.symm.trans e;have b:SN (q::qs) k=some q.2:=by simp[SN,KQ,e']
   rw[pT e,b];exact h2
  have e':¬q.1=k:=fun z=>e (h1.trans z);have b:SN (q::qs) k=SN qs k:=by simp[SN,KQ,e']
  rw[qc e,b];exact ih
theorem KT.GL (r:KT H kvs xs)(k:List Key)(ry:RelV y u) :
  KT H (kvs.map fun kv=>if kv.1=k then(kv.1,y)else kv) (xs.map (putAt k u)):=by
 induction r with
 |nil=>exact .nil
 | @cons p q ps qs h t ih=>
  rw[c_,c_];refine .cons ?_ ih;obtain⟨h1,h2,h3⟩:=h;unfold putAt;by_cases e:p.1=k
  ·rw[if_pos e,if_pos (h1.symm.trans e)];exact⟨h1,h2,ry⟩
  rw[if_neg e,if_neg (fun z=>e (h1.trans z))];exact⟨h1,h2,h3⟩
theorem KT.put (r:KT H kvs xs)(k:List Key){b:Oz}(hb:H b=some (.tup (k.map kV)))(ry:RelV y u) :
  KT H (putK kvs k y) (Rn xs k b u):=by
 have e:(kvs.any fun kv=>decide (kv.1=k))=(SN xs k).isSome:=by rw[mf,(r.val k).nS,NI]
 unfold putK Rn;rw[e];by_cases q:(SN xs k).isSome=true
 ·rw[if_pos q,if_pos q];exact r.GL k ry
 rw[if_neg q,if_neg q];exact We r ⟨rfl,hb,ry⟩
variable {H':Hp}
theorem KT.keeps (r:KT H kvs xs)(ht:∀b ys,H b=some (.tup ys)->H' b=some (.tup ys)):KT H' kvs xs:=
 Paired.Im r fun _ _ z=>⟨z.1,ht _ _ z.2.1,z.2.2⟩
section
variable{P:OI}{w:OK}{H:Hp}{h:OM}{a:Oz}
theorem FD{u:HO}(ok:HOk P w H h)(e:Rd H a u):bC P w H h a u:=e.ok ok
theorem qL{kvs:List (Key×V)}(ok:HOk P w H h)(e:Rd H a (.dK kvs)):kvs.length<=sizeLine/\(a == O0)=false/\∃vs,KV kvs vs/\h.DictOf (bx P w) a vs:=
 show bC P w H h a (.dK kvs)from FD ok e
theorem G2{kvs:List (Key×V)}(ok:HOk P w H h)(e:H a=some (.dK kvs)):kvs.length<=sizeLine/\(a == O0)=false/\∃vs,KV kvs vs/\h.DictOf (bx P w) a vs:=qL ok (.inl e)
theorem lq{ks:List Key}(ok:HOk P w H h)(e:H a=some (.tup (ks.map kV))):(PN (bx P w)).is h ks a:=by obtain⟨_,be,r,o,h1,h2,n,h3⟩:=(show bC P w H h a (.tup (ks.map kV))from ok a _ e);exact⟨o,be.toArray,n,h1,h2,h3,by simpa using rD r⟩
theorem oq(ok:HOk P w H h)(e:Rd H a (.dT kvs)):kvs.length<=sizeLine/\(a == O0)=false/\
  ∃xs,KT H kvs xs/\h.DictOfH (PN (bx P w)) a xs:=by
 obtain⟨z,y,xs,r,o,es,ep,h1,h2,h3,h4,h5⟩:=(show bC P w H h a (.dT kvs)from FD ok e);refine⟨z,y,xs,r,o,es,ep,h1,h2,h3,h4,fun x hx=>?_,h5⟩;have all:∀{l:List (List Key×V)}{m:List (List Key×Oz×Oy)},KT H l m->∀x∈m,(PN (bx P w)).is h x.1 x.2.1:=by
  intro l m q;induction q with
  |nil=>intro x hx;exact nomatch hx
  | @cons p q ps qs hq t ih=>
   intro x hx;rcases h_.mp hx with e|hx
   ·subst e;exact lq ok (by rw[<-hq.1];exact hq.2.1)
   exact ih x hx
 exact all r x hx
theorem CB(ok:HOk P w H h)(e:H a=some (.dT kvs)):kvs.length<=sizeLine/\(a == O0)=false/\
  ∃xs,KT H kvs xs/\h.DictOfH (PN (bx P w)) a xs:=oq ok (.inl e)
end
def nz(H:Hp)(a:Oz)(y:V)(r:Option V):Prop:=
 (∃kvs k,Rd H a (.dK kvs)/\y=kV k/\r=iA kvs k)\/∃kvs k b,Rd H a (.dT kvs)/\y=.ref b/\H b=some (.tup (k.map kV))/\r=iA kvs k
def zY(H:Hp)(a:Oz)(y v:V)(H':Hp):Prop:=
 (∃kvs k,H a=some (.dK kvs)/\y=kV k/\kvs.length<sizeLine/\H'=upd H a (.dK (putK kvs k v)))\/
 ∃kvs k b,H a=some (.dT kvs)/\y=.ref b/\H b=some (.tup (k.map kV))/\kvs.length<sizeLine/\H'=upd H a (.dT (putK kvs k v))
theorem nz.k {H:Hp}{a:Oz}{kvs:List (Key×V)}{k:Key}(e:H a=some (.dK kvs)):nz H a (kV k) (iA kvs k):=.inl ⟨kvs,k,.inl e,rfl,rfl⟩
theorem zY.k {H:Hp}{a:Oz}{kvs:List (Key×V)}{k:Key}{v:V}(e:H a=some (.dK kvs))(hl:kvs.length<sizeLine):zY H a (kV k) v (upd H a (.dK (putK kvs k v))):=.inl ⟨kvs,k,e,rfl,hl,rfl⟩
variable {Q:Oy->OB->Prop}
section
variable{X:Cx}{ac:List (Oz×Obj)}{σ:St}{H:Hp}{s:OB}{a:Oz}{y v:V}{u r:Oy}{o:Option V}{A:OP}{E:Oy->OB->Prop}
theorem Inv.big (I:Inv X ac σ H s):O0<s.heap.objs.size:=by have h:Pu<s.heap.objs.size:=(I.mod.glob.keeps I.bk).lt;exact M3 (by decide) h
theorem rl(hu:A.units+1<cLine)(I:Inv X ac σ H s)(g:nz H a y (some v))(ry:RelV y u)(h:∀w' s',Inv X ac σ H s'->RelV v w'->Q w' s') :
  OE (OJ X.prog X.w) A (RS (.ref a) u) Q E s:=by
 rcases g with⟨kvs,k,e,ey,l⟩|⟨kvs,k,b,e,ey,eb,l⟩
 ·subst ey;obtain⟨z,hd,vs,rel,dd⟩:=qL I.hok e;obtain⟨w',hw,rw'⟩:=qy.some_of (v:=v) (o:=Sl vs k) (by rw[l];exact rel.val k);exact wpAny_getItem_of (uY ry) dd.mapOf hw (h w' _ (I.tok _) rw')
 subst ey;cases (show u=OT b from ry);obtain⟨z,hd,xs,rel,dd⟩:=oq I.hok e;obtain⟨w',hw,rw'⟩:=qy.some_of (v:=v) (o:=(SN xs k).map (·.2)) (by rw[l];exact rel.val k);obtain⟨p,hp,hp2⟩:=Mo.mp hw;refine wpAny_getItem_heap (Qo hu) (lq I.hok eb) dd hp ?_;rw[hp2];exact h w' _ (I.tok _) rw'
theorem yB(hu:A.units+1<cLine)(I:Inv X ac σ H s)(g:nz H a y o)(ry:RelV y u)(h:∀s',Inv X ac σ H s'->Q (.bool (!o.isSome)) s') :
  OE (OJ X.prog X.w) A (OX .NotIn u (.ref a)) Q E s:=by
 rcases g with⟨kvs,k,e,ey,l⟩|⟨kvs,k,b,e,ey,eb,l⟩
 ·subst ey;obtain⟨z,hd,vs,rel,dd⟩:=qL I.hok e;refine wpAny_notIn_of (uY ry) hd dd.mapOf ?_;rw[<-(rel.val k).nS,<-l];exact h _ (I.tok _)
 subst ey;cases (show u=OT b from ry);obtain⟨z,hd,xs,rel,dd⟩:=oq I.hok e;refine wpAny_notIn_heap (Qo hu) (lq I.hok eb) hd dd ?_;have q:=(rel.val k).nS;rw[NI]at q;rw[<-q,<-l];exact h _ (I.tok _)
theorem mM{h':OM}{ob:HO}(I:Inv X ac σ H s)(mu:Mut (H a))(hs:Pe a s.heap h')(he:∃q,h'.get? a=some q)(new:bC X.prog X.w (upd H a ob) h' a ob) :
  Inv X ac σ (upd H a ob) {s with heap:=h',toks:=t'}:=
 I.write (x:=a) (e:=a) mu (.inl rfl) (fun b q hb z=>(hs.2 b hb).trans z) he new
theorem CO{h':OM}{kvs:List (Key×V)}{vs:List (Key×Oy)}(z:kvs.length<=sizeLine)(hd:(a == O0)=false)(rel:KV kvs vs)(dd:h'.DictOf (bx P w) a vs) :
  bC P w H' h' a (.dK kvs):=⟨z,hd,vs,rel,dd⟩
theorem nT{Q:Unit->OB->Prop}(hu:A.units+1<cLine)(I:Inv X ac σ H s)(g:zY H a y v H')(ry:RelV y u)(rv:RelV v r)(h:∀s',Inv X ac σ H' s'->Q () s') :
  OE (OJ X.prog X.w) A (U' (.ref a) u r) Q E s:=by
 rcases g with⟨kvs,k,e,ey,l,eH⟩|⟨kvs,k,b,e,ey,eb,l,eH⟩
 ·subst ey eH;obtain⟨z,hd,vs,rel,dd⟩:=G2 I.hok e;have hz:vs.length<=sizeLine:=by rw[<-rel.length];exact z
  have hl:(putK kvs k v).length<=sizeLine:=by have:=j4 kvs k v;lia
  refine wpAny_setItem_pairs (hsz:=hz) (uY ry) dd fun h' dd' hs=>h _ ?_;have he:∃q,h'.get? a=some q:=let ⟨q,_,_,hq,_⟩:=dd';⟨q,hq⟩
  exact mM I (by rw[e];exact Qc) hs he (CO hl hd (rel.put k rv) dd')
 subst ey eH;cases (show u=OT b from ry);obtain⟨z,hd,xs,rel,dd⟩:=CB I.hok e;have hz:xs.length<=sizeLine:=by rw[<-PH rel];exact z
 have hl:(putK kvs k v).length<=sizeLine:=by have:=j4 kvs k v;lia
 refine wpAny_setItem_heap (hsz:=hz) (Qo hu) (lq I.hok eb) dd fun h' dd' hs=>h _ ?_;obtain⟨q,es,ep,hq,h2,h3,h4,_,h5⟩:=dd';refine mM I (by rw[e];exact Qc) hs ⟨q,hq⟩ ⟨hl,hd,_,(rel.put k eb rv).keeps fun c ys ec=>?_,q,es,ep,hq,h2,h3,h4,h5⟩;rw[aG (yo ec e (fun z=>nomatch z))];exact ec
end
section
variable{X:Cx}{ac:List (Oz×Obj)}{σ:St}{H:Hp}{s:OB}{a:Oz}{kvs:List (Key×V)}{k:Key}{u:Oy}{A:OP}{E:Oy->OB->Prop}
theorem JC(I:Inv X ac σ H s)(e:Rd H a (.dK kvs))(h:∀t s',Inv X ac σ H s'->Q (.int kvs.length t) s'):OE (OJ X.prog X.w) A (call (.builtin "len") [.ref a]) Q E s:=by obtain⟨z,hd,vs,rel,dd⟩:=qL I.hok e;refine call_len_dict hd dd (by rw[<-rel.length];rw[sizeLine_eq]at z;lia) ?_;rw[<-rel.length];exact h _ _ (I.tok _)
end
noncomputable def JR(i:OL):Prop:=∀ov iv,RY i false ov iv=Wo [ov,iv] (RS ov iv)
variable {pos:Pos}
theorem Es{prog:OI}{A:OP}{E:Oy->OB->Prop}{env:Env}{value slice:OL}{T id:String}
  (hl:UO (.type T) "__getitem__"=pure (some (.builtin id))) (hs:JR slice)
  (h:OE (OJ prog w) A (O1 value env) (fun o s₁=>OE (OJ prog w) A (O1 slice env) (fun i s₂=>s₂.TypeIs o T/\OE (OJ prog w) A (RS o i) Q E s₂) E s₁) E s) :
  OE (OJ prog w) A (O1 (.Subscript value slice pos) env) Q E s:=by
 refine UP (O4 h (fun o s₁ h₁=>O4 h₁ (fun i s₂ h₂=>?_) fun _ _ x=>x) fun _ _ x=>x);obtain⟨hT,h₂⟩:=h₂;unfold Rx;refine Ox ?_;rw[S_ hT.not_modules];refine Ox (Q9 hT hl ?_);have fin:OE (OJ prog w) A (RY slice false o i) (fun r s₃=>OE (OJ prog w) A (Vg value o r >>= fun _=>pure r) Q E s₃) E s₂:=by rw[hs o i];exact UT (O4 h₂ (fun r s₃ h₃=>Ox (Tr (OC h₃))) fun _ _ x=>x)
 first
  |exact OC (Ox fin)
  |exact Ox (OC (Ox fin))
  |exact Ox fin
variable {X:Cx}
theorem oh{a:Oz}(I:Inv X ac σ H s)(g:nz H a y o):s.TypeIs (.ref a) "dict":=by
 rcases g with⟨kvs,k,e,_,_⟩|⟨kvs,k,b,e,_,_,_⟩
 ·obtain⟨_,_,vs,_,dd⟩:=qL I.hok e;exact dd.typeIs
 obtain⟨_,_,xs,_,dd⟩:=oq I.hok e;exact dd.typeIs
def Js(td ty:TE):TE:=fun σ H Q=>td σ H fun x H1=>ty σ H1 fun y H2=>∃a v,x=.ref a/\nz H2 a y (some v)/\Q v H2
def Jg(td ty tv:TE):TS:=fun D σ H=>tv σ H fun v H1=>td σ H1 fun x H2=>ty σ H2 fun y H3=>∃a H4,x=.ref a/\zY H3 a y v H4/\D.nx σ H4
section
variable{X:Cx}{o i e value:OL}{pos pos' tpos:Pos}{td ty tv:TE}
theorem oF(hu:X.A.units+1<cLine)(ho:PE X o td)(hi:PE X i ty)(hs:JR i):PE X (.Subscript o i pos) (Js td ty):=by intro ac s σ H Q I h;refine Es Sg.lookup hs (thn (ho ac s σ H _ I h) fun u s1 ⟨x,H1,I1,rx,q1⟩=>thn (hi ac s1 σ H1 _ I1 q1) ?_);rintro iv s2 ⟨y,H2,I2,ry,a,v,ex,g,q2⟩;subst ex;obtain rfl:u=OT a:=rx;exact⟨oh I2 g,rl hu I2 g ry fun w' s3 I3 rw'=>⟨v,H2,I3,rw',q2⟩⟩
theorem DC(hu:X.A.units+1<cLine)(ho:PE X o td)(hi:PE X i ty)(hv:PE X value tv)(hs:Ra value (some (.Subscript o i pos')) pos.line X.env=pure false) :
  PS X (.Assign [.Subscript o i pos'] value pos) (Jg td ty tv):=by
 intro ac s σ H D I h;refine wpAny_Assign_Subscript (thn (hv ac s σ H _ I h) ?_) hs;rintro r s1 ⟨v,H1,I1,rv,q1⟩;refine thn (ho ac s1 σ H1 _ I1 q1) ?_;rintro u s2 ⟨x,H2,I2,rx,q2⟩;refine thn (hi ac s2 σ H2 _ I2 q2) ?_;rintro iv s3 ⟨y,H3,I3,ry,a,H4,ex,g,q3⟩;subst ex;obtain rfl:u=OT a:=rx;exact nT hu I3 g ry rv fun s4 I4=>⟨σ,H4,I4,q3⟩
end
theorem C4(h:OM)(hb:O0<h.objs.size):bC P w H (h.push { cls:=.type "dict",data:=.dict #[] }) h.objs.size (.dK []):=
 ⟨F' _,beq_eq_false_iff_ne.mpr (Qv (j' hb)),[],.nil,W9 h⟩
theorem Br(h:OM)(hb:O0<h.objs.size):bC P w H (h.push { cls:=.type "dict",data:=.dict #[] }) h.objs.size (.dT []):=
 ⟨F' _,beq_eq_false_iff_ne.mpr (Qv (j' hb)),[],.nil,_,#[],0,OF _ rfl,⟨rfl,rfl,rfl⟩,rfl,rfl,LY⟩
def GV:TE:=fun _ H Q=>∀p,H p=none->Q (.ref p) (upd H p (.dT []))
section
variable{X:Cx}{pos:Pos}
theorem Ds:PE X (.Dict [] [] pos) GV:=fun ac s σ H Q I h=>
 wpAny_Dict_empty ⟨.ref s.heap.objs.size,_,I.laid (a:=s.heap.objs.size) (o:=.dT []) (t':=s.toks) (fun _ _ q=>OD _ q) (b_ _) (Br s.heap I.big),rfl,h _ (I.hok.fresh (b_ _))⟩
end
noncomputable def x5:List (TE×TE)->St->Hp->(List (V×V)->Hp->Prop)->Prop
 | [],_,H,Q=>Q [] H
 | (tk,tv)::r,σ,H,Q=>tk σ H fun x H1=>tv σ H1 fun y H2=>x5 r σ H2 fun ps H3=>Q ((x,y)::ps) H3
abbrev VV:List (V×V)->List (Oy×Oy)->Prop:=QE fun p q=>RelV p.1 q.1/\RelV p.2 q.2
def PPs(X:Cx)(pos:Pos)(keys:List (Option OL))(values:List OL)(trs:List (TE×TE)):Prop:=
 ∀(ac:List (Oz×Obj)) (s:OB) (σ:St) (H:Hp) (Q:List (V×V)->Hp->Prop),Inv X ac σ H s->x5 trs σ H Q->
  OE (OJ X.prog X.w) X.A (evalPairs (pairTrees keys values X.env pos)) (fun vs s'=>∃ps H',Inv X ac σ H' s'/\VV ps vs/\Q ps H') X.xe s
theorem EI:PPs X pos [] [] []:=fun ac s σ H Q I h=>pairTrees_nil_walk ⟨[],H,I,.nil,h⟩
variable {trs:List (TE×TE)}
theorem vC{k v:OL}{ks:List (Option OL)}{vs:List OL}{tk tv:TE}(hk:PE X k tk)(hv:PE X v tv)(hr:PPs X pos ks vs trs) :
  PPs X pos (some k::ks) (v::vs) ((tk,tv)::trs):=fun ac s σ H Q I h=>
 pairTrees_cons_walk (thn (hk ac s σ H _ I h) fun u s1 ⟨x,H1,I1,rx,q1⟩=>thn (hv ac s1 σ H1 _ I1 q1) fun w2 s2 ⟨y,H2,I2,ry,q2⟩=>
  thn (hr ac s2 σ H2 _ I2 q2) fun ws s3 ⟨ps,H3,I3,rel,q3⟩=>⟨(x,y)::ps,H3,I3,.cons ⟨rx,ry⟩ rel,q3⟩)
def jU(kvs more:List (Key×V)):List (Key×V):=more.foldl (fun acc kv=>putK acc kv.1 kv.2) kvs
theorem KV.merge:∀{more:List (Key×V)}{rs:List (Key×Oy)}{kvs:List (Key×V)}{vs:List (Key×Oy)},KV more rs->KV kvs vs->KV (jU kvs more) (merged vs rs):=by
 intro more rs kvs vs r;unfold KV at r;induction r generalizing kvs vs with
 |nil=>intro q;exact q
 | @cons p q ps qs h t ih=>
  intro r0;have e:KV (putK kvs p.1 p.2) (stored vs q.1 q.2):=by have:=r0.put p.1 h.2;rw[<-h.1];exact this
  exact ih e
theorem kW:∀(more kvs:List (Key×V)),(jU kvs more).length<=kvs.length+more.length
 | [],kvs=>by show kvs.length<=kvs.length+0;lia
 |p::r,kvs=>by have h1:=kW r (putK kvs p.1 p.2);have h2:=j4 kvs p.1 p.2;show(jU (putK kvs p.1 p.2) r).length<=_;rw[g_];lia
theorem qw{P:OI}{w:OK}:∀{kvs:List (Key×V)}{ws:List (Oy×Oy)},VV (kvs.map fun kv=>(kV kv.1,kv.2)) ws->∃rs,Carries (bx P w) ws rs/\KV kvs rs
 | [],_,r=>by rw[LX]at r;cases r;exact⟨[],Qc,.nil⟩
 |p::kvs,_,r=>by
  rw[c_]at r;cases r with
  | @cons a b as bs h t=>
   obtain⟨rs,c,q⟩:=qw (P:=P) (w:=w) t;obtain⟨b1,b2⟩:=b;exact⟨(p.1,b2)::rs,⟨uY h.1,rfl,c⟩,.cons ⟨rfl,h.2⟩ q⟩
def IM(trs:List (TE×TE)):TE:=fun σ H Q=>∀p,H p=none->x5 trs σ (upd H p (.dK [])) fun ps H2=>H2 p=some (.dK [])/\∃kvs:List (Key×V),ps=kvs.map (fun kv=>(kV kv.1,kv.2))/\kvs.length<=15/\Q (.ref p) (upd H2 p (.dK (jU [] kvs)))
theorem DK{keys:List (Option OL)}{values:List OL}(h:PPs X pos keys values trs)(hall:keys.all (·.isSome)=true)(hl:keys.length=values.length)(h0:keys≠[])
  (h15:keys.length<=15):PE X (.Dict keys values pos) (IM trs):=by
 intro ac s σ H Q I q;have hn:=I.hok.fresh (b_ s.heap.objs.size);have I1:=I.laid (a:=s.heap.objs.size) (o:=.dK []) (h':=s.heap.push { cls:=.type "dict",data:=.dict #[] }) (t':=s.toks) (fun _ _ q=>OD _ q) (b_ _) (C4 s.heap I.big);refine wpAny_Dict_walk (knd:=bx X.prog X.w) hall hl h0 h15 (thn (h ac _ σ _ _ I1 (q _ hn)) ?_);rintro ws s2 ⟨ps,H2,I2,rel,e,kvs,ep,lk,q2⟩;subst ep;obtain⟨rs,c,rk⟩:=qw (P:=X.prog) (w:=X.w) rel;obtain⟨z,hd,vs0,r0,dd⟩:=G2 I2.hok e;cases r0;refine⟨rs,c,dd,fun h' dd' hs=>⟨.ref s.heap.objs.size,_,?_,rfl,q2⟩⟩;have hz:(jU [] kvs).length<=sizeLine:=by have h1:=kW kvs [];rw[LP]at h1;rw[sizeLine_eq];lia
 have he:∃q,h'.get? s.heap.objs.size=some q:=let ⟨q,_,_,hq,_⟩:=dd';⟨q,hq⟩
 exact mM I2 (by rw[e];exact Qc) hs he (CO hz hd (rk.merge .nil) dd')
structure M2 (X:Cx) (o:OL) (m:Str) (apos:Pos) (e f:OL) (lv:Pos):Prop where
 base:Ry o m X.env (O1 o X.env)=O1 o X.env
 few:((QF lv (OO [e,f] X.env)).all (fun x=>!x.1)&&(VO lv (Uo [] X.env)).all (fun x=>x.1.isSome)
  && decide (([e,f]:List OL).length+([]:List S9).length+(if([]:List S9).isEmpty then 0 else 1)<30))=true
 line:(apos.endLine == lv.line)=true
 trees:QF lv (OO [e,f] X.env)=[(false,O1 e X.env),(false,O1 f X.env)]
def IsD(H:Hp)(a:Oz):Prop:=(∃kvs,Rd H a (.dK kvs))\/∃kvs,Rd H a (.dT kvs)
theorem Hw{a:Oz}(I:Inv X ac σ H s)(d:IsD H a) :
  s.TypeIs (.ref a) "dict"/\(∀b,OT a=.ref b->∃ob,s.heap.get? b=some ob/\ob.dict=none)/\(a == O0)=false:=by
 rcases d with⟨kvs,e⟩|⟨kvs,e⟩
 ·obtain⟨_,hd,vs,_,dd⟩:=qL I.hok e;refine⟨dd.typeIs,fun b q=>?_,hd⟩;cases q;obtain⟨ob,_,_,h1,h2,_⟩:=dd;exact⟨ob,h1,h2.2.1⟩
 obtain⟨_,hd,xs,_,dd⟩:=oq I.hok e;refine⟨dd.typeIs,fun b q=>?_,hd⟩;cases q;obtain⟨ob,_,_,h1,h2,_⟩:=dd;exact⟨ob,h1,h2.2.1⟩
end L2
namespace Att
open PySem PySem.W PySem.Calls PyProof.Rows
theorem oC{P:Ss}{h:OM}:∀(ns:List Int) (vs:List Oy),WellAll P h vs (ns.map WData.int)->P1 vs ns:=by
 intro ns;induction ns with
 |nil=>
  intro vs w;rw[LX]at w;cases w;exact .nil
 |cons n ns ih=>
  intro vs w;rw[c_]at w;cases w with
  |cons a b=>
   cases a;exact .cons _ _ (ih _ b)
theorem Ao{l:OpenLaw}{n:Nat}(hn:l.most=some n){P:Ss}{h:OM}{args:List WData}{vals:List Oy}
  (hpre:l.row.toRowW.claim.pre args=true) (hwl:WellAll P h vals args) :
  ∃a vs ns,vals=[OT a]/\args=[WData.list (ns.map WData.int)]/\h.get? a=some { cls:=.type "list",data:=.seq vs.toArray}/\P1 vs ns/\ns.length<=n:=by
 have hsh:WShape.hasAll [] args [.list .int]=true:=(pre_splitW hpre).1;have hc:l.pre.holds [] { args:=args}=true:=(pre_splitW hpre).2;obtain⟨d,r,rfl,h1,h2⟩:=hasAllW_cons hsh;obtain rfl:=hasAllW_nil h2;obtain⟨xs,rfl,h3⟩:=hasW_list h1;obtain⟨ns,rfl⟩:=items_int h3;have hlen:ns.length<=n:=by
  unfold OpenLaw.pre at hc;have h4:(WTm.not (.lt (.lit (.int (n:Int))) (.len (.arg 0)))).holds [] { args:=[.list (ns.map .int)] }=true:=by have h4:=(holds_andW hc).1;rw[hn]at h4;exact h4
  have h5:=condW_of h4 (w_not (w_lt w_lit (w_len_list (w_arg rfl))));rw[a_]at h5;refine Lm fun q=>?_;have q':(n:Int)<((ns.length:Nat):Int):=by lia
  first
   | (rw[decide_eq_true q']at h5;exact absurd h5 (by decide))
   | (simp at h5;omega)
 cases hwl with
 |cons w1 w2=>
  cases w2;cases w1 with
  |list ho hall=>exact⟨_,_,ns,rfl,rfl,ho,oC ns _ hall,hlen⟩
theorem Aw(l:OpenLaw)(args:List WData):l.row.toRowW.claim.post args (.bool true) args=true:=
 postW_of (r:=l.row.toRowW) (X:=(true == true))
  (show WShape.has [] (.bool true) .bool=true by first|rfl|decide|simp[WShape.has,WShape.arms,WShape.armsAll])
  (show(WTm.eq .res (.lit (.bool true))).value [] { args:=args,res:=some (.bool true),after:=args}=some (.bool (true == true))from w_eq_bool (w_res rfl) w_lit) rfl
theorem uT{l:OpenLaw}{n:Nat}{q:OI}{loose:List Str}{XP:(Str->Option Oy)->OM->Prop}{YP:OK->OM->Prop}{d:DefRec}
  (hn:l.most=some n) (hdf:d.params.defaults=[])
  (call:∀(w:OK) (s₀ s₁:OB) (mg mb:Str->Option Oy) (fa:Oz) (o:Obj) (pm cd doc:Oy) (a:Oz) (vs:List Oy) (ns:List Int),
   Ground q loose [] XP w s₀ mg mb s₁.heap->YP w s₁.heap->
   s₁.heap.get? fa=some o->o.data=.func (docDef d.name d.params d.body d.scope pm cd doc)->s₁.heap.CodeRec cd d.name->mg d.name=some (.ref fa)->
   s₁.heap.get? a=some { cls:=.type "list",data:=.seq vs.toArray}->P1 vs ns->ns.length<=n->s₁.gens=#[]->
   Qx (OJ l.prog w) Sm (.call (.ref fa) ⟨[.ref a],[]⟩) (fun r s'=>r=.ok (.ret (.bool true))/\OldK s₁.heap s'.heap/\s'.os=s₁.os/\RB s'.gens) s₁) :
  WalkO q loose XP YP l.row.toRowW d [] (fun f vs=>UU f vs):=by
 intro w s₀ s₁ mg mb G Y fa o pm cd doc dV kV ho hd hcd hD hmg hg args vals as hpre hlay hrd hwl hlo;obtain rfl:dV=.none:=Dflts.none hD hdf;obtain rfl:kV=.none:=Dflts.noKw hD;obtain⟨a,vs,ns,rfl,rfl,hobj,hints,hlen⟩:=Ao hn hpre hwl;refine enter_call (Qm (call w s₀ s₁ mg mb fa o pm cd doc a vs ns G Y ho (fd_plain hd) hcd hmg hobj hints hlen hg) fun r s' hq=>?_);obtain⟨rfl,h2,h3,h4⟩:=hq;exact⟨.inl ⟨.bool true,.bool true,[],rfl,fun _=>rfl,.bool true,Aw l _,fun _=>⟨MV,fun _ hm=>(nomatch hm)⟩⟩,h2,h3,h4⟩
section
variable{prog:OI}{w:OK}{A:OP}{E:Oy->OB->Prop}{s:OB}{K:Frag}
noncomputable def ledger(h:OM)(L d:Oz):List (Oz×Obj):=(A' h.objs.size).filterMap fun a=>if a=L\/a=d then none else(h.get? a).map fun o=>(a,o)
end
end Att
namespace L2
open PySem PySem.Spec PyProof.Rows
theorem rV:∀{vs:List Oy}{ns:List Int},P1 vs ns->Vals (ns.map V.int) vs
 | _,_,.nil=>.nil
 | _,_,.cons n t h=>.cons ⟨t,rfl⟩ (rV h)
noncomputable def Hg(H:Hp):Prop:=∀b,H b=none\/∃o xs,H b=some (.frz o (.lst xs))
variable {fd:OR}{x:Str}
theorem Cb{P:OI}{w:OK}{K:OA}{mg mb:Str->Option Oy}{CX:CXT}{k:Nat}{fa a:Oz}{sp:Sp}{s₁:OB}{vs:List Oy}{ns:List Int}
  (KX:K.In s₁.heap) (hns:s₁.heap.Ns Pu mg) (hb:s₁.heap.Ns Tn mb) (hbb:∀x:Str,x≠"__name__"->mb x=Ql x) (hlim:s₁.heap.NoLimit) (hg:s₁.gens=#[])
  (ha:s₁.heap.get? a=some { cls:=.type "list",data:=.seq vs.toArray}) (hi:P1 vs ns) (hl:ns.length<=sizeLine) (hr:Room k Sm)
  (F:∀base:OM,K.In base->base.Ns Pu mg->FnOk P w K mg base CX k fa fd [x] sp) (hbind:∀(s:OB) (u:Oy),S8 s fd ⟨[u],[]⟩ [(x,u)])
  (hsp:∀H:Hp,Hg H->SqL K H a (ns.map V.int)->sp [.ref a] H (fun v _=>v=.bl true) fun _ _ _=>False)
  (hCX:∀H e s',CX [] H s₁ (fun _ _ _=>False) e s'->False) :
  Qx (OJ P w) Sm (.call (.ref fa) ⟨[.ref a],[]⟩) (fun r s'=>r=.ok (.ret (.bool true))/\OldK s₁.heap s'.heap/\s'.os=s₁.os/\RB s'.gens) s₁:=by
 have rv:=rV hi;have lenV:=hi.length;have core:∀H:Hp,Hg H->SqL K H a (ns.map V.int)->HOk P w H s₁.heap->(∀b,H b≠none->b=a)->(H a≠none->K.lookup a=none)->
   Qx (OJ P w) Sm (.call (.ref fa) ⟨[.ref a],[]⟩) (fun r s'=>r=.ok (.ret (.bool true))/\OldK s₁.heap s'.heap/\s'.os=s₁.os/\RB s'.gens) s₁:=by
  intro H hO hS hok hA hK;have base_of:∀{b:Oz}{o:Obj},s₁.heap.get? b=some o->H b=none->(sJ s₁.heap H).get? b=some o:=fun e n=>Dj e n;have noA:∀{b:Oz}{o:Obj}{es:Array Qp}{ep:Nat},s₁.heap.get? b=some o->o.data=.dict es ep->H b=none:=fun{b o es ep} e d=>by
   cases q:H b with
   |none=>rfl
   |some u=>
    have e':b=a:=hA b (by rw[q];simp);subst e';rw[ha]at e;cases e;have d':VP vs.toArray _=Data.dict es ep:=d;cases d'
  have nsK:∀{b:Oz}{m:Str->Option Oy},s₁.heap.Ns b m->(sJ s₁.heap H).Ns b m:=fun{b m} ⟨o,es,ep,e,d,r⟩=>⟨o,es,ep,base_of e (noA e d),d,r⟩;have hKb:K.In (sJ s₁.heap H):=fun b o e=>base_of (KX b o e) (by
   cases q:H b with
   |none=>rfl
   |some u=>
    have e':b=a:=hA b (by rw[q];simp);subst e';rw[hK (by rw[q];simp)]at e;cases e)
  have hM:Mod K mg (sJ s₁.heap H):=⟨hKb,nsK hns,⟨mb,nsK hb,hbb⟩,let ⟨mc,h1,h2⟩:=hlim;⟨mc,nsK h1,h2⟩⟩;have e0:Env0 P w K mg (sJ s₁.heap H) Sm [] s₁ H:=⟨rfl,hM,fun b o e=>Ek e,M4 (zV _ _),trivial,fun b hb=>absurd (show b∈([]:List Oz)from hb) (by simp),hok,.of_eq hg⟩;refine Qm ((F _ hKb (nsK hns)).run Sm [] s₁ H ⟨[.ref a],[]⟩ [.ref a] [.ref a] _ _ hr e0 (hbind s₁ (.ref a)) (.cons rfl .nil) (hsp H hO hS)) fun r s' h=>?_;cases r with
  |error e=>exact(hCX H e s' h).elim
  |ok fl=>
   cases fl with
   |next=>exact ON h
   |brk=>exact ON h
   |cont=>exact ON h
   |ret u=>
    obtain⟨v,H',os,bare,un,hok',r',q⟩:=h;have q':v=.bl true:=q;subst q';obtain rfl:u=UK true:=r';refine⟨rfl,OldK.of_keep fun b o e=>?_,os,bare⟩;cases q:H b with
    |none=>exact un.keep b o e q (by intro z;exact absurd (show b∈([]:List Oz)from z) (by simp)) (by simp)
    |some u=>
     rcases hO b with z|⟨ob,xs,z⟩
     ·rw[q]at z;cases z
     have z2:=un.frzs b ob _ z;obtain⟨e1,_⟩:=hok b _ z;obtain⟨e2,_⟩:=hok' b _ z2;rw[e]at e1;cases e1;exact e2
 cases hk:K.lookup a with
 |some o=>
  have e:=KX a o hk;rw[ha]at e;cases e;refine core (fun _=>none) (fun _=>.inl rfl) (.inr ⟨_,vs.toArray,_,hk,rfl,rfl,rfl,by rw[i_,lenV];exact hl,by simpa using rv⟩) (fun b u z=>by have z':(none:Option HO)=some u:=z;cases z') (fun b z=>absurd rfl z) fun z=>absurd rfl z
 |none=>
  refine core (fun b=>if b=a then some (.frz { cls:=.type "list",data:=.seq vs.toArray} (.lst (ns.map V.int)))else none) (fun b=>?_) (.inl (.inr ⟨{ cls:=.type "list",data:=.seq vs.toArray},if_pos rfl⟩)) (fun b u z=>?_) (fun b z=>?_) fun _=>hk
  ·by_cases hb:b=a
   ·exact .inr ⟨_,_,if_pos hb⟩
   exact .inl (if_neg hb)
  ·by_cases hb:b=a
   ·have z':=(if_pos hb).symm.trans z;cases z';subst hb;exact⟨ha,by rw[a_];exact hl,vs,_,rv,ha⟩
   have z':=(if_neg hb).symm.trans z;cases z'
  by_cases hb:b=a
  ·exact hb
  exact absurd (if_neg hb) z
theorem DR{l:SO}{n k:Nat}{q:OI}{loose:List Str}{XP:(Str->Option Oy)->OM->Prop}{YP:OK->OM->Prop}{d:DefRec}{K:Ss->OA}{CX:OK->CXT}{sp:OK->Sp}
  (hn:l.most=some n) (hn2:n<=sizeLine) (hdf:d.params.defaults=[]) (hr:Room k Sm)
  (hY:∀(w:OK) (h:OM),YP w h->(K w.params).In h)
  (F:∀(w:OK) (mg:Str->Option Oy) (fa:Oz) (h:OM),(K w.params).In h->h.Ns Pu mg->mg d.name=some (.ref fa)->
   ∃fd:OR,(∀(s:OB) (u:Oy),S8 s fd ⟨[u],[]⟩ [(x,u)])/\
    ∀base:OM,(K w.params).In base->base.Ns Pu mg->FnOk l.prog w (K w.params) mg base (CX w) k fa fd [x] (sp w))
  (hsp:∀(w:OK) (H:Hp) (a:Oz) (ns:List Int),ns.length<=n->Hg H->SqL (K w.params) H a (ns.map V.int)->sp w [.ref a] H (fun v _=>v=.bl true) fun _ _ _=>False)
  (hCX:∀(w:OK) (H:Hp) (s:OB) (e:Oy) (s':OB),CX w [] H s (fun _ _ _=>False) e s'->False) :
  Vw q loose XP YP l.row.toRowW d [] (fun f vs=>UU f vs):=by
 refine Att.uT hn hdf fun w s₀ s₁ mg mb fa o pm cd doc a vs ns G Y ho hd hcd hmg hobj hints hlen hg=>?_;have KX:=hY w _ Y;obtain⟨fd,hb,hF⟩:=F w mg fa _ KX G.T.g hmg;exact Cb KX G.T.g G.T.b G.T.builtins G.T.nolimit hg hobj hints (B' hlen hn2) hr hF hb (fun H hO hS=>hsp w H a ns hlen hO hS) fun H e s'=>hCX w H s₁ e s'
noncomputable def iU(s:OY):Arguments:=match s with
 | .FunctionDef _ a _ _ _ _ _ _ _ _=>a
 | _=>{ posonlyargs:=[],args:=[],vararg:=none,kwonlyargs:=[],kw_defaults:=[],kwarg:=none,defaults:=[] }
noncomputable def ip(s:OY):List OY:=match s with
 | .FunctionDef _ _ b _ _ _ _ _ _ _=>b
 | _=>[]
noncomputable def az(s:OY):PC:=match s with
 | .FunctionDef _ _ _ _ _ _ sc _ _ _=>sc
 | _=>{ kind:=.function,names:=[],isGenerator:=false,isCoroutine:=false}
abbrev CX0:CXT:=fun _ _ _ _ _ _=>False
abbrev E0:XK:=fun _ _ _=>False
theorem IL{X:Cx}:Passes CX0 X E0:=fun _ _ _ _ _ _ _ h=>h.elim
structure Fun (K:OA) (x qual:Str) (st:OY) (f:Oz) (fd:OR):Prop where
 ex:∃(oc:Oy) (od:Option Oz) (kV doc pm:Oy) (an:Option Oz) (cdv ct:Oy) (osl:Array (Option Oy)),
  fd=Qn x qual (iU st) (ip st) (az st) .none kV doc pm an cdv ct/\K.lookup f=some ⟨oc,od,.func fd,osl⟩/\RR K cdv qual=true
 kp:Rm K (.ref f)=true
variable {f:Oz}{ps:List Str}{qual:Str}{st:OY}
section
variable{P:OI}{w:OK}{K:OA}{mg:Str->Option Oy}{base:OM}
theorem Fun.ok {N:List Str}{k:Nat}{sp:Sp}(F:Fun K x qual st f fd)(S:FnScope N ps (az st))(len:∀vs H Q E,sp vs H Q E->vs.length=ps.length)
  (hbody:∀(cdv:Oy) (A:OP) (outer:List Env) (s:OB) (H:Hp) (vs:List V) (Q:VK) (E:XK),Room k (A.deeper (RK qual (az st) s.heap.objs.size f cdv))->sp vs H Q E->
   ∃t,PSs (wx CX0 P w K mg base N qual (az st) f cdv A outer s H E).nox (ip st) t/\t { nx:=fun _ H'=>Q .non H',rt:=Q} (start N vs) H):FnOk P w K mg base CX0 (k+1) f fd ps sp:=by
 obtain⟨oc,od,kV,doc,pm,an,cdv,ct,osl,rfl,lk,hcd⟩:=F.ex;refine JO lk hcd S len fun A outer s H vs Q E hr hsp=>?_;obtain⟨t,h,q⟩:=hbody cdv A outer s H vs Q E hr hsp;exact⟨t,h.nox,q⟩
theorem Fun.binds (F:Fun K x qual st f fd)
  (h:∀(kV doc pm:Oy) (an:Option Oz) (cdv ct:Oy) (us:List Oy),us.length=ps.length->VL (Qn x qual (iU st) (ip st) (az st) .none kV doc pm an cdv ct) ⟨us,[]⟩=pure (ps.zip us)):Binds K fd ps []:=by
 obtain⟨oc,od,kV,doc,pm,an,cdv,ct,osl,rfl,lk,hcd⟩:=F.ex;exact .all (h kV doc pm an cdv ct)
theorem x3{oc:Oy}{od an:Option Oz}{osl:Array (Option Oy)}{kV doc pm cdv ct:Oy}(l:K.lookup f=some ⟨oc,od,.func (Qn x qual (iU st) (ip st) (az st) .none kV doc pm an cdv ct),osl⟩)
  (c:RR K cdv qual=true) (k:Rm K (.ref f)=true):Fun K x qual st f (Qn x qual (iU st) (ip st) (az st) .none kV doc pm an cdv ct):=⟨⟨oc,od,kV,doc,pm,an,cdv,ct,osl,rfl,l,c⟩,k⟩
end
theorem k8{A:OP}{k:Nat}(hr:Room k A):A.units+1<cLine:=Lb (MI (by decide:1<=64) _) hr.units
section
variable{X:Cx}
theorem pv(i:Nat){pos:Pos}(hN:X.N[i]?=some x:=by rfl)(hv:Vis X.env.scope x:=by first|exact d_ rfl|exact j_ (d_ rfl)|exact j_ (j_ rfl))(hd:(x ==("__debug__":Str))=false:=by decide)
  (hcd:(x ==("__classdict__":Str))=false:=by decide):PE X (.Name x pos) (HF i):=jL hN hv hd hcd
end
theorem KD{A B:Prop}(h:B):if false=true then A else B:=by rw[if_neg KL];exact h
theorem Kx{A B:Prop}(h:A):if true=true then A else B:=by rw[if_pos rfl];exact h
noncomputable def dm(H H':Hp):Prop:=∀b o,H b=some o->H' b=some o
theorem dm.seq {K:OA}{H H':Hp}{a:Oz}{xs:List V}(e:dm H H')(h:SqL K H a xs):SqL K H' a xs:=by
 rcases h with (h|⟨o,h⟩)|h
 ·exact .inl (.inl (e _ _ h))
 ·exact .inl (.inr ⟨o,e _ _ h⟩)
 exact .inr h
end L2
namespace ZG
open PySem
noncomputable def Sq(b:Bool)(h:OM)(l:Oz)(xs:Array Oy):Prop:=match b with
 |true=>h.IsTuple l xs
 |false=>h.IsList l xs
noncomputable def Dr(b:Bool)(h:OM)(i l:Oz)(k:Nat):Prop:=match b with
 |true=>h.IsTupleIter i l k
 |false=>h.IsListIter i l k
variable {b:Bool}{h h':OM}{xs:Array Oy}
theorem Sq.ext {l c:Oz}(x:Sq b h l xs)(k:QP c h h')(n:l≠c):Sq b h' l xs:=by
 cases b with
 |true=>exact WG (show h.IsTuple l xs from x) k n
 |false=>exact WN (show h.IsList l xs from x) k n
variable {i:Oz}
theorem Dr.ext {l c:Oz}{k:Nat}(x:Dr b h i l k)(e:QP c h h')(n:i≠c):Dr b h' i l k:=by
 cases b with
 |true=>exact V5 (show h.IsTupleIter i l k from x) e n
 |false=>exact Wf (show h.IsListIter i l k from x) e n
theorem Dr.some {b:Bool}{h:OM}{i l:Oz}{k:Nat}(x:Dr b h i l k):∃o,h.get? i=some o/\∀v,o.data≠.cell v:=by
 cases b with
 |true=>obtain⟨o,e,_,d⟩:=(show h.IsTupleIter i l k from x);exact⟨o,e,fun v z=>by rw[d]at z;cases z⟩
 |false=>obtain⟨o,e,_,d⟩:=(show h.IsListIter i l k from x);exact⟨o,e,fun v z=>by rw[d]at z;cases z⟩
theorem Dr.at {l:Oz}{k:Nat}(x:Dr b h i l k)(e:∀o,h.get? i=Ng o->h'.get? i=Ng o):Dr b h' i l k:=by
 cases b with
 |true=>obtain⟨o,q,r⟩:=(show h.IsTupleIter i l k from x);exact⟨o,e o q,r⟩
 |false=>obtain⟨o,q,r⟩:=(show h.IsListIter i l k from x);exact⟨o,e o q,r⟩
theorem Sq.at {l:Oz}(x:Sq b h l xs)(e:∀o,h.get? l=Ng o->h'.get? l=Ng o):Sq b h' l xs:=by
 cases b with
 |true=>obtain⟨o,q,r⟩:=(show h.IsTuple l xs from x);exact⟨o,e o q,r⟩
 |false=>obtain⟨o,q,r⟩:=(show h.IsList l xs from x);exact⟨o,e o q,r⟩
variable {Q:Oy->OB->Prop}{a:Oy}{b1 b2:Bool}{i1 i2 l1 l2 z:Oz}{ys:Array Oy}
section
variable{prog:OI}{w:OK}{A:OP}{E:Oy->OB->Prop}{s:OB}
theorem DS{l:Oz}{k:Nat}{v:Oy}(d:s.heap.IsTupleIter i l k)(q:s.heap.IsTuple l xs)(hv:xs[k]?=some v)
  (r:∀g,g.IsTupleIter i l (k+1)->Pe i s.heap g->Q v {s with heap:=g}):OE (OJ prog w) A (O8 (.ref i)) Q E s:=by
 obtain⟨oi,hoi,ci,di⟩:=id d;obtain⟨ol,hol,_,nl,dl⟩:=q;unfold O8;refine Ox (O' (name:=P4 "__next__") d.typeIs Qz (O5 Qz d.typeIs R0 ?_ (RT _)));show OE _ _ (Ts (.ref i) 0 >>= _) _ _ s;refine Ox (Py hoi di (x:=.ref l) rfl ?_);show OE _ _ (if(OT l == Pj)=true then _ else _) _ _ s;rw[if_neg (show ¬((OT l == Pj)=true)from KL)];show OE _ _ (Ts (.ref i) 1 >>= _) _ _ s;refine Ox (Py hoi di (x:=.int k 0) rfl ?_);show OE _ _ (SQ (.ref l) >>= _) _ _ s;refine Ox (P' hol dl ?_);simp only[KS,hv];refine Ox (PR hoi di (by simp) (OC ⟨v,rfl,OC (r _ ?_ (O2 ..))⟩));exact⟨_,O6 _ hoi (Qa (O7 di _)),(QQ ..).trans ci,by rw[O7 di];simp[Pl]⟩
theorem HH{l:Oz}{k:Nat}(hh:A.handled=none)(d:s.heap.IsTupleIter i l k)(q:s.heap.IsTuple l xs)(hv:xs[k]?=none)
  (r:∀g e,QP i s.heap g->(∃o,g.get? e=some o/\o.cls=.type "StopIteration")->E (.ref e) {s with heap:=g}):OE (OJ prog w) A (O8 (.ref i)) Q E s:=by
 obtain⟨oi,hoi,ci,di⟩:=id d;obtain⟨ol,hol,_,nl,dl⟩:=q;unfold O8;refine Ox (O' (name:=P4 "__next__") d.typeIs Qz (O5 Qz d.typeIs R0 ?_ (RT _)));show OE _ _ (Ts (.ref i) 0 >>= _) _ _ s;refine Ox (Py hoi di (x:=.ref l) rfl ?_);show OE _ _ (if(OT l == Pj)=true then _ else _) _ _ s;rw[if_neg (show ¬((OT l == Pj)=true)from KL)];show OE _ _ (Ts (.ref i) 1 >>= _) _ _ s;refine Ox (Py hoi di (x:=.int k 0) rfl ?_);show OE _ _ (SQ (.ref l) >>= _) _ _ s;refine Ox (P' hol dl ?_);simp only[KS,hv];refine Ox (PQ (Ox (PR hoi di (by simp) ?_)));show OE _ _ (Su (.type "StopIteration") [] >>= _) _ _ _;refine Ox ?_;simp only[Su,Uy];refine Ox (OU ?_ (by size_fits));refine Ox (m:=Qi _ _) (Q4 (a:=Pj) (by first|rfl|(simp only[Qi];rfl)) ?_);refine OU ?_ (by size_fits);simp only[Uz];refine Ox (R9 ?_)
 first|rw[show A.in1.handled=none from hh]|rw[hh]
 refine Ox (OC (S3 ?_));exact r _ _ (((O2 ..).extBut.push _).push _) ⟨_,OF _ rfl,rfl⟩
theorem tM{l:Oz}{k:Nat}{v:Oy}(d:Dr b s.heap i l k)(q:Sq b s.heap l xs)(hv:xs[k]?=some v)
  (r:∀g,Dr b g i l (k+1)->Pe i s.heap g->Q v {s with heap:=g}):OE (OJ prog w) A (O8 (.ref i)) Q E s:=by
 cases b with
 |true=>exact DS d q hv r
 |false=>exact wpAny_nextOf_list_item d q hv r
theorem Dg{l:Oz}{k:Nat}(hh:A.handled=none)(d:Dr b s.heap i l k)(q:Sq b s.heap l xs)(hv:xs[k]?=none)
  (r:∀g e,QP i s.heap g->(∃o,g.get? e=some o/\o.cls=.type "StopIteration")->E (.ref e) {s with heap:=g}):OE (OJ prog w) A (O8 (.ref i)) Q E s:=by
 cases b with
 |true=>exact HH hh d q hv r
 |false=>exact wpAny_nextOf_list_end hh d q hv r
structure Off (z TI TO i1 i2 l1 l2:Oz):Prop where
 a1:TI≠z
 a2:TO≠z
 a3:i1≠z
 a4:i2≠z
 a5:TI≠TO
 a6:TI≠i1
 a7:TI≠i2
 a8:TO≠i1
 a9:TO≠i2
 b1:i1≠i2
 c1:l1≠z
 c2:l1≠TO
 c3:l1≠i1
 c4:l1≠i2
 e1:l2≠z
 e2:l2≠TO
 e3:l2≠i1
 e4:l2≠i2
theorem Jr{TI TO:Oz}{k:Nat}{x y b:Oy}(D:Off z TI TO i1 i2 l1 l2)
  (hz:QV s.heap z TI TO .none) (hi:P6 s.heap TI (.ref i1) (.ref i2)) (ho:P6 s.heap TO a b)
  (d1:Dr b1 s.heap i1 l1 k) (d2:Dr b2 s.heap i2 l2 k) (q1:Sq b1 s.heap l1 xs) (q2:Sq b2 s.heap l2 ys) (hx:xs[k]?=some x) (hy:ys[k]?=some y)
  (r:∀g,QV g z TI TO (Pl s.heap.objs.size)->P6 g TO x y->Dr b1 g i1 l1 (k+1)->Dr b2 g i2 l2 (k+1)->P6 g s.heap.objs.size x y->g.objs.size=s.heap.objs.size+1->
   (∀c o,c≠z->c≠TO->c≠i1->c≠i2->s.heap.get? c=some o->g.get? c=some o)->Q (.ref s.heap.objs.size) {s with heap:=g}) :
  OE (OJ prog w) A (Pn.«zip.__next__» ⟨[.ref z],[]⟩) (fun fin s'=>∃v,fin=.done (.ret v)/\Q v s') E s:=by
 show OE _ _ (Ts (.ref z) 2 >>= _) _ _ _;refine Ox (Py hz rfl (x:=.bool false) rfl ?_);show OE _ _ (Ts (.ref z) 3 >>= _) _ _ _;refine Ox (Py hz rfl (x:=.ref TI) rfl (Ox (P' hi rfl ?_)));show OE _ _ (PU (.ref z) >>= _) _ _ _;refine Ox ?_;unfold PU;refine Ox (Py hz rfl (x:=.none) rfl (OC ?_));simp only[if_true];refine Ox (PQ (Ox (Py hz rfl (x:=.ref TO) rfl (Ox (Qq hz (by simp) fun g1 z1 s1=>?_)))));have z1:QV g1 z TI TO .ellipsis:=z1;refine Ox ?_;simp only[NS,NZ,Na,Nl];refine Ox (Ox (R_ ?_));show OE _ _ (O8 (.ref i1) >>= _) _ _ _;refine Ox (tM (d1.ext s1.extBut D.a3) (q1.ext s1.extBut D.c1) hx fun g2 w2 s2=>OC ?_);have o2:P6 g2 TO a b:=s2.extBut _ _ D.a8 (s1.extBut _ _ D.a2 ho);refine Ox (P' o2 rfl (Ox (RL o2 fun g3 o3 s3=>?_)));have o3:P6 g3 TO x b:=o3;refine Ox (Q5 (OC (Ox (Ox (R_ ?_)))));show OE _ _ (O8 (.ref i2) >>= _) _ _ _;refine Ox (tM (((d2.ext s1.extBut D.a4).ext s2.extBut D.b1.symm).ext s3.extBut D.a9.symm) (((q2.ext s1.extBut D.e1).ext s2.extBut D.e3).ext s3.extBut D.e2) hy fun g4 w4 s4=>OC ?_);have o4:P6 g4 TO x b:=s4.extBut _ _ D.a9 o3;refine Ox (P' o4 rfl (Ox (RL o4 fun g5 o5 s5=>?_)));have o5:P6 g5 TO x y:=o5;refine Ox (Q5 (OC (OC (Ox (P' o5 rfl (Ox (Vh ?_)))))));have sz:g5.objs.size=s.heap.objs.size:=by rw[s5.1,s4.1,s3.1,s2.1,s1.1]
 have z5:QV g5 z TI TO .ellipsis:=s5.extBut _ _ D.a2.symm (s4.extBut _ _ D.a4.symm (s3.extBut _ _ D.a2.symm (s2.extBut _ _ D.a3.symm z1)));have k5:∀c o,c≠z->c≠TO->c≠i1->c≠i2->s.heap.get? c=some o->g5.get? c=some o:=fun c o n1 n2 n3 n4 e=>
  s5.extBut _ _ n2 (s4.extBut _ _ n4 (s3.extBut _ _ n2 (s2.extBut _ _ n3 (s1.extBut _ _ n1 e))))
 have w15:Dr b1 g5 i1 l1 (k+1):=((w2.ext s3.extBut D.a8.symm).ext s4.extBut D.b1).ext s5.extBut D.a8.symm;have w25:Dr b2 g5 i2 l2 (k+1):=w4.ext s5.extBut D.a9.symm;have zlt:z<g5.objs.size:=OG z5;show OE _ _ (Rg (.ref z) (.ref g5.objs.size) >>= _) _ _ _;refine Ox ?_;unfold Rg;have z6:QV (g5.push { cls:=.type "tuple",data:=.seq #[x,y] }) z TI TO .ellipsis:=OD _ z5;refine Ox (Qq z6 (by simp) fun g7 z7 s7=>?_);have z7:QV g7 z TI TO (Pl g5.objs.size):=z7;refine Qq z7 (by simp) fun g8 z8 s8=>?_
 have z8:QV g8 z TI TO (Pl g5.objs.size):=z8;have up:∀c o,c≠z->g5.get? c=some o->g8.get? c=some o:=fun c o n e=>s8.extBut _ _ n (s7.extBut _ _ n (OD _ e));have t8:P6 g8 g5.objs.size x y:=s8.extBut _ _ (LD zlt) (s7.extBut _ _ (LD zlt) (OF _ rfl));have e8:g8.objs.size=g5.objs.size+1:=by rw[s8.1,s7.1,Pc]
 rw[sz]at z8 t8 e8;refine OC ⟨_,rfl,?_⟩;show Q (.ref g5.objs.size) _;rw[sz];exact r g8 z8 (up _ _ D.a2 o5) (w15.at fun o e=>up _ o D.a3 e) (w25.at fun o e=>up _ o D.a4 e) t8 e8 fun c o n1 n2 n3 n4 e=>up c o n1 (k5 c o n1 n2 n3 n4 e)
theorem zEnd{TI TO:Oz}{k:Nat}{b:Oy}{Q:Fin->OB->Prop}(hh:A.handled=none)(D:Off z TI TO i1 i2 l1 l2)
  (hz:QV s.heap z TI TO .none) (hi:P6 s.heap TI (.ref i1) (.ref i2)) (ho:P6 s.heap TO a b)
  (d1:Dr b1 s.heap i1 l1 k) (d2:Dr b2 s.heap i2 l2 k) (q1:Sq b1 s.heap l1 xs) (q2:Sq b2 s.heap l2 ys) (hn:xs[k]?=none\/ys[k]?=none)
  (r:∀g e,(∀c o,c≠z->c≠TO->c≠i1->c≠i2->s.heap.get? c=some o->g.get? c=some o)->(∃o,g.get? e=some o/\o.cls=.type "StopIteration")->E (.ref e) {s with heap:=g}) :
  OE (OJ prog w) A (Pn.«zip.__next__» ⟨[.ref z],[]⟩) Q E s:=by
 show OE _ _ (Ts (.ref z) 2 >>= _) _ _ _;refine Ox (Py hz rfl (x:=.bool false) rfl ?_);show OE _ _ (Ts (.ref z) 3 >>= _) _ _ _;refine Ox (Py hz rfl (x:=.ref TI) rfl (Ox (P' hi rfl ?_)));show OE _ _ (PU (.ref z) >>= _) _ _ _;refine Ox ?_;unfold PU;refine Ox (Py hz rfl (x:=.none) rfl (OC ?_));simp only[if_true];refine Ox (PQ (Ox (Py hz rfl (x:=.ref TO) rfl (Ox (Qq hz (by simp) fun g1 z1 s1=>?_)))));have z1:QV g1 z TI TO .ellipsis:=z1;refine Ox ?_;simp only[NS,NZ,Na,Nl];refine Ox (Ox (R_ ?_));show OE _ _ (O8 (.ref i1) >>= _) _ _ _;cases hx:xs[k]? with
 |none=>
  refine Ox (Dg hh (d1.ext s1.extBut D.a3) (q1.ext s1.extBut D.c1) hx fun g2 e s2 he=>?_);obtain⟨oe,hoe,ce⟩:=he;have z2:QV g2 z TI TO .ellipsis:=s2 _ _ D.a3.symm z1;have ne:e≠z:=fun q=>by subst q;rw[z2]at hoe;cases hoe;simp at ce
  exact Qq z2 (by simp) fun g3 _ s3=>r g3 e (fun c o n1 _ n3 _ q=>s3.extBut _ _ n1 (s2 _ _ n3 (s1.extBut _ _ n1 q))) ⟨oe,s3.extBut _ _ ne hoe,ce⟩
 |some x=>
  have hy:ys[k]?=none:=by
   rcases hn with h|h
   ·rw[hx]at h;cases h
   exact h
  refine Ox (tM (d1.ext s1.extBut D.a3) (q1.ext s1.extBut D.c1) hx fun g2 w2 s2=>OC ?_);have o2:P6 g2 TO a b:=s2.extBut _ _ D.a8 (s1.extBut _ _ D.a2 ho);refine Ox (P' o2 rfl (Ox (RL o2 fun g3 o3 s3=>?_)));refine Ox (Q5 (OC (Ox (Ox (R_ ?_)))));show OE _ _ (O8 (.ref i2) >>= _) _ _ _;refine Ox (Dg hh (((d2.ext s1.extBut D.a4).ext s2.extBut D.b1.symm).ext s3.extBut D.a9.symm) (((q2.ext s1.extBut D.e1).ext s2.extBut D.e3).ext s3.extBut D.e2) hy fun g4 e s4 he=>?_);obtain⟨oe,hoe,ce⟩:=he;have z4:QV g4 z TI TO .ellipsis:=s4 _ _ D.a4.symm (s3.extBut _ _ D.a2.symm (s2.extBut _ _ D.a3.symm z1));have ne:e≠z:=fun q=>by subst q;rw[z4]at hoe;cases hoe;simp at ce
  exact Qq z4 (by simp) fun g5 _ s5=>r g5 e (fun c o n1 n2 n3 n4 q=>s5.extBut _ _ n1 (s4 _ _ n4 (s3.extBut _ _ n2 (s2.extBut _ _ n3 (s1.extBut _ _ n1 q))))) ⟨oe,s5.extBut _ _ ne hoe,ce⟩
theorem vJ{TI TO:Oz}{k:Nat}{x y b:Oy}{Q:Option Oy->OB->Prop}(D:Off z TI TO i1 i2 l1 l2)
  (hz:QV s.heap z TI TO .none) (hi:P6 s.heap TI (.ref i1) (.ref i2)) (ho:P6 s.heap TO a b)
  (d1:Dr b1 s.heap i1 l1 k) (d2:Dr b2 s.heap i2 l2 k) (q1:Sq b1 s.heap l1 xs) (q2:Sq b2 s.heap l2 ys) (hx:xs[k]?=some x) (hy:ys[k]?=some y)
  (r:∀g,QV g z TI TO (Pl s.heap.objs.size)->P6 g TO x y->Dr b1 g i1 l1 (k+1)->Dr b2 g i2 l2 (k+1)->P6 g s.heap.objs.size x y->g.objs.size=s.heap.objs.size+1->
   (∀c o,c≠z->c≠TO->c≠i1->c≠i2->s.heap.get? c=some o->g.get? c=some o)->Q (some (.ref s.heap.objs.size)) {s with heap:=g}) :
  OE (OJ prog w) A (Qh (.ref z)) Q E s:=by
 have hT:s.TypeIs (.ref z) "zip":=⟨_,hz,rfl⟩;unfold Qh;refine Ox (P7 (O' (name:=P4 "__next__") hT RM (O5 RM hT UA ?_ (Ud _))));exact Jr D hz hi ho d1 d2 q1 q2 hx hy fun g p1 p2 p3 p4 p5 p6 p7=>OC (r g p1 p2 p3 p4 p5 p6 p7)
theorem vV{TI TO:Oz}{k:Nat}{b:Oy}{Q:Option Oy->OB->Prop}(hh:A.handled=none)(D:Off z TI TO i1 i2 l1 l2)
  (hz:QV s.heap z TI TO .none) (hi:P6 s.heap TI (.ref i1) (.ref i2)) (ho:P6 s.heap TO a b)
  (d1:Dr b1 s.heap i1 l1 k) (d2:Dr b2 s.heap i2 l2 k) (q1:Sq b1 s.heap l1 xs) (q2:Sq b2 s.heap l2 ys) (hn:xs[k]?=none\/ys[k]?=none)
  (r:∀g,(∀c o,c≠z->c≠TO->c≠i1->c≠i2->s.heap.get? c=some o->g.get? c=some o)->Q none {s with heap:=g}):OE (OJ prog w) A (Qh (.ref z)) Q E s:=by
 have hT:s.TypeIs (.ref z) "zip":=⟨_,hz,rfl⟩;unfold Qh;refine Ox (P7 (O' (name:=P4 "__next__") hT RM (O5 RM hT UA (zEnd hh D hz hi ho d1 d2 q1 q2 hn fun g e k he=>?_) (Ud _))));obtain⟨o,he,hc⟩:=he;exact Ox (Qj (T:="StopIteration") (b:=true) ⟨o,he,hc⟩ RU (OC (r _ k)))
end
noncomputable def nm(b:Bool):String:=if b=true then "tuple_iterator" else "list_iterator"
abbrev Z1(h:OM)(b1:Bool)(l1:Oz):OM:=h.push { cls:=.type (nm b1),data:=.fields #[.ref l1,.int 0 0] }
abbrev Z2(h:OM)(b1 b2:Bool)(l1 l2:Oz):OM:=(Z1 h b1 l1).push { cls:=.type (nm b2),data:=.fields #[.ref l2,.int 0 0] }
abbrev Z3(h:OM)(b1 b2:Bool)(l1 l2:Oz):OM:=(Z2 h b1 b2 l1 l2).push { cls:=.type "tuple",data:=.seq #[.ref h.objs.size,.ref (Z1 h b1 l1).objs.size] }
abbrev Z4(h:OM)(b1 b2:Bool)(l1 l2:Oz):OM:=(Z3 h b1 b2 l1 l2).push { cls:=.type "tuple",data:=.seq #[.none,.none] }
abbrev Z5(h:OM)(b1 b2:Bool)(l1 l2:Oz):OM:=(Z4 h b1 b2 l1 l2).push { cls:=.type "zip",data:=.fields #[.none,.bool false,.bool false,.ref (Z2 h b1 b2 l1 l2).objs.size,.ref (Z3 h b1 b2 l1 l2).objs.size] }
theorem Fi(b1 b2:Bool)(l1 l2:Oz)(xs ys:Array Oy) :
  Meets (Pn.«zip.__new__» ⟨[.type "zip",.ref l1,.ref l2],[]⟩) (fun _ R s=>Sq b1 s.heap l1 xs/\Sq b2 s.heap l2 ys/\R (.ok (.ret (.ref (Z4 s.heap b1 b2 l1 l2).objs.size))) {s with heap:=Z5 s.heap b1 b2 l1 l2}):=
 .of_wp fun prog w A R s h=>by
  obtain⟨hp,g,d,tk,os⟩:=s;obtain⟨q1,q2,h⟩:=h;have hsub:=sub_zip;cases b1 with
  |false=>
   have p1:Ur (Q6 ⟨hp,g,d,tk,os⟩) l1 xs:=q1;cases b2 with
   |false=>
    have p2:Ur (Q6 ⟨hp.push { cls:=.type "list_iterator",data:=.fields #[.ref l1,.int 0 0] },g,d,tk,os⟩) l2 ys:=UB q2 _
    wp_walk using PY p1,PY p2
    exact⟨_,rfl,h⟩
   |true=>
    have p2:Sv (Q6 ⟨hp.push { cls:=.type "list_iterator",data:=.fields #[.ref l1,.int 0 0] },g,d,tk,os⟩) l2 ys:=Ue q2 _
    wp_walk using PY p1,Pp p2
    exact⟨_,rfl,h⟩
  |true=>
   have p1:Sv (Q6 ⟨hp,g,d,tk,os⟩) l1 xs:=q1;cases b2 with
   |false=>
    have p2:Ur (Q6 ⟨hp.push { cls:=.type "tuple_iterator",data:=.fields #[.ref l1,.int 0 0] },g,d,tk,os⟩) l2 ys:=UB q2 _
    wp_walk using Pp p1,PY p2
    exact⟨_,rfl,h⟩
   |true=>
    have p2:Sv (Q6 ⟨hp.push { cls:=.type "tuple_iterator",data:=.fields #[.ref l1,.int 0 0] },g,d,tk,os⟩) l2 ys:=Ue q2 _
    wp_walk using Pp p1,Pp p2
    exact⟨_,rfl,h⟩
section
variable{prog:OI}{w:OK}{A:OP}{E:Oy->OB->Prop}{s:OB}
theorem Cn(q1:Sq b1 s.heap l1 xs)(q2:Sq b2 s.heap l2 ys)
  (r:∀g,QV g (s.heap.objs.size+4) (s.heap.objs.size+2) (s.heap.objs.size+3) .none->P6 g (s.heap.objs.size+2) (.ref s.heap.objs.size) (.ref (s.heap.objs.size+1))->P6 g (s.heap.objs.size+3) .none .none->
    Dr b1 g s.heap.objs.size l1 0->Dr b2 g (s.heap.objs.size+1) l2 0->g.objs.size=s.heap.objs.size+5->(∀c o,s.heap.get? c=some o->g.get? c=some o)->Q (.ref (s.heap.objs.size+4)) {s with heap:=g}) :
  OE (OJ prog w) A (call (.type "zip") [.ref l1,.ref l2]) Q E s:=by
 refine VQ F.called_zip (by decide) (F.typeCall_zip_2 _ _) (F.newCall_zip_2 _ _) (fun obj=>F.args_object_init_3 obj _ _) F.entry_zip_new (Fi b1 b2 l1 l2 xs ys) ⟨q1,q2,?_⟩;have z1:(Z1 s.heap b1 l1).objs.size=s.heap.objs.size+1:=Pc ..;have z2:(Z2 s.heap b1 b2 l1 l2).objs.size=s.heap.objs.size+2:=by rw[Pc,z1]
 have z3:(Z3 s.heap b1 b2 l1 l2).objs.size=s.heap.objs.size+3:=by rw[Pc,z2]
 have z4:(Z4 s.heap b1 b2 l1 l2).objs.size=s.heap.objs.size+4:=by rw[Pc,z3]
 have z5:(Z5 s.heap b1 b2 l1 l2).objs.size=s.heap.objs.size+5:=by rw[Pc,z4]
 have u5:∀c o,(Z4 s.heap b1 b2 l1 l2).get? c=some o->(Z5 s.heap b1 b2 l1 l2).get? c=some o:=fun c o e=>OD _ e;have u4:∀c o,(Z3 s.heap b1 b2 l1 l2).get? c=some o->(Z5 s.heap b1 b2 l1 l2).get? c=some o:=fun c o e=>u5 c o (OD _ e);have u3:∀c o,(Z2 s.heap b1 b2 l1 l2).get? c=some o->(Z5 s.heap b1 b2 l1 l2).get? c=some o:=fun c o e=>u4 c o (OD _ e);have u2:∀c o,(Z1 s.heap b1 l1).get? c=some o->(Z5 s.heap b1 b2 l1 l2).get? c=some o:=fun c o e=>u3 c o (OD _ e);have g5:(Z5 s.heap b1 b2 l1 l2).get? (Z4 s.heap b1 b2 l1 l2).objs.size=some _:=OF _ rfl;have g4:=u5 (Z3 s.heap b1 b2 l1 l2).objs.size _ (OF _ rfl);have g3:=u4 (Z2 s.heap b1 b2 l1 l2).objs.size _ (OF _ rfl);have g2:=u3 (Z1 s.heap b1 l1).objs.size _ (OF _ rfl);have g1:=u2 s.heap.objs.size _ (OF _ rfl);show _/\_;rw[z2,z3,z4]at g5;rw[z1,z2]at g3;rw[z3]at g4;rw[z1]at g2;rw[z4];refine⟨⟨_,g5,rfl⟩,r _ g5 g3 g4 ?_ ?_ z5 fun c o e=>u2 c o (OD _ e)⟩
 ·cases b1 with
  |true=>exact⟨_,g1,rfl,rfl⟩
  |false=>exact⟨_,g1,rfl,rfl⟩
 cases b2 with
 |true=>exact⟨_,g2,rfl,rfl⟩
 |false=>exact⟨_,g2,rfl,rfl⟩
end
end ZG
namespace L2
open PySem PySem.Spec PyProof.Rows
noncomputable def iQ(env:Env):List (Str×QG)->List (Str×Oz)->List (Str×Oz)
 | [],cs=>cs
 |x::r,cs=>iQ env r (if(x.2 == P8)=true then(x.1,(env.cells.lookup x.1).getD 0)::cs else cs)
theorem oU{env:Env}(f:Str×QG->List (Str×Oz)->Sem (ForInStep (List (Str×Oz))))(hf:∀n k cs,f (n,k) cs=if(k == P8)=true then(do let a <-cellOf env n;pure (PJ ((n,a)::cs)))else pure (PJ cs)) :
  ∀(names:List (Str×QG)) (cs:List (Str×Oz)),(∀x∈names,x.2=.free->∃c,env.cells.lookup x.1=some c)->forIn names cs f=pure (iQ env names cs)
 | [],cs,_=>by rw[Nl];rfl
 | (n,k)::r,cs,h=>by
  rw[Na,hf];have hr:∀x∈r,x.2=.free->∃c,env.cells.lookup x.1=some c:=fun x hx=>h x (m_ _ hx);by_cases e:(k == P8)=true
  ·obtain⟨c,hc⟩:=h (n,k) x_ (by simpa using e);have hc':env.cells.lookup n=some c:=hc;rw[if_pos e];have q:cellOf env n=pure c:=by unfold cellOf;rw[hc']
   rw[q,pure_bind,pure_bind];show forIn r ((n,c)::cs) f=pure (iQ env ((n,k)::r) cs);rw[oU f hf r _ hr];unfold iQ;rw[if_pos e,hc'];cases r <;> rfl
  rw[if_neg e,pure_bind];show forIn r cs f=pure (iQ env ((n,k)::r) cs);rw[oU f hf r _ hr]
  conv=>rhs;unfold iQ
  rw[if_neg e]
variable {sc:PC}
theorem pK{env:Env}(h:∀x∈sc.names,x.2=.free->∃c,env.cells.lookup x.1=some c):closureFor sc env=pure (iQ env sc.names []):=by
 unfold closureFor;show(forIn sc.names [] _ >>= fun cs=>pure cs)=_;rw[oU (env:=env) _ (fun n k cs=>by cases e:k == P8 <;> simp[e]) sc.names [] h]
 rfl
theorem uA{env:Env}:∀{names:List (Str×QG)}{cs:List (Str×Oz)}{x:Str}{c:Oz},(∀y∈names,y.2=.free->∃c,env.cells.lookup y.1=some c)->(iQ env names cs).lookup x=some c->
  (env.cells.lookup x=some c/\(x,P8)∈names)\/cs.lookup x=some c
 | [],cs,x,c,_,h=>.inr h
 | (n,k)::r,cs,x,c,hn,h=>by
  unfold iQ at h;have hr:∀y∈r,y.2=.free->∃c,env.cells.lookup y.1=some c:=fun y hy=>hn y (m_ _ hy);have hh:=uA hr h;clear h;rcases hh with⟨h1,h2⟩|h
  ·exact .inl ⟨h1,m_ _ h2⟩
  by_cases e:(k == P8)=true
  ·rw[if_pos e]at h;obtain⟨c',hc⟩:=hn (n,k) x_ (by simpa using e);have hc':env.cells.lookup n=some c':=hc;rw[hc',L9]at h;by_cases ex:(x == n)=true
   ·rw[ex]at h;have ex':x=n:=by simpa using ex
    have ek:k=P8:=by simpa using e
    subst ex' ek;have h':c'=c:=C' h;subst h';exact .inl ⟨hc',x_⟩
   have ex':(x == n)=false:=by simpa using ex
   rw[ex']at h;exact .inr h
  rw[if_neg e]at h;exact .inr h
theorem uH{env:Env}:∀{names:List (Str×QG)}{cs:List (Str×Oz)}{x:Str}{c:Oz},(∀y∈names,y.2=.free->∃c,env.cells.lookup y.1=some c)->env.cells.lookup x=some c->cs.lookup x=some c->(iQ env names cs).lookup x=some c
 | [],cs,x,c,_,_,h=>h
 | (n,k)::r,cs,x,c,hn,he,h=>by
  unfold iQ;refine uH (fun y hy=>hn y (m_ _ hy)) he ?_;by_cases e:(k == P8)=true
  ·rw[if_pos e,L9];by_cases ex:(x == n)=true
   ·rw[ex];have ex':x=n:=by simpa using ex
    subst ex';show some ((env.cells.lookup x).getD 0)=some c;rw[he];rfl
   have ex':(x == n)=false:=by simpa using ex
   rw[ex'];exact h
  rw[if_neg e];exact h
theorem tj{env:Env}:∀{names:List (Str×QG)}{cs:List (Str×Oz)}{x:Str}{c:Oz},(∀y∈names,y.2=.free->∃c,env.cells.lookup y.1=some c)->env.cells.lookup x=some c->(x,P8)∈names->(iQ env names cs).lookup x=some c
 | (n,k)::r,cs,x,c,hn,he,hm=>by
  have hr:∀y∈r,y.2=.free->∃c,env.cells.lookup y.1=some c:=fun y hy=>hn y (m_ _ hy);unfold iQ;rcases h_.mp hm with e|hm
  ·obtain⟨rfl,rfl⟩:=Prod.mk.inj e;rw[if_pos (by rfl)];refine uH hr he ?_;rw[L9,beq_self_eq_true];show some ((env.cells.lookup x).getD 0)=some c;rw[he];rfl
  exact tj hr he hm
noncomputable def qo(env:Env)(sc:PC):PC:={sc with names:=sc.names.map fun x=>if(x.2 == .free&&env.scope.kind == .function&&env.kindOf x.1 == some .cell)=true then(x.1,.cell)else(x.1,x.2) }
theorem mH{f:Str×QG->Bool}(x:Str):∀names:List (Str×QG),(names.map fun y=>if f y=true then(y.1,Xc)else(y.1,y.2)).lookup x=(names.lookup x).map fun k=>if f (x,k)=true then .cell else k
 | []=>rfl
 | (n,k)::r=>by
  rw[c_];by_cases ex:(x == n)=true
  ·have ex':x=n:=by simpa using ex
   subst ex';cases e:f (x,k) <;> simp[e,L9]
  have ex':(x == n)=false:=by simpa using ex
  have ih:=mH (f:=f) x r;cases e:f (n,k) <;> simp only[e,if_true,if_false,mo,L9,ex',ih]
theorem mR(env:Env)(sc:PC)(x:Str):(qo env sc).names.lookup x=(sc.names.lookup x).map fun k=>if(k == .free&&env.scope.kind == .function&&env.kindOf x == some .cell)=true then .cell else k:=
 mH (f:=fun y=>(y.2 == .free&&env.scope.kind == .function&&env.kindOf y.1 == some .cell)) x sc.names
def compEnv(env:Env)(sc:PC)(L:Oz):Env:={ newEnv sc L env.globals (iQ env sc.names []) env.qual none .none (some env) Tn with scope:=qo env sc}
variable {Q:Oy->OB->Prop}{e:OL}{first newAcc:Sem Oy}{gs:List R'}{pos:Pos}{scope:PC}
section
variable{M:Rk}{A:OP}{E:Oy->OB->Prop}{s:OB}{env:Env}
theorem nG{g:R'}
  (hcl:clausesOf e=g::gs) (hs:∀x,Pw g.iter env x=pure x)
  (hc:∀x∈scope.names,x.2≠.cell) (hfr:∀x∈scope.names,x.2=.free->∃c,env.cells.lookup x.1=some c) (hkind:scope.kind=.function) (hnames:∀x∈scope.names,x.2=.local->scope.names.lookup x.1=some .local)
  (h:OE M A first (fun x s₁=>OE M A (RJ x) (fun it s₂=>OE M A newAcc (fun acc s₃=>
   ∀h4,h4.Ns s₃.heap.objs.size (fun _=>none)->(∀b o,s₃.heap.get? b=some o->h4.get? b=some o)->
    Qx M A (.compStart e 0 it acc (compEnv env scope s₃.heap.objs.size)) (fun r s'=>∃m,s'.heap.Ns s₃.heap.objs.size m/\∀h',Pe s₃.heap.objs.size s'.heap h'->
     match r with | .ok _=>Q acc {s' with heap:=h'} | .error x=>False) { s₃ with heap:=h4}) E s₂) E s₁) E s) :
  OE M A (RA e scope env pos newAcc false first) Q E s:=by
 unfold RA;rw[pK hfr,hcl];refine Ox (O4 h (fun x s₁ h₁=>Ox (QO (Ox (Q4 (hs x) (Ox (OS (O4 h₁ (fun it s₂ h₂=>
  Vx (Ox (O4 h₂ (fun acc s₃ h₃=>Ox (OC (Ox ?_))) fun _ _ h'=>h')))
   fun _ _ h'=>h'))))))) fun _ _ h'=>h')
 refine Tt hc (fun x hx=>nomatch hx) (fun h4 hn4 hs4=>?_) hkind;have h₄:=h₃ h4 hn4 fun b o e=>hs4.extBut b o (j' (OG e)) (OD _ e);dsimp only;have hv:∀x∈(scope.names.filter fun x=>(x.2 == .local || x.2 == .cell)&&x.1 !=(".0":Str)).reverse,x.2=.local->
   UW (compEnv env scope s₃.heap.objs.size) x.1=some .local:=fun x hx hl=>by
  show(qo env scope).names.lookup x.1=some .local;rw[mR,hnames x (La.mp (L_.mp hx)).1 hl]
  rfl
 refine OS (Ox (P7 (OS (wpAny_run (Qm h₄ fun r s' hr=>?_)))));obtain⟨m,hn,hr⟩:=hr;cases r with
 |ok f=>exact Ox (OS (UC (cenv:=compEnv env scope s₃.heap.objs.size) hkind _ s' m hv hn fun h' m' _ hs'=>OC (hr h' hs')))
 |error x=>exact(hr s'.heap (.refl ..)).elim
end
variable {elt iter target:OL}{ifs:List OL}
section
variable{prog:OI}{w:OK}{A:OP}{R:UM->OB->Prop}{s:OB}
theorem ox{it acc:Oy}{env:Env}(I:Nat->OB->Prop)
  (turn:∀n s,I n s->OE (OJ prog w) A (Qh it) (fun r s₁=>match r with
   |none=>R (.ok .next) s₁
   |some v=>OE (OJ prog w) A (RI target it v) (fun _ s₁'=>OE (OJ prog w) A (Rb target env v) (fun _ s₂=>
     OE (OJ prog w) A (forIn ifs true fun c r=>if r=true then do let ok <-TU c env (O1 c env);pure (PJ ok)else pure (PJ r)) (fun ok s₃=>
      if ok=true then OE (OJ prog w) A (O1 elt env) (fun x s₄=>
       OE (OJ prog w) A (call (.builtin "list.append") [acc,x]) (fun _ s₅=>∃m,m<n/\I m s₅) (fun _ _=>False) s₄) (fun _ _=>False) s₃
      else ∃m,m<n/\I m s₃) (fun _ _=>False) s₂) (fun _ _=>False) s₁') (fun _ _=>False) s₁) (fun _ _=>False) s)
  (n:Nat) (h:I n s) :
  Qx (OJ prog w) A (.compLoop (.ListComp elt [⟨target,iter,ifs,0⟩] scope pos) 0 it acc env) R s:=by
 refine codeAny_loop rfl I (fun n s hI=>?_) n h;show OE _ A ((compTurn (.ListComp elt [⟨target,iter,ifs,0⟩] scope pos) 0 it acc env).onRaise (fun x=>do noteFrame x env;theTreesLotGoes x)) _ _ s;refine wpAny_noted ?_;rw[compTurn_list];refine Ox (QO (Ox (O4 (turn n s hI) (fun r s₁ h₁=>?_) fun _ _ h'=>h'.elim)));cases r with
 |none=>exact OC h₁
 |some v=>
  refine Ox (O4 h₁ (fun _ s₁' h₁'=>?_) fun _ _ h'=>h'.elim);refine Ox (O4 h₁' (fun _ s₂ h₂=>Ox (O4 h₂ (fun ok s₃ h₃=>?_) fun _ _ h'=>h'.elim)) fun _ _ h'=>h'.elim);cases ok with
  |false=>exact OC ⟨rfl,h₃⟩
  |true=>
   exact Ox (Ox (O4 h₃ (fun x s₄ h₄=>Ox (O4 h₄ (fun _ s₅ h₅=>OC (OC ⟨rfl,h₅⟩)) fun _ _ h'=>h'.elim)) fun _ _ h'=>h'.elim))
end
def bf(X:Cx)(N':List Str)(sc:PC)(s3:OB)(H3:Hp)(fp:List Oz):Cx where
 prog:=X.prog
 w:=X.w
 K:=X.K
 mg:=X.mg
 base:=X.base
 A:=X.A
 N:=N'
 s₀:=s3
 H₀:=H3
 env:=compEnv X.env sc s3.heap.objs.size
 outer:=X.stack
 stack:=X.stack
 ex:=fp
 calm:=true
 fn:=fun _=>false
 pn:=[]
 xe:=fun _ _=>False
noncomputable def kG(N:List Str)(esc sc:PC)(N':List Str)(fr:List (Option Nat)):Bool:=
 sc.kind == .function&&esc.kind == .function
 && sc.names.all (fun y=>(y.2 != .cell)&&(y.2 != .free || esc.names.lookup y.1 == some .cell)&&(y.2 != .local || sc.names.lookup y.1 == some .local))
 && fr.length == N'.length
 && (A' N'.length).all (fun i=>match fr[i]? with
  |some (some j)=>match N'[i]? with
   |some x=>N[j]? == some x&&sc.names.lookup x == some .free
   |none=>false
  | _=>true)
structure CompOk (N:List Str) (esc sc:PC) (N':List Str) (fr:List (Option Nat)):Prop where
 kind:sc.kind=.function
 ekind:esc.kind=.function
 nocell:∀x∈sc.names,x.2≠.cell
 free:∀x∈sc.names,x.2=.free->esc.names.lookup x.1=some .cell
 names:∀x∈sc.names,x.2=.local->sc.names.lookup x.1=some .local
 len:fr.length=N'.length
 at_:∀(i j:Nat) (x:Str),fr[i]?=some (some j)->N'[i]?=some x->N[j]?=some x/\sc.names.lookup x=some .free
variable {N N':List Str}{esc:PC}{fr:List (Option Nat)}
theorem rL(h:kG N esc sc N' fr=true):CompOk N esc sc N' fr:=by
 unfold kG at h;simp only[G',beq_iff_eq,KW,Lz]at h;obtain⟨⟨⟨⟨h1,h2⟩,h3⟩,h4⟩,h5⟩:=h;refine⟨h1,h2,fun x hx=>?_,fun x hx e=>?_,fun x hx e=>?_,h4,fun i j x e1 e2=>?_⟩
 ·have:=(h3 x hx).1.1;simpa using this
 ·have:=(h3 x hx).1.2;rw[e]at this;simpa using this
 ·have:=(h3 x hx).2;rw[e]at this;simpa using this
 have hi:i<N'.length:=(f_.mp e2).1;have q:=h5 i hi;rw[e1,e2]at q;simpa using q
noncomputable def fS(fr:List (Option Nat))(σ:St):St:=fr.map fun o=>match o with
 |some j=>(σ[j]?).join
 |none=>none
variable {X:Cx}
theorem vg{ac:List (Oz×Obj)}{σ:St}{H3:Hp}{s3:OB}{fp:List Oz}{h4:OM}(I:Inv X ac σ H3 s3)(C:CompOk X.N X.env.scope sc N' fr)(hc:X.calm=true)
  (hfp:∀b∈fp,mJ X ac H3 b) (hfo:∀b∈fp,∃o,s3.heap.get? b=some o) (hn:h4.Ns s3.heap.objs.size (fun _=>none)) (hk:∀b o,s3.heap.get? b=some o->h4.get? b=some o) :
  Inv (bf X N' sc s3 H3 fp) [] (fS fr σ) H3 {s3 with heap:=h4}:=by
 have hfr:∀x∈sc.names,x.2=.free->∃c,X.env.cells.lookup x.1=some c:=fun x hx e=>I.ok.has x.1 (.inl (C.free x hx e));have clo:∀{x c},(iQ X.env sc.names []).lookup x=some c->X.env.cells.lookup x=some c:=fun{x c} e=>by
  rcases uA hfr e with⟨h1,_⟩|h
  ·exact h1
  cases h
 have nfs:∀b∈fp,b ∉ frs X.stack:=fun b hb z=>by
  obtain⟨_,h1,h2,_⟩:=hfp b hb;rcases h_.mp (I.xw b z)with e|e
  ·exact h1 e
  exact h2 e
 have hfresh:H3 s3.heap.objs.size=none:=I.hok.fresh (b_ _);refine⟨⟨I.ok.mod,C.kind,I.ok.glob,I.ok.blt,b_ _,fun x y c e1 e2=>I.ok.inj x y c (clo e1) (clo e2),fun x hx=>?_,fun x c z=>(nomatch z),fun _=>I.ok.hd hc,I.ok.frames,.inl rfl,fun b hb=>⟨?_,fun x c e=>?_⟩,fun b o e=>I.bs b o e,B' I.ok.bsz I.sz,fun b o e hb=>?_,nfs,I.stack,I.xM⟩,
  rfl,I.bare,Un.kept hk,⟨_,hn,fun i x v e1 e2 e3=>?_⟩,fun x c e=>?_,hfresh,fun x c e=>I.freeC x c (clo e),fun p hp=>(nomatch hp),I.hok.kept hk,?_⟩
 ·have hx:(qo X.env sc).names.lookup x=some .cell\/(qo X.env sc).names.lookup x=some .free:=hx;rw[mR]at hx;cases e:sc.names.lookup x with
  |none=>rw[e]at hx;rcases hx with z|z <;> cases z
  |some k=>
   have hm:(x,k)∈sc.names:=P0 e;have hk:k=.free:=by
    rw[e]at hx;cases k with
    |free=>rfl
    |cell=>exact absurd rfl (C.nocell _ hm)
    | _=>rcases hx with z|z <;>(simp at z)
   subst hk;obtain⟨c,hc'⟩:=hfr _ hm rfl;exact⟨c,tj hfr hc' hm⟩
 ·obtain⟨o,ho⟩:=hfo b hb;exact j' (OG ho)
 ·exact(hfp b hb).2.2.2.2.1 x c (clo e)
 ·obtain⟨e1,_⟩:=I.ok.bs b o e;rcases(hfp b hb).2.2.2.1 with z|z
  ·exact I.ok.noex b o e z
  exact absurd (A_ (OG e1) z) (Lf _)
 ·have e2:(fS fr σ)[i]?=some (some v):=e2;unfold fS at e2;rw[p_]at e2;cases ef:fr[i]? with
  |none=>rw[ef]at e2;cases e2
  |some o=>
   rw[ef]at e2;cases o with
   |none=>cases e2
   |some j=>
    have e2':(σ[j]?).join=some v:=by simpa using e2
    have e2'':σ[j]?=some (some v):=by
     cases q:σ[j]? with
     |none=>rw[q]at e2';cases e2'
     |some z=>rw[q]at e2';exact congrArg some e2'
    obtain⟨hN,hfrx⟩:=C.at_ i j x ef e1;have hm:(x,P8)∈sc.names:=P0 hfrx;have hcell:=C.free _ hm rfl;obtain⟨m,_,hl⟩:=I.loc;obtain⟨u,r,l⟩:=hl j x v hN e2'' (.inr (.inl hcell));refine⟨u,r,.inr ⟨.inl ?_,?_⟩⟩
    ·show(qo X.env sc).names.lookup x=some .cell;rw[mR,hfrx];have h1:X.env.kindOf x=some .cell:=hcell;have h2:X.env.scope.kind=.function:=C.ekind;simp[h1,h2]
    rcases l with⟨k,_⟩|⟨_,c,ec,ic⟩
    ·have h1:X.env.kindOf x=some .cell:=hcell;rw[h1]at k;cases k
    obtain⟨o,ho,hd⟩:=ic;exact⟨c,tj hfr ec hm,o,hk c o ho,hd⟩
 ·obtain⟨v,o,ho,hd⟩:=I.cell x c (clo e);exact⟨v,o,hk c o ho,hd⟩
 unfold fS;rw[a_];exact C.len
def PTs(X:Cx)(ifs:List OL)(t:TT):Prop:=
 ∀(ac:List (Oz×Obj)) (s:OB) (σ:St) (H:Hp) (Q:Bool->Hp->Prop),Inv X ac σ H s->t σ H Q->
  OE (OJ X.prog X.w) X.A (forIn ifs true fun c r=>if r=true then do let ok <-TU c X.env (O1 c X.env);pure (PJ ok)else pure (PJ r)) (TP X ac σ Q) X.xe s
noncomputable def K0:TT:=fun _ H Q=>Q true H
theorem DG:PTs X [] K0:=fun ac s σ H Q I h=>wpAny_tests_nil ⟨H,I,h⟩
theorem Eu{c:OL}{t:TT}(h:PT X c t):PTs X [c] t:=fun ac s σ H Q I q=>wpAny_tests_one (h ac s σ H Q I q)
def Jp(J:It)(fr:List (Option Nat))(g:OB->Hp->List Oz->TG)(tt:OB->Hp->List Oz->TT)(te:OB->Hp->List Oz->TE)(σ:St)(H1:Hp)(Q:VK):Prop:=∀p,H1 p=none->∀s3 H3' fp,∃W:Nat->Nat->St->Hp->Prop,(∃m,W 0 m (fS fr σ) (upd H1 p (.lst [])))/\∀i m f8 H',W i m f8 H'->
 (J.stop i H'/\Q (.ref p) H')\/(J.go i H'/\∀x H2,J.yld i H' x H2->g s3 H3' fp x f8 H2 fun σ2 H3=>tt s3 H3' fp σ2 H3 fun b H4=>
  if b=true then te s3 H3' fp σ2 H4 fun v H5=>∃ys,H5 p=some (.lst ys)/\ys.length<sizeLine/\∃m',m'<m/\W (i+1) m' σ2 (upd H5 p (.lst (ys++[v])))else ∃m',m'<m/\W (i+1) m' σ2 H4)
def zD(wi:TI)(fr:List (Option Nat))(g:OB->Hp->List Oz->TG)(tt:OB->Hp->List Oz->TT)(te:OB->Hp->List Oz->TE):TE:=fun σ H Q=>wi σ H fun J H1=>Jp J fr g tt te σ H1 Q
variable {g:OB->Hp->List Oz->TG}{te:OB->Hp->List Oz->TE}{tt:OB->Hp->List Oz->TT}{wi:TI}
theorem Eb(N':List Str)(fr:List (Option Nat))(hc:X.calm=true)(C:kG X.N X.env.scope sc N' fr=true)
  (hi:PI X target iter wi) (hg:∀s3 H3 fp,PG (bf X N' sc s3 H3 fp) target (g s3 H3 fp)) (ht:∀s3 H3 fp,PTs (bf X N' sc s3 H3 fp) ifs (tt s3 H3 fp)) (he:∀s3 H3 fp,PE (bf X N' sc s3 H3 fp) elt (te s3 H3 fp))
  (hs:∀x,Pw iter X.env x=pure x:=by intro _;rfl):PE X (.ListComp elt [⟨target,iter,ifs,0⟩] sc pos) (zD wi fr g tt te):=by
 have C:=rL C;intro ac s σ H Q I h;rw[eval_ListComp];have hfr:∀x∈sc.names,x.2=.free->∃c,X.env.cells.lookup x.1=some c:=fun x hx e=>I.ok.has x.1 (.inl (C.free x hx e));refine nG (g:=⟨target,iter,ifs,0⟩) (gs:=[]) rfl hs C.nocell hfr C.kind C.names ?_;show OE _ _ (O1 iter X.env) _ _ s;refine thn (hi ac s σ H _ I h) fun v s1 h1=>thn h1 fun itv s2 h2=>?_;obtain⟨it,fp,tn,J,H2,e,I2,T,io,f2,k2⟩:=h2;subst e;refine Q0 ?_ (by show 0<=sizeLine;decide);have hf:H2 s2.heap.objs.size=none:=I2.hok.fresh (b_ _);obtain⟨W,⟨m0,w0⟩,turn⟩:=k2 _ hf {s2 with heap:=s2.heap.push { cls:=.type "list",data:=.seq ([]:List Oy).toArray} } (upd H2 s2.heap.objs.size (.lst [])) fp;have kp:∀b u,s2.heap.get? b=some u->(s2.heap.push { cls:=.type "list",data:=.seq ([]:List Oy).toArray}).get? b=some u:=fun b u e=>OD _ e;have I3:Inv X ac σ (upd H2 s2.heap.objs.size (.lst [])) {s2 with heap:=s2.heap.push { cls:=.type "list",data:=.seq ([]:List Oy).toArray} }:=
  I2.laid (t':=s2.toks) kp (b_ _) ⟨F' _,[],0,.nil,OF _ rfl⟩
 have obj2:=T.obj 0 s2.heap io;have fpne:∀b∈fp,b≠s2.heap.objs.size:=fun b hb=>by obtain⟨o,ho,_⟩:=obj2 b hb;exact j' (OG ho)
 have f3:∀b∈fp,mJ X ac (upd H2 s2.heap.objs.size (.lst [])) b:=fun b hb=>⟨by rw[aG (fpne b hb)];exact(f2 b hb).1,(f2 b hb).2⟩
 have jp:=T.keep 0 s2.heap _ io fun b hb o e=>kp b o e;have obj3:=T.obj 0 _ jp;intro h4 hn4 hk4;have st4:=T.keep 0 _ h4 jp fun b hb o e=>hk4 b o e;have I4:=vg (N':=N') (fr:=fr) (fp:=fp) I3 C hc f3 (fun b hb=>let ⟨o,ho,_⟩:=obj3 b hb;⟨o,ho⟩) hn4 hk4;have stat:∀{H':Hp},(∀b∈fp,H' b=none)->∀b∈fp,mJ (bf X N' sc {s2 with heap:=s2.heap.push { cls:=.type "list",data:=.seq ([]:List Oy).toArray} } (upd H2 s2.heap.objs.size (.lst [])) fp) [] H' b:=fun hn b hb=>
  ⟨hn b hb,(I4.ok.exf b hb).1,I4.ok.exfs b hb,.inl hb,(I4.ok.exf b hb).2,fun p hp=>(nomatch hp)⟩
 have loop:Qx (OJ X.prog X.w) X.A (.compLoop (.ListComp elt [⟨target,iter,ifs,0⟩] sc pos) 0 (.ref it) (.ref s2.heap.objs.size) (compEnv X.env sc (s2.heap.push { cls:=.type "list",data:=.seq ([]:List Oy).toArray}).objs.size))
   (fun r s'=>∃m,s'.heap.Ns (s2.heap.push { cls:=.type "list",data:=.seq ([]:List Oy).toArray}).objs.size m/\∀h',Pe (s2.heap.push { cls:=.type "list",data:=.seq ([]:List Oy).toArray}).objs.size s'.heap h'->
    match r with | .ok _=>EP X ac σ Q (.ref s2.heap.objs.size) {s' with heap:=h'} | .error x=>False) {s2 with heap:=h4}:=by
  refine ox (fun n s'=>∃i f8 H',Inv (bf X N' sc {s2 with heap:=s2.heap.push { cls:=.type "list",data:=.seq ([]:List Oy).toArray} } (upd H2 s2.heap.objs.size (.lst [])) fp) [] f8 H' s'/\tn i s'.heap/\(∀b∈fp,H' b=none)/\W i n f8 H') ?_ m0
   ⟨0,_,_,I4,st4,fun b hb=>(f3 b hb).1,w0⟩
  rintro n s5 ⟨i,σ5,H5,I5,st5,fr5,w5⟩;rcases turn i n σ5 H5 w5 with⟨stop,q⟩|⟨go,step⟩
  ·refine thn (T.done (bf X N' sc _ _ fp) rfl rfl rfl rfl i [] s5 σ5 H5 (fun _ _=>False) I5 (stat fr5) st5 stop) ?_;rintro r s6 ⟨hr,I6⟩;subst hr;obtain⟨m6,hn6,_⟩:=id I6.loc;refine⟨m6,hn6,fun h' hs'=>?_⟩;have hL:H5 (s2.heap.push { cls:=.type "list",data:=.seq ([]:List Oy).toArray}).objs.size=none:=I6.free;have hok':HOk X.prog X.w H5 h':=fun b u e=>by
    refine(I6.hok b u e).qk (fun c v hc q=>(hs'.2 c ?_).trans q) (fun _ q=>q) fun _ _ q=>q;rintro rfl;rcases hc with rfl|hc
    ·rw[hL]at e;cases e
    rw[hL]at hc;cases hc
   have ub:=I6.base;have lt:∀b o,(s2.heap.push { cls:=.type "list",data:=.seq ([]:List Oy).toArray}).get? b=some o->b≠(s2.heap.push { cls:=.type "list",data:=.seq ([]:List Oy).toArray}).objs.size:=fun b o e=>j' (OG e);have un:Un (frs X.stack) fp (upd H2 s2.heap.objs.size (.lst [])) H5 (s2.heap.push { cls:=.type "list",data:=.seq ([]:List Oy).toArray}) h':=
    ⟨fun b o e n hb hx=>(hs'.2 b (lt b o e)).trans (ub.keep b o e n hb hx),fun b o e n hb hx=>let ⟨sl,z⟩:=ub.slot b o e n hb hx;⟨sl,(hs'.2 b (lt b o e)).trans z⟩,ub.free,
     fun b o e hx=>let ⟨o',z⟩:=ub.there b o e hx;⟨o',(hs'.2 b (lt b o e)).trans z⟩,ub.tups,ub.frzs,ub.tbls⟩
   refine⟨.ref s2.heap.objs.size,H5,I3.FT (s':={s6 with heap:=h'}) (ch:=fp) I6.os un hok' I6.bare (fun b hb=>?_),rfl,q⟩;obtain⟨_,g1,g2,g3,g4,g5⟩:=f3 b hb;exact⟨g3,g1,g4,g5⟩
  refine thn (T.item (bf X N' sc _ _ fp) rfl rfl rfl rfl i [] s5 σ5 H5 (fun _ _=>False) I5 (stat fr5) st5 go) ?_;rintro r s6 ⟨u,hr,h6⟩;subst hr;refine thn h6 ?_;rintro _ s7 ⟨x,H7,I7,r7,y7,st7,fr7⟩;have I7':=I7.pinned (stat fr7) (T.obj _ _ st7);have again:∀{σ8:St}{H8:Hp}{s8:OB},Inv (bf X N' sc {s2 with heap:=s2.heap.push { cls:=.type "list",data:=.seq ([]:List Oy).toArray} } (upd H2 s2.heap.objs.size (.lst [])) fp) ([]++nh fp s7.heap) σ8 H8 s8->(∃m',m'<n/\W (i+1) m' σ8 H8)->
    ∃m,m<n/\∃i f8 H',Inv (bf X N' sc {s2 with heap:=s2.heap.push { cls:=.type "list",data:=.seq ([]:List Oy).toArray} } (upd H2 s2.heap.objs.size (.lst [])) fp) [] f8 H' s8/\tn i s8.heap/\(∀b∈fp,H' b=none)/\W i m f8 H':=fun{σ8 H8 s8} I8 ⟨m',hm,w8⟩=>by
   refine⟨m',hm,i+1,σ8,H8,I8.kF,T.keep _ _ _ st7 fun b hb o e=>(I8.pin (b,o) (w_ _ (w_ _ (ij hb e)))).1,fun b hb=>?_,w8⟩;obtain⟨o,e,d⟩:=T.obj _ _ st7 b hb;exact(I8.pin (b,o) (w_ _ (w_ _ (ij hb e)))).2.1
  refine thn (hg _ _ fp _ s7 σ5 H7 x u _ I7' r7 (step x H7 y7)) ?_;rintro _ s8 ⟨σ8,H8,I8,q8⟩;refine thn (ht _ _ fp _ s8 σ8 H8 _ I8 q8) ?_;rintro ok s9 ⟨H9,I9,q9⟩;cases ok with
  |false=>exact again I9 q9
  |true=>
   refine thn (he _ _ fp _ s9 σ8 H9 _ I9 q9) ?_;rintro y s10 ⟨v,H10,I10,r10,ys,hys,hl,q10⟩;refine thn (nN _ s10 σ8 H10 (.ref s2.heap.objs.size) [v] (.ref s2.heap.objs.size) [y] (fun _ H'=>∃m',m'<n/\W (i+1) m' σ8 H') I10 rfl (.cons r10 .nil) ⟨_,ys,v,rfl,rfl,hys,hl,q10⟩) ?_;rintro z s11 ⟨_,H11,I11,_,q11⟩;exact again I11 q11
 refine S4 loop ?_;exact T.self X.A 0 _ _ _ st4 loop
def SqG(b:Bool)(K:OA)(H:Hp)(a:Oz)(xs:List V):Prop:=match b with
 |true=>SqT K H a xs
 |false=>SqL K H a xs
variable {a:Oz}{b:Bool}{xs ys:List V}
section
variable{X:Cx}{ac:List (Oz×Obj)}{σ:St}{H:Hp}{s:OB}
theorem Inv.sq (I:Inv X ac σ H s)(h:SqG b X.K H a xs):∃be:List Oy,Vals xs be/\ZG.Sq b s.heap a be.toArray/\xs.length<=sizeLine:=by
 cases b with
 |true=>exact I.tuple h
 |false=>
  obtain⟨be,r,p,z⟩:=I.list h;exact⟨be,r,p.isList,z⟩
theorem Inv.wL (I:Inv X ac σ H s)(h:SqG b X.K H a xs)(h':SqG b X.K H a ys):xs=ys:=by
 cases b with
 |true=>exact I.kK h h'
 |false=>exact I.pU h h'
theorem Inv.FJ (I:Inv X ac σ H s){b:Oz}{u:HO}(h:Rd H a u)(f:mJ X ac H b):a≠b:=by
 rintro rfl;rcases h with h|⟨o,h⟩
 ·rw[f.1]at h;cases h
 rw[f.1]at h;cases h
theorem Inv.JP (I:Inv X ac σ H s){b:Oz}{o:Obj}(h:X.K.lookup a=some o)(f:mJ X ac H b):a≠b:=by
 rintro rfl;have e:X.base.get? a=some o:=I.ok.mod.kin a o h;rcases f.2.2.2.1 with z|z
 ·exact I.ok.noex a o e z
 exact absurd (A_ (OG (I.ok.bs a o e).1) z) (Lf _)
theorem Inv.gA (I:Inv X ac σ H s){c:Oz}(h:SqG b X.K H a xs)(f:mJ X ac H c):a≠c:=by
 cases b with
 |true=>
  rcases h with h|⟨o,be,n,hk,_⟩
  ·exact I.FJ h f
  ·exact I.JP hk f
 |false=>
  rcases h with h|⟨o,be,n,hk,_⟩
  ·exact I.FJ h f
  exact I.JP hk f
end
def Itz(K:OA)(b1:Bool)(a1:Oz)(b2:Bool)(a2:Oz):It:=
  ⟨fun i H=>∃xs ys x y,SqG b1 K H a1 xs/\SqG b2 K H a2 ys/\xs[i]?=some x/\ys[i]?=some y,
   fun i H v H'=>∃p x y,H p=none/\v=.ref p/\H'=upd H p (.tup [x,y])/\(∀xs,SqG b1 K H a1 xs->xs[i]?=some x)/\∀ys,SqG b2 K H a2 ys->ys[i]?=some y,
   fun i H=>∃xs ys,SqG b1 K H a1 xs/\SqG b2 K H a2 ys/\(xs.length<=i\/ys.length<=i)⟩
structure Off5 (z TI TO i1 i2:Oz):Prop where
 a1:TI≠z
 a2:TO≠z
 a3:i1≠z
 a4:i2≠z
 a5:TI≠TO
 a6:TI≠i1
 a7:TI≠i2
 a8:TO≠i1
 a9:TO≠i2
 b1:i1≠i2
variable {K:OA}{P:OI}{es:List OL}{w:OK}
theorem BB{x1:Nat}{tp:Pos}(b1:Bool)(a1:Oz)(b2:Bool)(a2 z TI TO i1 i2:Oz)(D:Off5 z TI TO i1 i2) :
  Turn P w K (.Tuple es x1 tp) (Itz K b1 a1 b2 a2) [z,TI,TO,i1,i2] z (fun i h=>QV h z TI TO .none/\P6 h TI (.ref i1) (.ref i2)/\(∃a b,P6 h TO a b)/\ZG.Dr b1 h i1 a1 i/\ZG.Dr b2 h i2 a2 i) where
 mem:=by simp
 obj:=fun i h st b hb=>by
  obtain⟨hz,hi,⟨a,c,ho⟩,d1,d2⟩:=st;have hb:b=z\/b=TI\/b=TO\/b=i1\/b=i2:=by simpa using hb
  rcases hb with rfl|rfl|rfl|rfl|rfl
  ·exact⟨_,hz,fun v e=>by cases (show Ul _=SK v from e)⟩
  ·exact⟨_,hi,fun v e=>by cases (show VP _ _=SK v from e)⟩
  ·exact⟨_,ho,fun v e=>by cases (show VP _ _=SK v from e)⟩
  ·exact d1.some
  exact d2.some
 keep:=fun i h h' st k=>by obtain⟨hz,hi,⟨a,c,ho⟩,d1,d2⟩:=st;exact⟨k z (by simp) _ hz,k TI (by simp) _ hi,⟨a,c,k TO (by simp) _ ho⟩,d1.at fun o e=>k i1 (by simp) o e,d2.at fun o e=>k i2 (by simp) o e⟩
 item:=by
  intro X hP hw hK hc i ac s σ H E I hf st hg;subst hP hw hK;obtain⟨xs,ys,x,y,q1,q2,hx,hy⟩:=hg;obtain⟨be,rv,p1,z1⟩:=I.sq q1;obtain⟨jts,sv,p2,z2⟩:=I.sq q2;obtain⟨u,hu,ru⟩:=rv.get hx;obtain⟨v,hv,rw'⟩:=sv.get hy;obtain⟨hz,hi,⟨a,c,ho⟩,d1,d2⟩:=st;have fz:=hf z (by simp);have fTI:=hf TI (by simp);have fTO:=hf TO (by simp);have f1:=hf i1 (by simp);have f2:=hf i2 (by simp);have DD:ZG.Off z TI TO i1 i2 a1 a2:=⟨D.a1,D.a2,D.a3,D.a4,D.a5,D.a6,D.a7,D.a8,D.a9,D.b1,I.gA q1 fz,I.gA q1 fTO,I.gA q1 f1,I.gA q1 f2,I.gA q2 fz,I.gA q2 fTO,I.gA q2 f1,I.gA q2 f2⟩;refine ZG.vJ DD hz hi ho d1 d2 p1 p2 (by simpa using hu) (by simpa using hv) fun g gz gO g1 g2 gT gs gk=>⟨_,rfl,?_⟩
  refine wpAny_letOwnedTupleGo_zip (s:={s with heap:=g}) gz fun h' hz' hs'=>?_;have hfresh:H s.heap.objs.size=none:=I.hok.fresh (b_ _);have zT:s.heap.objs.size≠z:=LD (OG hz);have kp:∀b o,b ∉ [z,TI,TO,i1,i2]->s.heap.get? b=some o->h'.get? b=some o:=fun b o hb e=>by
   have n:b≠z/\b≠TI/\b≠TO/\b≠i1/\b≠i2:=by simpa using hb
   exact hs'.extBut _ _ n.1 (gk b o n.1 n.2.2.1 n.2.2.2.1 n.2.2.2.2 e)
  have hT:h'.get? s.heap.objs.size=some { cls:=.type "tuple",data:=.seq #[u,v] }:=hs'.extBut _ _ zT gT;have notfp:∀b o,H b=some o->b ∉ [z,TI,TO,i1,i2]:=fun b o e hb=>by have:=(hf b hb).1;rw[e]at this;cases this
  have ne:∀b o,s.heap.get? b=some o->b≠s.heap.objs.size:=fun b o e=>j' (OG e);have nt:∀b o,H b=some o->b≠s.heap.objs.size:=fun b o e=>cI e hfresh;have I1:Inv X ac σ (upd H s.heap.objs.size (.tup [x,y])) {s with heap:=h'}:=by
   refine I.step (g':=s.gens) (d':=s.drawn) (t':=s.toks) (ch:=[z,TI,TO,i1,i2]) (fun b hb=>?_) (fun b o _ _ hc e _=>kp b o hc e) (fun b o _ _ hc e _=>⟨o.slots,kp b o hc e⟩)
    (fun b o _ e n=>by rw[aG (ne b o e)];exact n) (fun b o hc e=>⟨o,kp b o hc e⟩) (fun b zs e=>by rw[aG (nt b _ e)];exact e) (fun b o u e=>by rw[aG (nt b _ e)];exact e)
    (fun b ps e=>⟨#[],by rw[aG (nt b _ e),e];simp⟩) (fun m hm=>?_) (fun b o e=>?_) I.bare
   ·obtain⟨g0,g1,g2,g3,g4,g5⟩:=hf b hb;exact⟨g3,g1,g4,g5⟩
   ·obtain⟨o,es,ep,ho',r⟩:=hm;exact⟨o,es,ep,kp _ o (fun hb=>(hf _ hb).2.1 rfl) ho',r⟩
   by_cases hb:b=s.heap.objs.size
   ·subst hb;rw[aO]at e;cases e;exact⟨by show 2<=sizeLine;decide,[u,v],.cons ru (.cons rw' .nil),_,hT,rfl,_,rfl⟩
   rw[aG hb]at e;refine(I.hok b o e).qk (fun c' w' hc' q=>kp c' w' ?_ q) (fun c' q=>by rw[aG (nt c' _ q)];exact q) fun c' zs q=>by rw[aG (nt c' _ q)];exact q
   rcases hc' with rfl|hc'
   ·exact notfp _ _ e
   exact notfp _ _ hc'
  refine⟨.ref s.heap.objs.size,_,I1,rfl,⟨s.heap.objs.size,x,y,hfresh,rfl,rfl,fun zs hq=>by rw[I.wL hq q1];exact hx,fun zs hq=>by rw[I.wL hq q2];exact hy⟩,?_,fun b hb=>?_⟩
  ·exact⟨hz',hs'.extBut _ _ D.a1 (gk _ _ D.a1 D.a5 D.a6 D.a7 hi),⟨_,_,hs'.extBut _ _ D.a2 gO⟩,g1.ext hs'.extBut D.a3,g2.ext hs'.extBut D.a4⟩
  have hb0:=(hf b hb).1;have hb':b=z\/b=TI\/b=TO\/b=i1\/b=i2:=by simpa using hb
  have lf:∃o,s.heap.get? b=some o:=by
   rcases hb' with rfl|rfl|rfl|rfl|rfl
   ·exact⟨_,hz⟩
   ·exact⟨_,hi⟩
   ·exact⟨_,ho⟩
   ·obtain⟨o,e,_⟩:=d1.some;exact⟨o,e⟩
   obtain⟨o,e,_⟩:=d2.some;exact⟨o,e⟩
  obtain⟨o,e⟩:=lf;rw[aG (ne b o e)];exact hb0
 done:=by
  intro X hP hw hK hc i ac s σ H E I hf st hg;subst hP hw hK;obtain⟨xs,ys,q1,q2,hn⟩:=hg;obtain⟨be,rv,p1,z1⟩:=I.sq q1;obtain⟨jts,sv,p2,z2⟩:=I.sq q2;obtain⟨hz,hi,⟨a,c,ho⟩,d1,d2⟩:=st;have fz:=hf z (by simp);have fTI:=hf TI (by simp);have fTO:=hf TO (by simp);have f1:=hf i1 (by simp);have f2:=hf i2 (by simp);have DD:ZG.Off z TI TO i1 i2 a1 a2:=⟨D.a1,D.a2,D.a3,D.a4,D.a5,D.a6,D.a7,D.a8,D.a9,D.b1,I.gA q1 fz,I.gA q1 fTO,I.gA q1 f1,I.gA q1 f2,I.gA q2 fz,I.gA q2 fTO,I.gA q2 f1,I.gA q2 f2⟩;have l1:=rv.length;have l2:=sv.length;refine ZG.vV (I.ok.hd hc) DD hz hi ho d1 d2 p1 p2 (hn.elim (fun z=>.inl (by simp;omega)) fun z=>.inr (by simp;omega)) fun g gk=>⟨rfl,?_⟩
  have kp:∀b o,b ∉ [z,TI,TO,i1,i2]->s.heap.get? b=some o->g.get? b=some o:=fun b o hb e=>by
   have n:b≠z/\b≠TI/\b≠TO/\b≠i1/\b≠i2:=by simpa using hb
   exact gk b o n.1 n.2.2.1 n.2.2.2.1 n.2.2.2.2 e
  have notfp:∀b o,H b=some o->b ∉ [z,TI,TO,i1,i2]:=fun b o e hb=>by have:=(hf b hb).1;rw[e]at this;cases this
  refine I.step (g':=s.gens) (d':=s.drawn) (t':=s.toks) (ch:=[z,TI,TO,i1,i2]) (fun b hb=>?_) (fun b o _ _ hc e _=>kp b o hc e) (fun b o _ _ hc e _=>⟨o.slots,kp b o hc e⟩)
   (fun b o _ e n=>n) (fun b o hc e=>⟨o,kp b o hc e⟩) (fun b zs e=>e) (fun b o u e=>e) (fun b ps e=>⟨#[],by rw[e];simp⟩) (fun m hm=>?_) (fun b o e=>?_) I.bare
  ·obtain⟨g0,g1,g2,g3,g4,g5⟩:=hf b hb;exact⟨g3,g1,g4,g5⟩
  ·obtain⟨o,es,ep,ho',r⟩:=hm;exact⟨o,es,ep,kp _ o (fun hb=>(hf _ hb).2.1 rfl) ho',r⟩
  refine(I.hok b o e).qk (fun c' w' hc' q=>kp c' w' ?_ q) (fun c' q=>q) fun c' zs q=>q;rcases hc' with rfl|hc'
  ·exact notfp _ _ e
  exact notfp _ _ hc'
 self:=fun _ _ _ _ _ st h=>UD st.1 h
def KA(K:OA)(ta:TA):TI:=fun σ H R=>ta σ H fun vs H1=>∃b1 a1 b2 a2,vs=[.ref a1,.ref a2]/\(∃xs,SqG b1 K H1 a1 xs)/\(∃ys,SqG b2 K H1 a2 ys)/\R (Itz K b1 a1 b2 a2) H1
theorem Ht{x1:Nat}{tp:Pos}{a b:OL}{ta:TA}{p:Pos}(hg:Gl X "zip")(hm:X.mg "zip"=none)(ha:PA X [a,b] ta)(hs:OO [a,b] X.env=[(false,O1 a X.env),(false,O1 b X.env)]:=by rfl)(hs2:OO [b] X.env=[(false,O1 b X.env)]:=by rfl) :
  PI X (.Tuple es x1 tp) (.Call (.Name "zip" p) [a,b] [] pos) (KA X.K ta):=by
 intro ac s σ H R I h;refine Wu (iO I hg hm boot_zip (PZ (thn (ha pos ac s σ H _ I h) fun us s1 ⟨vs,H1,I1,r1,q1⟩=>?_) (by rw[hs,hs2]) (by rw[hs2];rfl)));obtain⟨b1,a1,b2,a2,e,⟨xs,q1⟩,⟨ys,q2⟩,q⟩:=q1;subst e;cases r1 with
 |cons r rr=>
  cases rr with
  |cons r' rr=>
   cases rr;cases r;cases r';obtain⟨be,rv,p1,z1⟩:=I1.sq q1;obtain⟨jts,sv,p2,z2⟩:=I1.sq q2;refine ZG.Cn p1 p2 fun g gz gi go g1 g2 gs gk=>UD (s:={s1 with heap:=g}) gz ?_;have I2:Inv X ac σ H1 {s1 with heap:=g}:=I1.kept (t':=s1.toks) gk;refine⟨_,_,_,_,H1,rfl,I2,BB b1 a1 b2 a2 _ (s1.heap.objs.size+2) (s1.heap.objs.size+3) s1.heap.objs.size (s1.heap.objs.size+1) ?_,⟨gz,gi,⟨_,_,go⟩,g1,g2⟩,fun b hb=>?_,q⟩
   ·constructor <;>(show(_:Nat)≠_) <;> omega
   have hb':s1.heap.objs.size<=b:=by
    have z:b=s1.heap.objs.size+4\/b=s1.heap.objs.size+2\/b=s1.heap.objs.size+3\/b=s1.heap.objs.size\/b=s1.heap.objs.size+1:=by simpa using hb
    rcases z with z|z|z|z|z <;> rw[z] <;>(show(_:Nat)<=_) <;> omega
   exact I1.tH hb' (I1.hok.fresh hb')
noncomputable def bools(bs:List Bool):List V:=bs.map V.bl
variable {i:Nat}{u:Oy}
theorem Ar{bs:List Bool}{us:List Oy}(r:Vals (bools bs) us)(h:us[i]?=some u):∃b,bs[i]?=some b/\u=.bool b:=by
 have hl:=r.length;have hi:i<us.length:=(f_.mp h).1;have hb:i<bs.length:=by rw[<-hl]at hi;simpa[bools]using hi
 have e:(bools bs)[i]?=some (.bl bs[i]):=by unfold bools;rw[p_,e_ hb];rfl
 obtain⟨u',h',ru⟩:=r.get e;rw[h]at h';cases h';exact⟨bs[i],e_ hb,ru⟩
theorem xK(bs:List Bool):((A' bs.length).all fun i=>(bs[i]?).getD true)=bs.all id:=by
 have e:bs=(A' bs.length).map fun i=>(bs[i]?).getD true:=by
  apply List.ext_getElem
  ·simp
  intro i h1 h2;simp[h1]
 conv=>rhs;rw[e,Mh]
 rfl
section
variable{X:Cx}
theorem Cc(hc:X.calm=true):cH X (.builtin "all") (fun xs H Q=>∃a bs,xs=[.ref a]/\SqL X.K H a (bools bs)/\Q (.bl (bs.all id)) H):=by
 intro ac s σ H xs us Q I r h;obtain⟨a,bs,rfl,hq,q⟩:=h;obtain⟨u,rfl,ru⟩:=vals1 r;cases ru;obtain⟨be,rv,p,z⟩:=I.list hq;have hl:=p.isList;have lf:a<s.heap.objs.size:=by obtain⟨_,e,_⟩:=hl;exact OG e
 have hlen:be.toArray.size=bs.length:=by rw[i_,<-rv.length];simp[bools]
 refine call_all_walk (PY hl ⟨s.heap.objs.size,[s.heap.objs.size,a],[s.heap.objs.size],be.toArray.size,_,_,fun i=>(bs[i]?).getD true,rfl,Ww (A:=X.A.in1) (I.ok.hd hc) _ a (j' lf) be.toArray,⟨⟨_,OF _ rfl,rfl,rfl⟩,hl.push _⟩,fun i v s' Q' E' hP hQ=>?_,fun h' tk hk=>?_⟩)
 ·obtain⟨b,e,rfl⟩:=Ar rv (i:=i) (u:=v) (by simpa using hP);simp only[e,Option.getD_some]at hQ;exact PX hQ
 rw[hlen,xK];exact⟨.bl (bs.all id),H,I.kept (t':=tk) (LSm.kept_iter hk),rfl,q⟩
end
inductive Ty where
 |non|bl|int|str|lst|tup|dct
 deriving DecidableEq
noncomputable def Ty.nm:Ty->String
 | .non=>"NoneType"
 | .bl=>"bool"
 | .int=>"int"
 | .str=>"str"
 | .lst=>"list"
 | .tup=>"tuple"
 | .dct=>"dict"
noncomputable def isA(t c:Ty):Bool:=decide (t=c) || (decide (t=.bl)&&decide (c=.int))
inductive TyG (K:OA) (H:Hp):V->Ty->Prop where
 |non:TyG K H .non .non
 |bl (b:Bool):TyG K H (.bl b) .bl
 |int (i:Int):TyG K H (.int i) .int
 |str (x:Str):TyG K H (.str x) .str
 |lst {a:Oz}{xs:List V} (h:SqL K H a xs):TyG K H (.ref a) .lst
 |tup {a:Oz}{xs:List V} (h:SqT K H a xs):TyG K H (.ref a) .tup
 |dct {a:Oz}{kvs:List (Key×V)} (h:Rd H a (.dK kvs)):TyG K H (.ref a) .dct
theorem yV(K:OA)(t c:Ty):PySem.W.kitOne K (.type t.nm) (.type c.nm)=some (isA t c):=by cases t <;> cases c <;> kernel_rfl
theorem zm(K:OA)(t:Ty):∀cs:List Ty,Vi K (.type t.nm) (cs.map fun c=>Pz c.nm)=some (cs.any (isA t))
 | []=>rfl
 |c::r=>by
  rw[c_,LH];unfold Vi;rw[yV];cases isA t c with
  |true=>rfl
  |false=>exact zm K t r
section
variable{X:Cx}{ac:List (Oz×Obj)}{σ:St}{H:Hp}{s:OB}{A:OP}{E:Oy->OB->Prop}{Q:Oy->OB->Prop}
theorem Vals.tys:∀{cs:List Ty}{us:List Oy},Vals (cs.map fun c=>V.ty c.nm) us->us=cs.map fun c=>Pz c.nm
 | [],_,.nil=>rfl
 |c::r,_,.cons h t=>by have e:_=Pz c.nm:=h;rw[c_,<-Vals.tys t,e]
def yD(K:OA)(H:Hp)(y:V)(cs:List Ty):Prop:=(∃c,y=.ty c.nm/\cs=[c])\/∃p,y=.ref p/\H p=some (.tup (cs.map fun c=>V.ty c.nm))
theorem CA{x y:V}{v:Oy}{t:Ty}{cs:List Ty}(I:Inv X ac σ H s)(rx:RelV x u)(ry:RelV y v)(ty:TyG X.K H x t)(ka:yD X.K H y cs)(h:∀tk,Q (.bool (cs.any (isA t))) {s with toks:=tk}) :
  OE (OJ X.prog X.w) A (call (.builtin "isinstance") [u,v]) Q E s:=by
 have go:∀{P:OM->Prop},PySem.W.KitX X.K u (.type t.nm) P->P s.heap->u≠.builtin "__main__.__loader__#opaque"->OE (OJ X.prog X.w) A (call (.builtin "isinstance") [u,v]) Q E s:=fun{P} Z p hx=>by
  rcases ka with⟨c,rfl,rfl⟩|⟨q,rfl,hq⟩
  ·cases (show v=Pz c.nm from ry);have e:([c].any (isA t))=isA t c:=by simp
   exact PySem.W.kia_one Z I.kIn p (yV X.K t c) hx (fun tk=>by rw[<-e];exact h tk)
  cases (show v=OT q from ry);obtain⟨_,be,rv,o,ho,hc,n,hd⟩:=(show bC X.prog X.w H s.heap q (.tup _)from I.hok q _ hq);have e:=rv.tys;subst e;obtain⟨c,dd,dt,sl⟩:=o;cases (show c=_ from hc);cases (show dt=_ from hd);exact PySem.W.kia_tup Z I.kIn p ho (zm X.K t cs) hx h
 cases ty with
 |non=>cases (show u=Pj from rx);exact go PySem.W.kitx_none Qc (fun z=>nomatch z)
 |bl y=>cases (show u=UK y from rx);exact go PySem.W.kitx_bool Qc (fun z=>nomatch z)
 |int i=>obtain⟨t,q⟩:=(show ∃t,u=QT i t from rx);cases q;exact go PySem.W.kitx_int Qc (fun z=>nomatch z)
 |str y=>obtain⟨t,q⟩:=(show ∃t,u=TR y t from rx);cases q;exact go PySem.W.kitx_str Qc (fun z=>nomatch z)
 | @lst a xs hq=>
  cases (show u=OT a from rx);obtain⟨_,_,p,_⟩:=I.list hq;obtain⟨o,h1,h2,_⟩:=p.isList;exact go PySem.W.kitx_list ⟨o,h1,h2⟩ (fun z=>nomatch z)
 | @tup a xs hq=>
  cases (show u=OT a from rx);obtain⟨_,_,p,_⟩:=I.tuple hq;obtain⟨o,h1,h2,_⟩:=p;exact go PySem.W.kitx_tuple ⟨o,h1,h2⟩ (fun z=>nomatch z)
 | @dct a kvs hq=>
  cases (show u=OT a from rx);obtain⟨_,_,vs,_,p⟩:=(show bC X.prog X.w H s.heap a (.dK kvs)from hq.ok I.hok);obtain⟨o,es,ep,h1,h2,_⟩:=p;exact go PySem.W.kitx_dict ⟨o,h1,h2.1⟩ (fun z=>nomatch z)
theorem oz:cH X (.builtin "isinstance") (fun xs H Q=>∃x y t cs,xs=[x,y]/\TyG X.K H x t/\yD X.K H y cs/\Q (.bl (cs.any (isA t))) H):=by
 intro ac s σ H xs us Q I r h;obtain⟨x,y,t,cs,rfl,ty,ka,q⟩:=h;cases r with
 |cons r rr=>
  cases rr with
  |cons r' rr=>
   cases rr;exact CA I r r' ty ka fun tk=>⟨.bl (cs.any (isA t)),H,I.tok tk,rfl,q⟩
end
inductive Dt where
 |int (i:Int)|bl (b:Bool)|str (x:Str)|non|lst (ds:List Dt)|tup (ds:List Dt)
mutual
noncomputable def Has(K:OA)(H:Hp):Dt->V->Prop
 | .int i,v=>v=.int i
 | .bl b,v=>v=.bl b
 | .str x,v=>v=.str x
 | .non,v=>v=.non
 | .lst ds,v=>∃a xs,v=.ref a/\SqL K H a xs/\d9 K H ds xs
 | .tup ds,v=>∃a xs,v=.ref a/\SqT K H a xs/\d9 K H ds xs
noncomputable def d9(K:OA)(H:Hp):List Dt->List V->Prop
 | [],xs=>xs=[]
 |d::r,xs=>∃x t,xs=x::t/\Has K H d x/\d9 K H r t
end
mutual
noncomputable def dpt:Dt->Nat
 | .lst ds=>i8 ds+1
 | .tup ds=>i8 ds+1
 | _=>0
noncomputable def i8:List Dt->Nat
 | []=>0
 |d::r=>max (dpt d) (i8 r)
end
mutual
noncomputable def eqD:Dt->Dt->Bool
 | .int a,.int b=>a == b
 | .int a,.bl b=>a ==(if b then 1 else 0)
 | .bl a,.int b=>(if a then 1 else 0) == b
 | .bl a,.bl b=>a == b
 | .str a,.str b=>a == b
 | .non,.non=>true
 | .lst xs,.lst ys=>eqL xs ys
 | .tup xs,.tup ys=>eqL xs ys
 | _,_=>false
noncomputable def eqL:List Dt->List Dt->Bool
 | [],[]=>true
 |x::xs,y::ys=>eqD x y&&eqL xs ys
 | _,_=>false
end
mutual
theorem kA:∀d:Dt,eqD d d=true
 | .int a=>by simp[eqD]
 | .bl a=>by simp[eqD]
 | .str a=>by simp[eqD]
 | .non=>by simp[eqD]
 | .lst xs=>by rw[eqD];exact pd xs
 | .tup xs=>by rw[eqD];exact pd xs
theorem pd:∀ds:List Dt,eqL ds ds=true
 | []=>by simp[eqL]
 |d::r=>by rw[eqL,kA d,pd r];rfl
end
variable {H:Hp}
theorem d9.len :∀{ds:List Dt}{xs:List V},d9 K H ds xs->ds.length=xs.length
 | [],xs,h=>by rw[d9]at h;rw[h];rfl
 |d::r,xs,h=>by rw[d9]at h;obtain⟨x,t,rfl,_,ht⟩:=h;rw[g_,g_,d9.len ht]
theorem d9.get :∀{ds:List Dt}{xs:List V}{i:Nat}{d:Dt}{x:V},d9 K H ds xs->ds[i]?=some d->xs[i]?=some x->Has K H d x
 | [],xs,i,d,x,h,e,_=>by simp at e
 |c::r,xs,0,d,x,h,e,f=>by rw[d9]at h;obtain⟨y,t,rfl,hy,ht⟩:=h;simp at e f;subst e f;exact hy
 |c::r,xs,i+1,d,x,h,e,f=>by rw[d9]at h;obtain⟨y,t,rfl,hy,ht⟩:=h;exact d9.get ht (i:=i) (by simpa using e) (by simpa using f)
variable {H':Hp}
theorem SqL.same (e:dm H H')(h:SqL K H a xs):SqL K H' a xs:=e.seq h
theorem SqT.same (e:dm H H')(h:SqT K H a xs):SqT K H' a xs:=by
 rcases h with (h|⟨o,h⟩)|h
 ·exact .inl (.inl (e _ _ h))
 ·exact .inl (.inr ⟨o,e _ _ h⟩)
 exact .inr h
theorem SqG.same (e:dm H H')(h:SqG b K H a xs):SqG b K H' a xs:=by
 cases b with
 |true=>exact SqT.same e h
 |false=>exact SqL.same e h
theorem um:d9 K H [] []:=by rw[d9]
variable {d:Dt}
theorem qU{r:List Dt}{x:V}{t:List V}(h:Has K H d x)(g:d9 K H r t):d9 K H (d::r) (x::t):=by rw[d9];exact⟨x,t,rfl,h,g⟩
noncomputable def di(ns:List Int):List Dt:=ns.map Dt.int
theorem rK{K:OA}{H:Hp}:∀ns:List Int,d9 K H (di ns) (ns.map V.int)
 | []=>um
 |n::r=>qU (by rw[Has]) (rK r)
variable {ns:List Int}{p:Oz}
theorem uf(h:SqL K H p (ns.map V.int)):Has K H (.lst (di ns)) (.ref p):=by rw[Has];exact⟨p,_,rfl,h,rK ns⟩
theorem rT:∀ns:List Int,i8 (di ns)=0
 | []=>by simp[di,i8]
 |n::r=>by have ih:=rT r;show i8 (Dt.int n::di r)=0;simp[i8,dpt,ih]
theorem uq:∀{ds:List Dt}{i:Nat}{d:Dt},ds[i]?=some d->dpt d<=i8 ds
 | [],i,d,e=>by simp at e
 |c::r,0,d,e=>by simp at e;subst e;rw[i8];exact Nat.le_max_left _ _
 |c::r,i+1,d,e=>by have q:dpt d<=i8 r:=uq (i:=i) (by simpa using e);rw[i8];exact B' q (Nat.le_max_right _ _)
theorem nI:∀(ds es:List Dt),ds.length=es.length->((A' ds.length).all fun j=>eqD (ds.getD j .non) (es.getD j .non))=eqL ds es
 | [],[],_=>by simp[eqL]
 | [],e::r,h=>by simp at h
 |d::r,[],h=>by simp at h
 |d::r,e::t,h=>by
  have h':r.length=t.length:=by simpa using h
  rw[eqL,<-nI r t h',g_,List.range_succ_eq_map,Md,Mh]
  rfl
theorem su:∀{ds es:List Dt},eqL ds es=true->ds.length=es.length
 | [],[],_=>rfl
 | [],e::r,h=>by simp[eqL]at h
 |d::r,[],h=>by simp[eqL]at h
 |d::r,e::t,h=>by rw[eqL,G']at h;rw[g_,g_,su h.2]
theorem uQ:∀(ds es:List Dt),(((A' (min ds.length es.length)).all fun j=>eqD (ds.getD j .non) (es.getD j .non))&&ds.length == es.length)=eqL ds es:=by
 intro ds es;by_cases h:ds.length=es.length
 ·rw[<-nI ds es h,h,M5];simp
 have:eqL ds es=false:=LV.mpr fun z=>h (su z);rw[this];have:(ds.length == es.length)=false:=by simpa using h
 rw[this,N3]
variable {A:OP}{ds:List Dt}
section
variable{X:Cx}{ac:List (Oz×Obj)}{σ:St}{H:Hp}{s:OB}
theorem uU(n:Nat)(hA:A.units+1+n<cLine+1)(I:Inv X ac σ H s){es:List Dt}{be jts:List Oy}(h1:d9 X.K H ds xs)(h2:d9 X.K H es ys)(r1:Vals xs be)(r2:Vals ys jts)
  (rec:∀d e x y u v,d∈ds->e∈es->Has X.K H d x->Has X.K H e y->RelV x u->RelV y v->QW A.in1 s u v (eqD d e)) :
  ∀j (g1:j<be.toArray.size) (g2:j<jts.toArray.size),QW A.in1 s be.toArray[j] jts.toArray[j] (eqD (ds.getD j .non) (es.getD j .non)):=by
 intro j g1 g2;have l1:=r1.length;have l2:=r2.length;have m1:=h1.len;have m2:=h2.len;have g1':j<be.length:=by simpa using g1
 have g2':j<jts.length:=by simpa using g2
 have a1:j<xs.length:=by lia
 have a2:j<ys.length:=by lia
 have b1:j<ds.length:=by lia
 have b2:j<es.length:=by lia
 obtain⟨u,hu,ru⟩:=r1.get (e_ a1);obtain⟨v,hv,rv⟩:=r2.get (e_ a2);rw[e_ g1']at hu;rw[e_ g2']at hv;cases hu;cases hv;have e1:ds.getD j .non=ds[j]:=by simp[E_,b1]
 have e2:es.getD j .non=es[j]:=by simp[E_,b2]
 rw[e1,e2];have:=rec ds[j] es[j] xs[j] ys[j] be[j] jts[j] (KY b1) (KY b2) (h1.get (e_ b1) (e_ a1)) (h2.get (e_ b2) (e_ a2)) ru rv;simpa using this
theorem zF(h:d∈ds):dpt d<=i8 ds:=by obtain⟨i,hi⟩:=List.getElem?_of_mem h;exact uq hi
mutual
theorem Has.inj (I:Inv X ac σ H s):∀{d e:Dt}{x:V},Has X.K H d x->Has X.K H e x->d=e
 | .int a,.int b,x,h1,h2=>by
  rw[Has]at h1;rw[Has]at h2;rw[h1]at h2;cases h2
  rfl
 | .int a,.bl b,x,h1,h2=>by rw[Has]at h1;rw[Has]at h2;rw[h1]at h2;cases h2
 | .int a,.str b,x,h1,h2=>by rw[Has]at h1;rw[Has]at h2;rw[h1]at h2;cases h2
 | .int a,.non,x,h1,h2=>by rw[Has]at h1;rw[Has]at h2;rw[h1]at h2;cases h2
 | .int a,.lst b,x,h1,h2=>by rw[Has]at h1;rw[Has]at h2;obtain⟨p,xs,e,s1,l1⟩:=h2;rw[h1]at e;cases e
 | .int a,.tup b,x,h1,h2=>by rw[Has]at h1;rw[Has]at h2;obtain⟨p,xs,e,s1,l1⟩:=h2;rw[h1]at e;cases e
 | .bl a,.int b,x,h1,h2=>by rw[Has]at h1;rw[Has]at h2;rw[h1]at h2;cases h2
 | .bl a,.bl b,x,h1,h2=>by
  rw[Has]at h1;rw[Has]at h2;rw[h1]at h2;cases h2
  rfl
 | .bl a,.str b,x,h1,h2=>by rw[Has]at h1;rw[Has]at h2;rw[h1]at h2;cases h2
 | .bl a,.non,x,h1,h2=>by rw[Has]at h1;rw[Has]at h2;rw[h1]at h2;cases h2
 | .bl a,.lst b,x,h1,h2=>by rw[Has]at h1;rw[Has]at h2;obtain⟨p,xs,e,s1,l1⟩:=h2;rw[h1]at e;cases e
 | .bl a,.tup b,x,h1,h2=>by rw[Has]at h1;rw[Has]at h2;obtain⟨p,xs,e,s1,l1⟩:=h2;rw[h1]at e;cases e
 | .str a,.int b,x,h1,h2=>by rw[Has]at h1;rw[Has]at h2;rw[h1]at h2;cases h2
 | .str a,.bl b,x,h1,h2=>by rw[Has]at h1;rw[Has]at h2;rw[h1]at h2;cases h2
 | .str a,.str b,x,h1,h2=>by
  rw[Has]at h1;rw[Has]at h2;rw[h1]at h2;cases h2
  rfl
 | .str a,.non,x,h1,h2=>by rw[Has]at h1;rw[Has]at h2;rw[h1]at h2;cases h2
 | .str a,.lst b,x,h1,h2=>by rw[Has]at h1;rw[Has]at h2;obtain⟨p,xs,e,s1,l1⟩:=h2;rw[h1]at e;cases e
 | .str a,.tup b,x,h1,h2=>by rw[Has]at h1;rw[Has]at h2;obtain⟨p,xs,e,s1,l1⟩:=h2;rw[h1]at e;cases e
 | .non,.int b,x,h1,h2=>by rw[Has]at h1;rw[Has]at h2;rw[h1]at h2;cases h2
 | .non,.bl b,x,h1,h2=>by rw[Has]at h1;rw[Has]at h2;rw[h1]at h2;cases h2
 | .non,.str b,x,h1,h2=>by rw[Has]at h1;rw[Has]at h2;rw[h1]at h2;cases h2
 | .non,.non,x,h1,h2=>rfl
 | .non,.lst b,x,h1,h2=>by rw[Has]at h1;rw[Has]at h2;obtain⟨p,xs,e,s1,l1⟩:=h2;rw[h1]at e;cases e
 | .non,.tup b,x,h1,h2=>by rw[Has]at h1;rw[Has]at h2;obtain⟨p,xs,e,s1,l1⟩:=h2;rw[h1]at e;cases e
 | .lst a,.int b,x,h1,h2=>by rw[Has]at h1;rw[Has]at h2;obtain⟨p,xs,rfl,s1,l1⟩:=h1;cases h2
 | .lst a,.bl b,x,h1,h2=>by rw[Has]at h1;rw[Has]at h2;obtain⟨p,xs,rfl,s1,l1⟩:=h1;cases h2
 | .lst a,.str b,x,h1,h2=>by rw[Has]at h1;rw[Has]at h2;obtain⟨p,xs,rfl,s1,l1⟩:=h1;cases h2
 | .lst a,.non,x,h1,h2=>by rw[Has]at h1;rw[Has]at h2;obtain⟨p,xs,rfl,s1,l1⟩:=h1;cases h2
 | .lst a,.lst b,x,h1,h2=>by rw[Has]at h1;rw[Has]at h2;obtain⟨p,xs,rfl,s1,l1⟩:=h1;obtain⟨q,ys,e,s2,l2⟩:=h2;cases e;have e:=I.pU s1 s2;subst e;rw[d9.inj I l1 l2]
 | .lst a,.tup b,x,h1,h2=>by rw[Has]at h1;rw[Has]at h2;obtain⟨p,xs,rfl,s1,l1⟩:=h1;obtain⟨q,ys,e,s2,l2⟩:=h2;cases e;obtain⟨_,_,pl,_⟩:=I.list s1;obtain⟨_,_,pt,_⟩:=I.tuple s2;obtain⟨o1,g1,c1,_⟩:=pl.isList;obtain⟨o2,g2,c2,_⟩:=pt;rw[g1]at g2;cases g2;rw[c1]at c2;exact absurd c2 (by decide)
 | .tup a,.int b,x,h1,h2=>by rw[Has]at h1;rw[Has]at h2;obtain⟨p,xs,rfl,s1,l1⟩:=h1;cases h2
 | .tup a,.bl b,x,h1,h2=>by rw[Has]at h1;rw[Has]at h2;obtain⟨p,xs,rfl,s1,l1⟩:=h1;cases h2
 | .tup a,.str b,x,h1,h2=>by rw[Has]at h1;rw[Has]at h2;obtain⟨p,xs,rfl,s1,l1⟩:=h1;cases h2
 | .tup a,.non,x,h1,h2=>by rw[Has]at h1;rw[Has]at h2;obtain⟨p,xs,rfl,s1,l1⟩:=h1;cases h2
 | .tup a,.lst b,x,h1,h2=>by rw[Has]at h1;rw[Has]at h2;obtain⟨p,xs,rfl,s1,l1⟩:=h1;obtain⟨q,ys,e,s2,l2⟩:=h2;cases e;obtain⟨_,_,pl,_⟩:=I.list s2;obtain⟨_,_,pt,_⟩:=I.tuple s1;obtain⟨o1,g1,c1,_⟩:=pl.isList;obtain⟨o2,g2,c2,_⟩:=pt;rw[g1]at g2;cases g2;rw[c1]at c2;exact absurd c2 (by decide)
 | .tup a,.tup b,x,h1,h2=>by rw[Has]at h1;rw[Has]at h2;obtain⟨p,xs,rfl,s1,l1⟩:=h1;obtain⟨q,ys,e,s2,l2⟩:=h2;cases e;have e:=I.kK s1 s2;subst e;rw[d9.inj I l1 l2]
theorem d9.inj (I:Inv X ac σ H s):∀{ds es:List Dt}{xs:List V},d9 X.K H ds xs->d9 X.K H es xs->ds=es
 | [],[],xs,h1,h2=>rfl
 | [],e::r,xs,h1,h2=>by rw[d9]at h1;rw[d9]at h2;obtain⟨y,t,e,_,_⟩:=h2;rw[h1]at e;cases e
 |d::r,[],xs,h1,h2=>by rw[d9]at h1;rw[d9]at h2;obtain⟨y,t,e,_,_⟩:=h1;rw[h2]at e;cases e
 |d::r,e::q,xs,h1,h2=>by rw[d9]at h1;rw[d9]at h2;obtain⟨x,t,rfl,g1,g2⟩:=h1;obtain⟨y,w,z,k1,k2⟩:=h2;cases z;rw[Has.inj I g1 k1,d9.inj I g2 k2]
end
theorem pZ{b:Oz}{k:Bool}(h:UX A s (.ref a) (.ref b) k)(hk:a=b->k=true):QW A s (.ref a) (.ref b) k:=by
 by_cases e:a=b
 ·rw[hk e,e];exact SJ _
 exact WO e h
noncomputable def Rz(s:OB):Dt->Oy->Prop
 | .int a,u=>∃t,u=.int a t
 | .bl a,u=>u=.bool a
 | .str a,u=>∃t,u=.str a t
 | .non,u=>u=.none
 | .lst _,u=>∃p be,u=.ref p/\s.heap.IsList p be
 | .tup _,u=>∃p be,u=.ref p/\s.heap.IsTuple p be
noncomputable def knd:Dt->Nat
 | .lst _=>4
 | .tup _=>5
 | _=>0
theorem yL(I:Inv X ac σ H s){x:V}(h:Has X.K H d x)(r:RelV x u):Rz s d u:=by
  cases d <;> rw[Has]at h <;> first
    | (obtain⟨p,xs,rfl,s1,_⟩:=h
       cases r
       first
         | (obtain⟨_,_,pl,_⟩:=I.list s1;exact⟨_,_,rfl,pl.isList⟩)
         | (obtain⟨_,_,pl,_⟩:=I.tuple s1;exact⟨_,_,rfl,pl⟩))
    | (subst h;exact r)
theorem yj{e:Dt}{v:Oy}(hu:A.units<cLine)(h1:Rz s d u)(h2:Rz s e v)(n:knd d≠knd e\/knd d=0):UX A s u v (eqD d e)/\VR A s u v (!eqD d e)/\QW A s u v (eqD d e):=by
 cases d with
 |int a=>
  obtain⟨_,rfl⟩:=h1;cases e with
  |int b=>obtain⟨_,rfl⟩:=h2;simp only[eqD];exact⟨.int_int _ _ _ _,.int_int _ _ _ _,.int_int _ _ _ _⟩
  |bl b=>cases h2;simp only[eqD];exact⟨.int_bool _ _ _,.int_bool _ _ _,.int_bool _ _ _⟩
  |str b=>obtain⟨_,rfl⟩:=h2;simp only[eqD];exact⟨.int_str _ _ _ _,.int_str _ _ _ _,.int_str _ _ _ _⟩
  |non=>cases h2;simp only[eqD];exact⟨.int_none _ _,.int_none _ _,.int_none _ _⟩
  |lst b=>obtain⟨_,_,rfl,hb⟩:=h2;simp only[eqD];exact⟨.int_list _ _ hb hu,.int_list _ _ hb hu,.int_list _ _ hb hu⟩
  |tup b=>obtain⟨_,_,rfl,hb⟩:=h2;simp only[eqD];exact⟨.int_tuple _ _ hb hu,.int_tuple _ _ hb hu,.int_tuple _ _ hb hu⟩
 |bl a=>
  cases h1;cases e with
  |int b=>obtain⟨_,rfl⟩:=h2;simp only[eqD];exact⟨.bool_int _ _ _,.bool_int _ _ _,.bool_int _ _ _⟩
  |bl b=>cases h2;simp only[eqD];exact⟨.bool_bool _ _,.bool_bool _ _,.bool_bool _ _⟩
  |str b=>obtain⟨_,rfl⟩:=h2;simp only[eqD];exact⟨.bool_str _ _ _,.bool_str _ _ _,.bool_str _ _ _⟩
  |non=>cases h2;simp only[eqD];exact⟨.bool_none _,.bool_none _,.bool_none _⟩
  |lst b=>obtain⟨_,_,rfl,hb⟩:=h2;simp only[eqD];exact⟨.bool_list _ hb hu,.bool_list _ hb hu,.bool_list _ hb hu⟩
  |tup b=>obtain⟨_,_,rfl,hb⟩:=h2;simp only[eqD];exact⟨.bool_tuple _ hb hu,.bool_tuple _ hb hu,.bool_tuple _ hb hu⟩
 |str a=>
  obtain⟨_,rfl⟩:=h1;cases e with
  |int b=>obtain⟨_,rfl⟩:=h2;simp only[eqD];exact⟨.str_int _ _ _ _,.str_int _ _ _ _,.str_int _ _ _ _⟩
  |bl b=>cases h2;simp only[eqD];exact⟨.str_bool _ _ _,.str_bool _ _ _,.str_bool _ _ _⟩
  |str b=>obtain⟨_,rfl⟩:=h2;simp only[eqD];exact⟨.str_str _ _ _ _,.str_str _ _ _ _,.str_str _ _ _ _⟩
  |non=>cases h2;simp only[eqD];exact⟨.str_none _ _,.str_none _ _,.str_none _ _⟩
  |lst b=>obtain⟨_,_,rfl,hb⟩:=h2;simp only[eqD];exact⟨.str_list _ _ hb hu,.str_list _ _ hb hu,.str_list _ _ hb hu⟩
  |tup b=>obtain⟨_,_,rfl,hb⟩:=h2;simp only[eqD];exact⟨.str_tuple _ _ hb hu,.str_tuple _ _ hb hu,.str_tuple _ _ hb hu⟩
 |non=>
  cases h1;cases e with
  |int b=>obtain⟨_,rfl⟩:=h2;simp only[eqD];exact⟨.none_int _ _,.none_int _ _,.none_int _ _⟩
  |bl b=>cases h2;simp only[eqD];exact⟨.none_bool _,.none_bool _,.none_bool _⟩
  |str b=>obtain⟨_,rfl⟩:=h2;simp only[eqD];exact⟨.none_str _ _,.none_str _ _,.none_str _ _⟩
  |non=>cases h2;simp only[eqD];exact⟨.none_none,.none_none,.same _⟩
  |lst b=>obtain⟨_,_,rfl,hb⟩:=h2;simp only[eqD];exact⟨.none_list hb hu,.none_list hb hu,.none_list hb hu⟩
  |tup b=>obtain⟨_,_,rfl,hb⟩:=h2;simp only[eqD];exact⟨.none_tuple hb hu,.none_tuple hb hu,.none_tuple hb hu⟩
 |lst a=>
  obtain⟨_,_,rfl,hl⟩:=h1;cases e with
  |int b=>obtain⟨_,rfl⟩:=h2;simp only[eqD];exact⟨.list_int _ _ hl hu,.list_int _ _ hl hu,.list_int _ _ hl hu⟩
  |bl b=>cases h2;simp only[eqD];exact⟨.list_bool _ hl hu,.list_bool _ hl hu,.list_bool _ hl hu⟩
  |str b=>obtain⟨_,rfl⟩:=h2;simp only[eqD];exact⟨.list_str _ _ hl hu,.list_str _ _ hl hu,.list_str _ _ hl hu⟩
  |non=>cases h2;simp only[eqD];exact⟨.list_none hl hu,.list_none hl hu,.list_none hl hu⟩
  |lst b=>simp[knd]at n
  |tup b=>obtain⟨_,_,rfl,hb⟩:=h2;simp only[eqD];exact⟨.list_tuple hl hb hu,.list_tuple hl hb hu,.list_tuple hl hb hu⟩
 |tup a=>
  obtain⟨_,_,rfl,hl⟩:=h1;cases e with
  |int b=>obtain⟨_,rfl⟩:=h2;simp only[eqD];exact⟨.tuple_int _ _ hl hu,.tuple_int _ _ hl hu,.tuple_int _ _ hl hu⟩
  |bl b=>cases h2;simp only[eqD];exact⟨.tuple_bool _ hl hu,.tuple_bool _ hl hu,.tuple_bool _ hl hu⟩
  |str b=>obtain⟨_,rfl⟩:=h2;simp only[eqD];exact⟨.tuple_str _ _ hl hu,.tuple_str _ _ hl hu,.tuple_str _ _ hl hu⟩
  |non=>cases h2;simp only[eqD];exact⟨.tuple_none hl hu,.tuple_none hl hu,.tuple_none hl hu⟩
  |lst b=>obtain⟨_,_,rfl,hb⟩:=h2;simp only[eqD];exact⟨.tuple_list hl hb hu,.tuple_list hl hb hu,.tuple_list hl hb hu⟩
  |tup b=>simp[knd]at n
theorem tF(I:Inv X ac σ H s):∀(n:Nat) (A:OP) (d e:Dt) (x y:V) (u v:Oy),dpt d<=n->A.units+n<cLine->Has X.K H d x->Has X.K H e y->RelV x u->RelV y v->
  UX A s u v (eqD d e)/\VR A s u v (!eqD d e)/\QW A s u v (eqD d e):=by
 intro n;induction n with
 |zero=>
  intro A d e x y u v hd hA h1 h2 r1 r2;exact yj (by lia) (yL I h1 r1) (yL I h2 r2) (.inr (by cases d <;> first|rfl|(rw[dpt]at hd;lia)))
 |succ n ih=>
  intro A d e x y u v hd hA h1 h2 r1 r2;have hu:A.units<cLine:=by lia
  by_cases k:knd d≠knd e\/knd d=0
  ·exact yj hu (yL I h1 r1) (yL I h2 r2) k
  cases d <;> cases e <;> try (exfalso;simp[knd]at k;done)
  ·rename_i a b;have h1k:=h1;rw[Has]at h1;obtain⟨p,xs,rfl,s1,l1⟩:=h1;cases (show u=OT p from r1);obtain⟨be,rv1,pl1,z1⟩:=I.list s1;have hl:=pl1.isList;have hd':i8 a<=n:=by rw[dpt]at hd;lia
   have h2k:=h2;rw[Has]at h2;obtain⟨q,ys,rfl,s2,l2⟩:=h2;cases (show v=OT q from r2);obtain⟨jts,rv2,pl2,z2⟩:=I.list s2;have hb:=pl2.isList;have recc:=uU n (A:=A) (by lia) I l1 l2 rv1 rv2 fun d e x y u v hm hm' g1 g2 k1 k2=>(ih A.in1 d e x y u v (B' (zF hm) hd') (by show A.units+1+n<cLine;lia) g1 g2 k1 k2).2.2
   have m1:=l1.len;have m2:=l2.len;have v1:=rv1.length;have v2:=rv2.length;have self:p=q->eqD (.lst a) (.lst b)=true:=fun z=>by subst z;rw[Has.inj I h1k h2k];exact kA _
   have ee:eqD (.lst a) (.lst b)=eqL a b:=by rw[eqD]
   by_cases hs:be.toArray.size=jts.toArray.size
   ·have hs':a.length=b.length:=by simp at hs;lia
    have hn:be.toArray.size=a.length:=by simp;lia
    have k1:=W0 hl hb hs hu recc;have k2:=WQ hl hb hs hu recc;rw[hn,nI a b hs',<-ee]at k1 k2;exact⟨k1,k2,pZ k1 self⟩
   have hs':¬a.length=b.length:=by simp at hs;lia
   have hz:(be.toArray.size != jts.toArray.size)=true:=by simpa using hs
   have ef:eqD (.lst a) (.lst b)=false:=by rw[ee];exact LV.mpr fun z=>hs' (su z)
   have k1:=VS hl hb hz hu;have k2:=Vy hl hb hz hu;rw[<-ef]at k1;refine⟨k1,?_,pZ k1 self⟩;rw[ef];exact k2
  rename_i a b;have h1k:=h1;rw[Has]at h1;obtain⟨p,xs,rfl,s1,l1⟩:=h1;cases (show u=OT p from r1);obtain⟨be,rv1,pl1,z1⟩:=I.tuple s1;have hl:s.heap.IsTuple p be.toArray:=pl1;have hd':i8 a<=n:=by rw[dpt]at hd;lia
  have h2k:=h2;rw[Has]at h2;obtain⟨q,ys,rfl,s2,l2⟩:=h2;cases (show v=OT q from r2);obtain⟨jts,rv2,pl2,z2⟩:=I.tuple s2;have hb:s.heap.IsTuple q jts.toArray:=pl2;have recc:=uU n (A:=A) (by lia) I l1 l2 rv1 rv2 fun d e x y u v hm hm' g1 g2 k1 k2=>(ih A.in1 d e x y u v (B' (zF hm) hd') (by show A.units+1+n<cLine;lia) g1 g2 k1 k2).2.2
  have m1:=l1.len;have m2:=l2.len;have v1:=rv1.length;have v2:=rv2.length;have self:p=q->eqD (.tup a) (.tup b)=true:=fun z=>by subst z;rw[Has.inj I h1k h2k];exact kA _
  have ee:eqD (.tup a) (.tup b)=eqL a b:=by rw[eqD]
  have hn:be.toArray.size=a.length:=by simp;lia
  have hn':jts.toArray.size=b.length:=by simp;lia
  have k1:=WT hl hb hu recc;have k2:=WH hl hb hu recc;rw[hn,hn',uQ a b,<-ee]at k1 k2;exact⟨k1,k2,pZ k1 self⟩
end
section
variable{X:Cx}
def Je(K:OA)(A:OP)(neg:Bool):R2:=fun x y H Q=>∃d e,Has K H d x/\Has K H e y/\A.units+dpt d<cLine/\Q (.bl (if neg then !eqD d e else eqD d e)) H
theorem BC:OpR X (OX .Eq) (Je X.K X.A false):=by intro ac s σ H x y v u Q I rx ry h;obtain⟨d,e,h1,h2,hA,q⟩:=h;exact(tF I (dpt d) X.A d e x y v u (b_ _) hA h1 h2 rx ry).1 _ _ _ _ ⟨.bl (eqD d e),H,I,rfl,q⟩
theorem GY:OpR X (OX .NotEq) (Je X.K X.A true):=by intro ac s σ H x y v u Q I rx ry h;obtain⟨d,e,h1,h2,hA,q⟩:=h;exact(tF I (dpt d) X.A d e x y v u (b_ _) hA h1 h2 rx ry).2.1 _ _ _ _ ⟨.bl (!eqD d e),H,I,rfl,q⟩
end
structure Cal (P:OI) (w:OK) (K:OA) (mg:Str->Option Oy) (base:OM) (k:Nat) (x:Str) (ps:List Str) (sp:Sp):Prop where
 ex:∃(f:Oz) (fd:OR),FnOk P w K mg base CX0 k f fd ps sp/\mg x=some (.ref f)/\Rm K (.ref f)=true/\Binds K fd ps []
variable {ps:List Str}{sp:Sp}{x:Str}
theorem Hl{j k:Nat}{t:TA}{p:Pos}(D:Cal X.prog X.w X.K X.mg X.base j x ps sp)(hr:Room k X.A)(hg:Gl X x)(ha:PA X (e::es) t)(hjk:j<=k:=by omega)(hdb:(x ==("__debug__":Str))=false:=by decide)
  (he:OO (e::es) X.env=(false,O1 e X.env)::OO es X.env:=by rfl) (hpl:(QF pos (OO es X.env)).any (·.1)=false:=by rfl):PE X (.Call (.Name x p) (e::es) [] pos) (CZ sp [] E0 t):=by
 obtain⟨f,fd,F,hm,hk,hb⟩:=D.ex;exact F4 F (hr.mono hjk) hg hm hk hb .nil IL ha hdb he hpl
variable {mg:Str->Option Oy}
theorem Cal.imp {base:OM}{k:Nat}{sp':Sp}(D:Cal P w K mg base k x ps sp)(h:∀vs H Q E,sp' vs H Q E->sp vs H Q E):Cal P w K mg base k x ps sp':=by obtain⟨f,fd,F,r⟩:=D.ex;exact⟨f,fd,F.imp h,r⟩
structure Dfn (K:OA) (mg:Str->Option Oy) (x:Str) (st:OY) (ps:List Str):Prop where
 ex:∃(f:Oz) (fd:OR),Fun K x x st f fd/\mg x=some (.ref f)/\Binds K fd ps []
theorem Dfn.cal {base:OM}{k:Nat}{st:OY}(D:Dfn K mg x st ps)(h:∀f fd,Fun K x x st f fd->FnOk P w K mg base CX0 k f fd ps sp):Cal P w K mg base k x ps sp:=by obtain⟨f,fd,F,hm,hb⟩:=D.ex;exact⟨f,fd,h f fd F,hm,F.kp,hb⟩
theorem dm.gy :dm H H:=fun _ _ e=>e
variable {H1:Hp}
theorem dm.trans' {H2:Hp}(a:dm H H1)(b:dm H1 H2):dm H H2:=fun c o e=>b c o (a c o e)
theorem cJ(h:H p=none)(o:HO):dm H (upd H p o):=fun b u q=>by rw[aG (cI q h)];exact q
theorem dm.none {H H':Hp}(a:dm H H'){p:Oz}(h:H' p=none):H p=none:=by
 cases e:H p with
 |none=>rfl
 |some o=>rw[a p o e]at h;cases h
noncomputable def Kp(a c:Oz)(H H':Hp):Prop:=∀b o,H b=some o->b≠a->b≠c->H' b=some o
variable {n:Nat}
theorem yx{i:Int}(h0:0<=i)(h1:i<(n:Int)):ixN n i=some i.toNat:=by unfold ixN;rw[if_pos h0,if_pos h1]
theorem Fb{α:Type}{xs:List α}{i:Int}{v:α}(h0:0<=i)(hv:xs[i.toNat]?=some v):atI xs i=some v:=by have h1:i.toNat<xs.length:=(f_.mp hv).1;unfold atI;rw[yx h0 (by omega)];exact hv
theorem Cp{i:Int}(h0:0<=i)(h1:i<(ns.length:Int)):atI (ns.map V.int) i=some (.int (ns.getD i.toNat 0)):=by
 have h2:i.toNat<ns.length:=by omega
 refine Fb h0 ?_;rw[p_,e_ h2,E_,e_ h2]
 rfl
theorem HZ{i:Int}{v:V}{Q:VK}(h:SqG b K H p xs)(hv:atI xs i=some v)(q:Q v H):rIx K (.ref p) (.int i) H Q:=by
 cases b with
 |true=>exact .inr (.inl ⟨p,xs,i,v,rfl,rfl,h,hv,q⟩)
 |false=>exact .inl ⟨p,xs,i,v,rfl,rfl,h,hv,q⟩
theorem Io{A B:Prop}(h1:b=true->A)(h2:b=false->B):if b=true then A else B:=by
 cases b with
 |true=>exact Kx (h1 rfl)
 |false=>exact KD (h2 rfl)
theorem BJ(S:FnScope N ps esc)(N':List Str)(fr:List (Option Nat))(nd:N'.Nodup)(C:kG N esc sc N' fr=true)
  (hi:PI X target iter wi) (hg:∀s3 H3 fp,PG (bf X N' sc s3 H3 fp) target (g s3 H3 fp)) (ht:∀s3 H3 fp,PTs (bf X N' sc s3 H3 fp) ifs (tt s3 H3 fp)) (he:∀s3 H3 fp,PE (bf X N' sc s3 H3 fp) elt (te s3 H3 fp))
  (hc:X.calm=true:=by rfl) (hN:X.N=N:=by rfl) (hS:X.env.scope=esc:=by rfl) (hs:∀x,Pw iter X.env x=pure x:=by intro _;rfl):PE X (.ListComp elt [⟨target,iter,ifs,0⟩] sc pos) (zD wi fr g tt te):=
 Eb N' fr hc (by rw[hN,hS];exact C) hi hg ht he hs
def Its(K:OA)(b:Bool)(a:Oz):It:=match b with
 |true=>Itt K a
 |false=>Itl K a
def iSq(K:OA)(tl:TE):TI:=fun σ H R=>tl σ H fun x H1=>∃b a xs,x=.ref a/\SqG b K H1 a xs/\R (Its K b a) H1
theorem I0{tg l:OL}{tl:TE}(hl:PE X l tl):PI X tg l (iSq X.K tl):=by
 intro ac s σ H R I h;refine thn (hl ac s σ H _ I h) ?_;rintro v s1 ⟨x,H1,I1,r1,q1⟩;obtain⟨b,a,xs,rfl,hq,q⟩:=q1;cases r1;cases b with
 |true=>
  obtain⟨be,rv,p,hz⟩:=I1.tuple hq;refine Pp (show s1.heap.IsTuple a be.toArray from p) ⟨s1.heap.objs.size,[s1.heap.objs.size],_,_,H1,rfl,I1.kept (t':=s1.toks) fun b o e=>OD _ e,xu a _,⟨_,OF _ rfl,rfl,rfl⟩,fun b hb=>?_,q⟩;have e:b=s1.heap.objs.size:=by simpa using hb
  subst e;exact I1.tH (b_ _) (I1.hok.fresh (b_ _))
 |false=>
  obtain⟨be,rv,p,hz⟩:=I1.list hq;refine PY p.isList ⟨s1.heap.objs.size,[s1.heap.objs.size],_,_,H1,rfl,I1.kept (t':=s1.toks) fun b o e=>OD _ e,A4 a _,⟨_,OF _ rfl,rfl,rfl⟩,fun b hb=>?_,q⟩;have e:b=s1.heap.objs.size:=by simpa using hb
  subst e;exact I1.tH (b_ _) (I1.hok.fresh (b_ _))
theorem DN{H2:Hp}{v:V}(h1:SqG b K H1 a xs)(s:dm H1 H')(h:(Its K b a).yld i H' v H2):H2=H'/\xs[i]?=some v:=by
 cases b with
 |true=>exact⟨h.1,h.2 xs (SqG.same s h1)⟩
 |false=>exact⟨h.1,h.2 xs (SqG.same s h1)⟩
theorem GQ(h1:SqG b K H1 a xs)(hx:xs.length=n):∀i H',dm H1 H'->i<n->(Its K b a).go i H':=fun i H' s hi=>by
 cases b with
 |true=>exact⟨xs,xs[i]'(by lia),SqT.same s h1,e_ _⟩
 |false=>exact⟨xs,xs[i]'(by lia),SqL.same s h1,e_ _⟩
theorem BW(h1:SqG b K H1 a xs)(hx:xs.length=n):∀H',dm H1 H'->(Its K b a).stop n H':=fun H' s=>by
 cases b with
 |true=>exact⟨xs,SqT.same s h1,by lia⟩
 |false=>exact⟨xs,SqL.same s h1,by lia⟩
def New(o:HO)(H:Hp)(Q:VK):Prop:=∀p H',H p=none->dm H H'->H' p=some o->Q (.ref p) H'
theorem New.at {o:HO}{Q:VK}(h:New o H Q)(hp:H p=none):Q (.ref p) (upd H p o):=h p _ hp (cJ hp o) aO
section
variable{X:Cx}{es:List OL}{t:TA}{pos:Pos}
def Jw(t:TA):TE:=fun σ H Q=>t σ H fun xs H1=>xs.length<=sizeLine/\New (.tup xs) H1 Q
def IK(t:TA):TE:=fun σ H Q=>t σ H fun xs H1=>xs.length<=sizeLine/\New (.lst xs) H1 Q
theorem E9{x1}(h:PA X es t):PE X (.Tuple es x1 pos) (Jw t):=by intro ac s σ H Q I hq;refine wpAny_Tuple_spliced (thn (h pos ac s σ H _ I hq) fun us s1 ⟨xs,H1,I1,r,z,q⟩=>⟨by rw[<-r.length];exact z,?_⟩);refine⟨.ref s1.heap.objs.size,upd H1 s1.heap.objs.size (.tup xs),I1.laid (t':=s1.toks) (fun b u e=>OD _ e) (b_ _) ⟨z,us,r,⟨_,OF _ rfl,rfl,_,rfl⟩⟩,rfl,q.at (I1.hok.fresh (b_ _))⟩
theorem Ei(h:PA X es t):PE X (.List es pos) (IK t):=by intro ac s σ H Q I hq;refine T1 (thn (h pos ac s σ H _ I hq) fun us s1 ⟨xs,H1,I1,r,z,q⟩=>⟨by rw[<-r.length];exact z,?_⟩);refine⟨.ref s1.heap.objs.size,upd H1 s1.heap.objs.size (.lst xs),I1.laid (t':=s1.toks) (fun b u e=>OD _ e) (b_ _) ⟨z,us,0,r,OF _ rfl⟩,rfl,q.at (I1.hok.fresh (b_ _))⟩
theorem cH.imp {f:Oy}{r r':List V->Hp->VK->Prop}(h:cH X f r)(k:∀vs H Q,r' vs H Q->r vs H Q):cH X f r':=fun ac s σ H xs us Q I rv q=>h ac s σ H xs us Q I rv (k _ _ _ q)
theorem OpR.imp {f:Oy->Oy->Sem Oy}{r r':R2}(h:OpR X f r)(k:∀x y H Q,r' x y H Q->r x y H Q):OpR X f r':=fun ac s σ H x y v u Q I rx ry q=>h ac s σ H x y v u Q I rx ry (k _ _ _ _ q)
theorem vU:cH X (.type "list") (fun xs H Q=>∃b p ys,xs=[.ref p]/\SqG b X.K H p ys/\New (.lst ys) H Q):=mh.imp fun vs H Q ⟨b,p,ys,e,h,q⟩=>by
 refine⟨p,ys,e,?_,fun l hl=>q.at hl⟩;cases b with
 |true=>exact .inr h
 |false=>exact .inl h
theorem uu:cH X (.type "tuple") (fun xs H Q=>∃p ys,xs=[.ref p]/\SqL X.K H p ys/\New (.tup ys) H Q):=qz.imp (by rintro vs H Q ⟨p,ys,e,h,q⟩;exact⟨p,ys,e,.inl ⟨h,fun l hl=>q.at hl⟩⟩)
theorem AO:cH X (.builtin "len") (fun xs H Q=>∃b p ys,xs=[.ref p]/\SqG b X.K H p ys/\Q (.int ys.length) H):=lW.imp fun vs H Q ⟨b,p,ys,e,h,q⟩=>by
 refine⟨p,ys,e,?_,q⟩;cases b with
 |true=>exact .inr h
 |false=>exact .inl h
def K9(K:OA):R2:=fun x y H Q=>∃b p xs i v,x=.ref p/\y=.int i/\SqG b K H p xs/\atI xs i=some v/\Q v H
theorem Ku:IxR X (K9 X.K):=by rintro value slice ac s σ H x y v u Q I rx ry ⟨b,p,xs,i,z,e1,e2,hq,ha,q⟩ hs;subst e1 e2;exact HC value slice ac s σ H (.ref p) (.int i) v u Q I rx ry (HZ hq ha q) hs
end
noncomputable def iD(ns:List Int)(r:Int):Prop:=r∈ns/\∀x∈ns,r<=x
noncomputable def iC(ns:List Int)(r:Int):Prop:=r∈ns/\∀x∈ns,x<=r
theorem iK:∀{ns:List Int}{us:List Oy},Vals (ns.map V.int) us->∃ps:List (Int×Tok),us=ps.map (fun p=>QT p.1 p.2)/\ps.map (·.1)=ns
 | [],_,.nil=>⟨[],rfl,rfl⟩
 |n::r,_,.cons h t=>by obtain⟨ps,e1,e2⟩:=iK t;obtain⟨tk,e⟩:=h;exact⟨(n,tk)::ps,by rw[e,e1];rfl,by rw[<-e2];rfl⟩
theorem ir{ps:List (Int×Tok)}(e:ps.map (·.1)=ns)(hi:i<ns.length):QX ps.toArray i=ns[i]:=by
 subst e;have h2:i<ps.length:=by simpa using hi
 simp[QX,h2]
section
variable{X:Cx}
theorem AE(hc:X.calm=true):cH X (.builtin "min") (fun xs H Q=>∃a ns,xs=[.ref a]/\SqL X.K H a (ns.map V.int)/\ns≠[]/\∀r,iD ns r->Q (.int r) H):=by
 intro ac s σ H xs us Q I r h;obtain⟨a,ns,rfl,hq,kw,q⟩:=h;obtain⟨u,rfl,ru⟩:=vals1 r;cases ru;obtain⟨be,rv,p,z⟩:=I.list hq;obtain⟨ps,e1,e2⟩:=iK rv;subst e1;have hl:s.heap.IsList a (Ph ps.toArray):=by
  have e:Ph ps.toArray=(ps.map fun p=>QT p.1 p.2).toArray:=by simp[Ph]
  rw[e];exact p.isList
 have hlen:ps.length=ns.length:=by rw[<-e2];simp
 have hpos:0<ns.length:=Ln fun z=>kw (J_ z);refine min_intList (I.ok.hd hc) hl (by simp;lia) fun v h' tk hv hk=>?_
 obtain⟨tv,rfl⟩:=Rw hv;obtain⟨b1,b2⟩:=argBest_lt (QX ps.toArray) (ps.toArray.size-1);have hi:Vj (fun i j=>decide (QX ps.toArray i<QX ps.toArray j)) (ps.toArray.size-1)<ns.length:=by simp at b1 ⊢;lia
 refine⟨.int _,H,I.kept (t':=tk) hk,⟨tv,rfl⟩,q _ ⟨?_,fun x hx=>?_⟩⟩
 ·rw[ir e2 hi];exact KY hi
 obtain⟨j,hj,rfl⟩:=Lc.mp hx;have:=b2 j (by simp;lia);rw[ir e2 hj]at this;exact this
theorem A6(hc:X.calm=true):cH X (.builtin "max") (fun xs H Q=>∃a ns,xs=[.ref a]/\SqL X.K H a (ns.map V.int)/\ns≠[]/\∀r,iC ns r->Q (.int r) H):=by
 intro ac s σ H xs us Q I r h;obtain⟨a,ns,rfl,hq,kw,q⟩:=h;obtain⟨u,rfl,ru⟩:=vals1 r;cases ru;obtain⟨be,rv,p,z⟩:=I.list hq;obtain⟨ps,e1,e2⟩:=iK rv;subst e1;have hl:s.heap.IsList a (Ph ps.toArray):=by
  have e:Ph ps.toArray=(ps.map fun p=>QT p.1 p.2).toArray:=by simp[Ph]
  rw[e];exact p.isList
 have hlen:ps.length=ns.length:=by rw[<-e2];simp
 have hpos:0<ns.length:=Ln fun z=>kw (J_ z);refine max_intList (I.ok.hd hc) hl (by simp;lia) fun v h' tk hv hk=>?_
 obtain⟨tv,rfl⟩:=Rw hv;obtain⟨b1,b2⟩:=argBest_gt (QX ps.toArray) (ps.toArray.size-1);have hi:Vj (fun i j=>decide (QX ps.toArray i > QX ps.toArray j)) (ps.toArray.size-1)<ns.length:=by simp at b1 ⊢;lia
 refine⟨.int _,H,I.kept (t':=tk) hk,⟨tv,rfl⟩,q _ ⟨?_,fun x hx=>?_⟩⟩
 ·rw[ir e2 hi];exact KY hi
 obtain⟨j,hj,rfl⟩:=Lc.mp hx;have:=b2 j (by simp;lia);rw[ir e2 hj]at this;exact this
theorem AD(hc:X.calm=true):cH X (.builtin "max") (fun xs H Q=>∃i j k,xs=[.int i,.int j,.int k]/\∀r,i<=r->j<=r->k<=r->(r=i\/r=j\/r=k)->Q (.int r) H):=by
 intro ac s σ H xs us Q I r h;obtain⟨i,j,k,rfl,q⟩:=h;cases r with
 |cons r1 rr=>
  cases rr with
  |cons r2 rr=>
   cases rr with
   |cons r3 rr=>
    cases rr;obtain⟨t1,rfl⟩:=r1;obtain⟨t2,rfl⟩:=r2;obtain⟨t3,rfl⟩:=r3;refine max_three_ints (I.ok.hd hc) fun h' tk hk=>?_;have fin:∀(r:Int) (t:Tok),i<=r->j<=r->k<=r->(r=i\/r=j\/r=k)->EP X ac σ Q (.int r t) {s with heap:=h',toks:=tk}:=fun r t a b c d=>⟨.int r,H,I.kept (t':=tk) hk,⟨t,rfl⟩,q r a b c d⟩;split
    ·split
     ·exact fin _ _ (by lia) (by lia) (by lia) (by lia)
     exact fin _ _ (by lia) (by lia) (by lia) (by lia)
    split
    ·exact fin _ _ (by lia) (by lia) (by lia) (by lia)
    exact fin _ _ (by lia) (by lia) (by lia) (by lia)
theorem An(hc:X.calm=true):cH X (.builtin "min") (fun xs H Q=>∃i j k,xs=[.int i,.int j,.int k]/\∀r,r<=i->r<=j->r<=k->(r=i\/r=j\/r=k)->Q (.int r) H):=by
 intro ac s σ H xs us Q I r h;obtain⟨i,j,k,rfl,q⟩:=h;cases r with
 |cons r1 rr=>
  cases rr with
  |cons r2 rr=>
   cases rr with
   |cons r3 rr=>
    cases rr;obtain⟨t1,rfl⟩:=r1;obtain⟨t2,rfl⟩:=r2;obtain⟨t3,rfl⟩:=r3;refine min_three_ints (I.ok.hd hc) fun h' tk hk=>?_;have fin:∀(r:Int) (t:Tok),r<=i->r<=j->r<=k->(r=i\/r=j\/r=k)->EP X ac σ Q (.int r t) {s with heap:=h',toks:=tk}:=fun r t a b c d=>⟨.int r,H,I.kept (t':=tk) hk,⟨t,rfl⟩,q r a b c d⟩;split
    ·split
     ·exact fin _ _ (by lia) (by lia) (by lia) (by lia)
     exact fin _ _ (by lia) (by lia) (by lia) (by lia)
    split
    ·exact fin _ _ (by lia) (by lia) (by lia) (by lia)
    exact fin _ _ (by lia) (by lia) (by lia) (by lia)
end
section
variable{X:Cx}{a b c d:OL}{ta tb tc td:TE}{pos:Pos}
theorem BQ:SlR X (fun x lo hi H Q=>∃a xs,x=.ref a/\SqL X.K H a xs/\New (.lst (kx xs lo hi)) H Q):=by rintro ac s σ H x v vl vu lo hi sl Q I rx hs pl pu ⟨a,xs,e,h,q⟩;exact yS ac s σ H x v vl vu lo hi sl Q I rx hs pl pu ⟨a,xs,e,h,fun p hp=>q.at hp⟩
theorem xP:SlR X (fun x lo hi H Q=>∃a xs,x=.ref a/\SqT X.K H a xs/\¬(HT.sIx xs.length 0 lo=0/\HT.sIx xs.length xs.length hi=xs.length)/\New (.tup (kx xs lo hi)) H Q):=by rintro ac s σ H x v vl vu lo hi sl Q I rx hs pl pu ⟨a,xs,e,h,hw,q⟩;exact GC ac s σ H x v vl vu lo hi sl Q I rx hs pl pu ⟨a,xs,e,h,hw,fun p hp=>q.at hp⟩
end
structure Put (H:Hp) (p:Oz) (o:HO) (H':Hp):Prop where
 at_:H' p=some o
 else_:∀b,b≠p->H' b=H b
theorem Put.up {o:HO}:Put H p o (upd H p o):=⟨aO,fun b h=>aG h⟩
section
variable{X:Cx}
theorem wZ.imp {t t':Fj}(h:wZ X t)(k:∀o i v H Q,t' o i v H Q->t o i v H Q):wZ X t':=fun ac s σ H o i v ov iv u Q I r1 r2 r3 q=>h ac s σ H o i v ov iv u Q I r1 r2 r3 (k _ _ _ _ _ q)
theorem Aq:wZ X (fun o i v H Q=>∃p xs k j,o=.ref p/\i=.int k/\H p=some (.lst xs)/\ixN xs.length k=some j/\∀H',Put H p (.lst (xs.set j v)) H'->Q H'):=set_list.imp (by rintro o i v H Q ⟨p,xs,k,j,e1,e2,h,hj,q⟩;exact⟨p,xs,k,j,e1,e2,h,hj,q _ Put.up⟩)
end
section
variable{M:Rk}{A:OP}{E:Oy->OB->Prop}{s:OB}{env:Env}
theorem mD{g:R'}{u:Oy->Sem Unit}
  (hcl:clausesOf e=g::gs) (hs:∀x,Pw g.iter env x=pure x)
  (hc:∀x∈scope.names,x.2≠.cell) (hfr:∀x∈scope.names,x.2=.free->∃c,env.cells.lookup x.1=some c) (hkind:scope.kind=.function) (hnames:∀x∈scope.names,x.2=.local->scope.names.lookup x.1=some .local)
  (h:OE M A first (fun x s₁=>OE M A (RJ x) (fun it s₂=>OE M A newAcc (fun acc s₃=>
   ∀h4,h4.Ns s₃.heap.objs.size (fun _=>none)->(∀b o,s₃.heap.get? b=some o->h4.get? b=some o)->
    Qx M A (.compStart e 0 it acc (L2.compEnv env scope s₃.heap.objs.size)) (fun r s'=>match r with
     | .ok _=>OE M A (u acc) (fun _ s''=>∃m,s''.heap.Ns s₃.heap.objs.size m/\∀h',Pe s₃.heap.objs.size s''.heap h'->Q .none {s'' with heap:=h'}) E s'
     | .error x=>False) { s₃ with heap:=h4}) E s₂) E s₁) E s) :
  OE M A (RA e scope env pos newAcc false first (some u)) Q E s:=by
 unfold RA;rw[pK hfr,hcl];refine Ox (O4 h (fun x s₁ h₁=>Ox (QO (Ox (Q4 (hs x) (Ox (OS (O4 h₁ (fun it s₂ h₂=>
  Vx (Ox (O4 h₂ (fun acc s₃ h₃=>Ox (OC (Ox ?_))) fun _ _ h'=>h'))) fun _ _ h'=>h'))))))) fun _ _ h'=>h')
 refine Tt hc (fun x hx=>nomatch hx) (fun h4 hn4 hs4=>?_) hkind;have h₄:=h₃ h4 hn4 fun b o e=>hs4.extBut b o (j' (OG e)) (OD _ e);dsimp only;have hv:∀x∈(scope.names.filter fun x=>(x.2 == .local || x.2 == .cell)&&x.1 !=(".0":Str)).reverse,x.2=.local->
   UW (L2.compEnv env scope s₃.heap.objs.size) x.1=some .local:=fun x hx hl=>by
  show(qo env scope).names.lookup x.1=some .local;rw[mR,hnames x (La.mp (L_.mp hx)).1 hl]
  rfl
 have hv':∀x∈(scope.names.filter fun x=>(x.2 == .local || x.2 == .cell)&&x.1 !=(".0":Str)).reverse.drop 1++(scope.names.filter fun x=>(x.2 == .local || x.2 == .cell)&&x.1 !=(".0":Str)).reverse.take 1,
   x.2=.local->UW (L2.compEnv env scope s₃.heap.objs.size) x.1=some .local:=fun x hx hl=>
  (F_.mp hx).elim (fun z=>hv x (Np z) hl) fun z=>hv x (Nq z) hl
 refine OS (Ox (P7 (OS (wpAny_run (Qm h₄ fun r s' hr=>?_)))));cases r with
 |ok f=>
  refine Ox (PQ (Ox (OS (O4 hr (fun _ s'' hr'=>?_) fun _ _ h'=>h'))));obtain⟨m,hn,hr'⟩:=hr';exact Ox (UC (cenv:=L2.compEnv env scope s₃.heap.objs.size) hkind _ s'' m hv' hn fun h' m' _ hs'=>OC (hr' h' hs'))
 |error x=>exact hr.elim
end
theorem y6(S:FnScope N ps esc){pos':Pos}(N':List Str)(fr:List (Option Nat))(nd:N'.Nodup){lw:Pos}(C:kG N esc sc N' fr=true)
  (hi:X.N[i]?=some x) (hx:Loc X.env.scope x) (hit:PI X target iter wi) (hg:∀s3 H3 fp,PG (bf X N' sc s3 H3 fp) target (g s3 H3 fp)) (ht:∀s3 H3 fp,PTs (bf X N' sc s3 H3 fp) ifs (tt s3 H3 fp)) (he:∀s3 H3 fp,PE (bf X N' sc s3 H3 fp) elt (te s3 H3 fp))
  (hsw:Ra (.ListComp elt [⟨target,iter,ifs,0⟩] sc lw) (some (.Name x pos')) pos.line X.env=pure true) (hf:X.fn x=true:=by rfl)
  (hc:X.calm=true:=by rfl) (hN:X.N=N:=by rfl) (hS:X.env.scope=esc:=by rfl) (hs:∀x,Pw iter X.env x=pure x:=by intro _;rfl):PS X (.Assign [.Name x pos'] (.ListComp elt [⟨target,iter,ifs,0⟩] sc lw) pos) (F8 (zD wi fr g tt te) (zJ i)):=by
 have C:CompOk X.N X.env.scope sc N' fr:=rL (by rw[hN,hS];exact C);have hNd:X.N.Nodup:=by rw[hN];exact S.nd
 intro ac s σ H D I h;rw[exec_Assign_Name_used _ _ _ _ hsw];refine Ox (QO (Ox ?_));show OE _ X.A (do let _ <-RA (.ListComp elt [⟨target,iter,ifs,0⟩] sc lw) sc X.env _ (Wq []) false (O1 iter X.env) (some (Rb (.Name x pos') X.env))) _ _ s;have hfr:∀x∈sc.names,x.2=.free->∃c,X.env.cells.lookup x.1=some c:=fun x hx e=>I.ok.has x.1 (.inl (C.free x hx e));refine Ox (O4 (mD (g:=⟨target,iter,ifs,0⟩) (gs:=[]) (Q:=fun _ s'=>SP X ac D .next s') rfl hs C.nocell hfr C.kind C.names ?_) (fun _ s' hq=>OC (OC hq)) fun _ _ e=>e);refine thn (hit ac s σ H _ I h) fun v s1 h1=>thn h1 fun itv s2 h2=>?_;obtain⟨it,fp,tn,J,H2,e,I2,T,io,f2,k2⟩:=h2;subst e;refine Q0 ?_ (by show 0<=sizeLine;decide);have hfree:H2 s2.heap.objs.size=none:=I2.hok.fresh (b_ _);obtain⟨W,⟨m0,w0⟩,turn⟩:=k2 _ hfree {s2 with heap:=s2.heap.push { cls:=.type "list",data:=.seq ([]:List Oy).toArray} } (upd H2 s2.heap.objs.size (.lst [])) fp;have kp:∀b u,s2.heap.get? b=some u->(s2.heap.push { cls:=.type "list",data:=.seq ([]:List Oy).toArray}).get? b=some u:=fun b u e=>OD _ e;have I3:Inv X ac σ (upd H2 s2.heap.objs.size (.lst [])) {s2 with heap:=s2.heap.push { cls:=.type "list",data:=.seq ([]:List Oy).toArray} }:=
  I2.laid (t':=s2.toks) kp (b_ _) ⟨F' _,[],0,.nil,OF _ rfl⟩
 have obj2:=T.obj 0 s2.heap io;have fpne:∀b∈fp,b≠s2.heap.objs.size:=fun b hb=>by obtain⟨o,ho,_⟩:=obj2 b hb;exact j' (OG ho)
 have f3:∀b∈fp,mJ X ac (upd H2 s2.heap.objs.size (.lst [])) b:=fun b hb=>⟨by rw[aG (fpne b hb)];exact(f2 b hb).1,(f2 b hb).2⟩
 have jp:=T.keep 0 s2.heap _ io fun b hb o e=>kp b o e;have obj3:=T.obj 0 _ jp;intro h4 hn4 hk4;have st4:=T.keep 0 _ h4 jp fun b hb o e=>hk4 b o e;have I4:=vg (N':=N') (fr:=fr) (fp:=fp) I3 C hc f3 (fun b hb=>let ⟨o,ho,_⟩:=obj3 b hb;⟨o,ho⟩) hn4 hk4;have stat:∀{H':Hp},(∀b∈fp,H' b=none)->∀b∈fp,mJ (bf X N' sc {s2 with heap:=s2.heap.push { cls:=.type "list",data:=.seq ([]:List Oy).toArray} } (upd H2 s2.heap.objs.size (.lst [])) fp) [] H' b:=fun hn b hb=>
  ⟨hn b hb,(I4.ok.exf b hb).1,I4.ok.exfs b hb,.inl hb,(I4.ok.exf b hb).2,fun p hp=>(nomatch hp)⟩
 have loop:Qx (OJ X.prog X.w) X.A (.compLoop (.ListComp elt [⟨target,iter,ifs,0⟩] sc lw) 0 (.ref it) (.ref s2.heap.objs.size) (L2.compEnv X.env sc (s2.heap.push { cls:=.type "list",data:=.seq ([]:List Oy).toArray}).objs.size))
   (fun r s'=>match r with
    | .ok _=>OE (OJ X.prog X.w) X.A (Rb (.Name x pos') X.env (.ref s2.heap.objs.size)) (fun _ s''=>∃m,s''.heap.Ns (s2.heap.push { cls:=.type "list",data:=.seq ([]:List Oy).toArray}).objs.size m/\∀h',Pe (s2.heap.push { cls:=.type "list",data:=.seq ([]:List Oy).toArray}).objs.size s''.heap h'->SP X ac D .next {s'' with heap:=h'}) X.xe s'
    | .error x=>False) {s2 with heap:=h4}:=by
  refine ox (fun n s'=>∃i f8 H',Inv (bf X N' sc {s2 with heap:=s2.heap.push { cls:=.type "list",data:=.seq ([]:List Oy).toArray} } (upd H2 s2.heap.objs.size (.lst [])) fp) [] f8 H' s'/\tn i s'.heap/\(∀b∈fp,H' b=none)/\W i n f8 H') ?_ m0
   ⟨0,_,_,I4,st4,fun b hb=>(f3 b hb).1,w0⟩
  rintro n s5 ⟨j,σ5,H5,I5,st5,fr5,w5⟩;rcases turn j n σ5 H5 w5 with⟨stop,q⟩|⟨go,step⟩
  ·refine thn (T.done (bf X N' sc _ _ fp) rfl rfl rfl rfl j [] s5 σ5 H5 (fun _ _=>False) I5 (stat fr5) st5 stop) ?_;rintro r s6 ⟨hr,I6⟩;subst hr;obtain⟨m6,hn6,_⟩:=id I6.loc;have hL:H5 (s2.heap.push { cls:=.type "list",data:=.seq ([]:List Oy).toArray}).objs.size=none:=I6.free;have I7:Inv X ac σ H5 s6:=I3.FT (s':=s6) (ch:=fp) I6.os I6.base I6.hok I6.bare (fun b hb=>by obtain⟨_,g1,g2,g3,g4,g5⟩:=f3 b hb;exact⟨g3,g1,g4,g5⟩)
   have Lne:(s2.heap.push { cls:=.type "list",data:=.seq ([]:List Oy).toArray}).objs.size≠X.env.locals:=LD I3.lt;have cne:∀y c,X.env.cells.lookup y=some c->c≠(s2.heap.push { cls:=.type "list",data:=.seq ([]:List Oy).toArray}).objs.size:=fun y c e=>by obtain⟨v',z⟩:=I3.cell y c e;exact j' z.lt
   refine Ua (qT (v:=.ref s2.heap.objs.size) I7 hNd hi hx rfl (fun s8 I8 ⟨a8,sb8,ha8⟩=>?_) (.inl hf));refine⟨m6,hn6.sameBut sb8 (fun z=>ha8.elim (fun w'=>Lne (z.trans w')) fun w'=>cne _ _ w' z.symm),fun h' hs'=>⟨_,H5,?_,q⟩⟩;refine I8.turned (it:=(s2.heap.push { cls:=.type "list",data:=.seq ([]:List Oy).toArray}).objs.size) (t':=s8.toks) (fun b o hb e=>(hs'.2 b hb).trans e) hL Lne (.inr I3.sz) cne fun p hp z=>?_;have lt:=OG (I3.pin p hp).1;rw[z]at lt;exact Lf _ lt
  refine thn (T.item (bf X N' sc _ _ fp) rfl rfl rfl rfl j [] s5 σ5 H5 (fun _ _=>False) I5 (stat fr5) st5 go) ?_;rintro r s6 ⟨u,hr,h6⟩;subst hr;refine thn h6 ?_;rintro _ s7 ⟨y,H7,I7,r7,y7,st7,fr7⟩;have I7':=I7.pinned (stat fr7) (T.obj _ _ st7);have again:∀{σ8:St}{H8:Hp}{s8:OB},Inv (bf X N' sc {s2 with heap:=s2.heap.push { cls:=.type "list",data:=.seq ([]:List Oy).toArray} } (upd H2 s2.heap.objs.size (.lst [])) fp) ([]++nh fp s7.heap) σ8 H8 s8->(∃m',m'<n/\W (j+1) m' σ8 H8)->
    ∃m,m<n/\∃i f8 H',Inv (bf X N' sc {s2 with heap:=s2.heap.push { cls:=.type "list",data:=.seq ([]:List Oy).toArray} } (upd H2 s2.heap.objs.size (.lst [])) fp) [] f8 H' s8/\tn i s8.heap/\(∀b∈fp,H' b=none)/\W i m f8 H':=fun{σ8 H8 s8} I8 ⟨m',hm,w8⟩=>by
   refine⟨m',hm,j+1,σ8,H8,I8.kF,T.keep _ _ _ st7 fun b hb o e=>(I8.pin (b,o) (w_ _ (w_ _ (ij hb e)))).1,fun b hb=>?_,w8⟩;obtain⟨o,e,d⟩:=T.obj _ _ st7 b hb;exact(I8.pin (b,o) (w_ _ (w_ _ (ij hb e)))).2.1
  refine thn (hg _ _ fp _ s7 σ5 H7 y u _ I7' r7 (step y H7 y7)) ?_;rintro _ s8 ⟨σ8,H8,I8,q8⟩;refine thn (ht _ _ fp _ s8 σ8 H8 _ I8 q8) ?_;rintro ok s9 ⟨H9,I9,q9⟩;cases ok with
  |false=>exact again I9 q9
  |true=>
   refine thn (he _ _ fp _ s9 σ8 H9 _ I9 q9) ?_;rintro y s10 ⟨v,H10,I10,r10,ys,hys,hl,q10⟩;refine thn (nN _ s10 σ8 H10 (.ref s2.heap.objs.size) [v] (.ref s2.heap.objs.size) [y] (fun _ H'=>∃m',m'<n/\W (j+1) m' σ8 H') I10 rfl (.cons r10 .nil) ⟨_,ys,v,rfl,rfl,hys,hl,q10⟩) ?_;rintro z s11 ⟨_,H11,I11,_,q11⟩;exact again I11 q11
 refine S4 loop ?_;exact T.self X.A 0 _ _ _ st4 loop
section
variable{X:Cx}
theorem MtM.imp {id:String}{r r':V->List V->Hp->VK->Prop}(h:MtM X id r)(k:∀x xs H Q,r' x xs H Q->r x xs H Q):MtM X id r':=fun ac s σ H x xs v us Q I r1 r2 q=>h ac s σ H x xs v us Q I r1 r2 (k _ _ _ _ q)
theorem wo:MtM X "list.extend" (fun x vs H Q=>∃l b xs zs,x=.ref l/\vs=[.ref b]/\H l=some (.lst xs)/\H b=some (.lst zs)/\xs.length+zs.length<=sizeLine/\∀H',Put H l (.lst (xs++zs)) H'->Q .non H'):=AL.imp (by rintro x vs H Q ⟨l,b,xs,zs,e1,e2,h1,h2,hz,q⟩;exact⟨l,b,xs,zs,e1,e2,h1,h2,hz,q _ Put.up⟩)
theorem wQ:MtM X "list.append" (fun x vs H Q=>∃l xs y,x=.ref l/\vs=[y]/\H l=some (.lst xs)/\xs.length<sizeLine/\∀H',Put H l (.lst (xs++[y])) H'->Q .non H'):=nN.imp (by rintro x vs H Q ⟨l,xs,y,e1,e2,h1,hz,q⟩;exact⟨l,xs,y,e1,e2,h1,hz,q _ Put.up⟩)
end
end L2
namespace ZG
open PySem
theorem Dz{prog:OI}{w:OK}{A:OP}(hh:A.handled=none)(b:Bool)(it l:Oz)(kw:l≠it)(items:Array Oy) :
  Draws prog w A it [it,l] items.size (fun i v=>items[i]?=some v) (fun i h=>Dr b h it l i/\Sq b h l items) where
 live:=fun _ _ st=>let ⟨o,ho,_⟩:=st.1.some;⟨o,ho⟩
 frame:=fun _ _ _ st hk=>⟨st.1.at fun o e=>hk it (by simp) o e,st.2.at fun o e=>hk l (by simp) o e⟩
 item:=fun i s Q E hi st hQ=>by
  refine tM st.1 st.2 (v:=items[i]) (by simp[hi]) fun h' hit' hs'=>?_
  exact hQ _ h' s.toks (by simp[hi]) ⟨hit',st.2.ext hs'.extBut kw⟩ hs'
 done:=fun s Q E st hE=>Dg hh st.1 st.2 (by simp) hE
set_option maxHeartbeats 1000000 in
theorem Aa(l:Oz)(items:Array Oy)(n:Nat)(dct:Option Oz)(sl:Array (Option Oy)) :
  Meets (Pn.«enumerate.__new__» ⟨[.type "enumerate",.ref l],[]⟩) (fun _ R s=>s.heap.get? l=some { cls:=.type "tuple",dict:=dct,data:=.seq items n,slots:=sl}/\
   R (.ok (.ret (.ref (s.heap.push { cls:=.type "tuple_iterator",data:=.fields #[.ref l,.int 0 0] }).objs.size)))
    {s with heap:=(s.heap.push { cls:=.type "tuple_iterator",data:=.fields #[.ref l,.int 0 0] }).push { cls:=.type "enumerate",data:=.fields #[.none,.bool false,.ref s.heap.objs.size,Pl 0,.none,.none] } }):=
 .of_wp fun prog w A R s h=>by
  obtain⟨hp,g,d,tk,os⟩:=s;obtain⟨hl,h⟩:=h;have hsub:=sub_enumerate;have hL:Sv (Q6 ⟨hp,g,d,tk,os⟩) l items:=⟨_,hl,rfl,n,rfl⟩
  wp_walk using QJ hl
  refine wpAny_stack_any fun st=>OC ?_;split
  ·rename_i c _ _ _ _ _;cases (c == Pz "enumerate")
   ·wp_walk using QJ hl,Pp hL
    exact⟨_,rfl,h⟩
   wp_walk using QJ hl,Pp hL
   exact⟨_,rfl,h⟩
  wp_walk using QJ hl,Pp hL
  exact⟨_,rfl,h⟩
variable {Q:Oy->OB->Prop}
section
variable{prog:OI}{w:OK}{A:OP}{E:Oy->OB->Prop}{s:OB}
theorem wM{l:Oz}{items:Array Oy}(hL:s.heap.IsTuple l items)
  (h:∀h',VT h' (s.heap.objs.size+1) s.heap.objs.size 0 .none->h'.IsTupleIter s.heap.objs.size l 0->h'.objs.size=s.heap.objs.size+2->
   (∀b o,s.heap.get? b=some o->h'.get? b=some o)->Q (.ref (s.heap.objs.size+1)) {s with heap:=h'}) :
  OE (OJ prog w) A (call (.type "enumerate") [.ref l]) Q E s:=by
 obtain⟨⟨c,dct,dt,sl⟩,hl,hc,n,hd⟩:=hL;replace hc:c=.type "tuple":=hc;replace hd:dt=.seq items n:=hd;subst hc hd;refine VQ F.called_enumerate (by decide) (F.typeCall_enumerate_1 _) (F.newCall_enumerate_1 _) (fun obj=>F.args_object_init_2 obj _) F.entry_enumerate_new
  (Aa l items n dct sl) ⟨hl,?_⟩
 have hz:(s.heap.push { cls:=.type "tuple_iterator",data:=.fields #[.ref l,.int 0 0] }).objs.size=s.heap.objs.size+1:=Pc ..;show _/\_;rw[hz];have he:VT ((s.heap.push { cls:=.type "tuple_iterator",data:=.fields #[.ref l,.int 0 0] }).push
   { cls:=.type "enumerate",data:=.fields #[.none,.bool false,.ref s.heap.objs.size,Pl 0,.none,.none] }) (s.heap.objs.size+1) s.heap.objs.size 0 .none:=by
  have:=OF (s.heap.push { cls:=.type "tuple_iterator",data:=.fields #[.ref l,.int 0 0] })
   (o:={ cls:=.type "enumerate",data:=.fields #[.none,.bool false,.ref s.heap.objs.size,Pl 0,.none,.none] }) rfl
  rw[hz]at this;exact this
 refine⟨⟨_,he,rfl⟩,h _ he ⟨_,OD _ (OF _ rfl),rfl,rfl⟩ (by rw[Pc,hz]) fun b o x=>OD _ (OD _ x)⟩
theorem wk{b:Bool}{l:Oz}{items:Array Oy}(hL:Sq b s.heap l items)
  (h:∀h',VT h' (s.heap.objs.size+1) s.heap.objs.size 0 .none->Dr b h' s.heap.objs.size l 0->h'.objs.size=s.heap.objs.size+2->
   (∀b o,s.heap.get? b=some o->h'.get? b=some o)->Q (.ref (s.heap.objs.size+1)) {s with heap:=h'}) :
  OE (OJ prog w) A (call (.type "enumerate") [.ref l]) Q E s:=by
 cases b with
 |true=>exact wM hL h
 |false=>exact call_enumerate_list hL h
end
end ZG
namespace L2
open PySem PySem.Spec PyProof.Rows
def Ite(K:OA)(b:Bool)(a:Oz):It:=
  ⟨fun i H=>∃xs x,SqG b K H a xs/\xs[i]?=some x,
   fun i H v H'=>∃p x,H p=none/\v=.ref p/\H'=upd H p (.tup [.int i,x])/\∀xs,SqG b K H a xs->xs[i]?=some x,
   fun i H=>∃xs,SqG b K H a xs/\xs.length=i⟩
variable {es:List OL}
theorem zZ{P:OI}{w:OK}{K:OA}{x1:Nat}{tp:Pos}(b:Bool)(a e it:Oz)(D:e≠it) :
  Turn P w K (.Tuple es x1 tp) (Ite K b a) [e,it] e (fun i h=>(∃old,VT h e it i old)/\ZG.Dr b h it a i) where
 mem:=by simp
 obj:=fun i h st c hb=>by
  obtain⟨⟨old,he⟩,d⟩:=st;have hb:c=e\/c=it:=by simpa using hb
  rcases hb with rfl|rfl
  ·exact⟨_,he,fun v z=>by cases (show Ul _=SK v from z)⟩
  exact d.some
 keep:=fun i h h' st k=>by obtain⟨⟨old,he⟩,d⟩:=st;exact⟨⟨old,k e (by simp) _ he⟩,d.at fun o z=>k it (by simp) o z⟩
 item:=by
  intro X hP hw hK hc i ac s σ H E I hf st hg;subst hP hw hK;obtain⟨xs,x,q1,hx⟩:=hg;obtain⟨be,rv,p1,z1⟩:=I.sq q1;obtain⟨u,hu,ru⟩:=rv.get hx;obtain⟨⟨old,he⟩,d⟩:=st;have fe:=hf e (by simp);have fi:=hf it (by simp);have nai:=I.gA q1 fi;have nae:=I.gA q1 fe;have lf:i<be.toArray.size:=by have:=(f_.mp hu).1;simpa using this
  refine wpAny_pyNext_enum_itemD (ZG.Dz (A:=X.A.in1) (I.ok.hd hc) b it a nai be.toArray) he ⟨d,p1⟩ lf D (by simp[D,nae.symm]) fun y h1 tk hP hO hst hT hsz hk=>⟨_,rfl,?_⟩
  have ey:y=u:=by
   have e1:be.toArray[i]?=some u:=by simpa using hu
   rw[e1]at hP;exact(C' hP).symm
  subst ey;refine wpAny_letOwnedTupleGo_enum (s:={s with heap:=h1,toks:=tk+1}) hO fun h' he' hs'=>?_;have hfresh:H s.heap.objs.size=none:=I.hok.fresh (b_ _);have eT:s.heap.objs.size≠e:=LD (OG he);have kp:∀c o,c ∉ [e,it]->s.heap.get? c=some o->h'.get? c=some o:=fun c o hb z=>by
   have n:c≠e/\c≠it:=by simpa using hb
   exact hs'.extBut _ _ n.1 (hk c o n.1 n.2 z)
  have hT':h'.get? s.heap.objs.size=some { cls:=.type "tuple",data:=.seq #[.int i tk,y] }:=hs'.extBut _ _ eT hT;have notfp:∀c o,H c=some o->c ∉ [e,it]:=fun c o z hb=>by have:=(hf c hb).1;rw[z]at this;cases this
  have ne:∀c o,s.heap.get? c=some o->c≠s.heap.objs.size:=fun c o z=>j' (OG z);have nt:∀c o,H c=some o->c≠s.heap.objs.size:=fun c o z=>cI z hfresh;have I1:Inv X ac σ (upd H s.heap.objs.size (.tup [.int i,x])) {s with heap:=h',toks:=tk+1}:=by
   refine I.step (g':=s.gens) (d':=s.drawn) (t':=tk+1) (ch:=[e,it]) (fun c hb=>?_) (fun c o _ _ hc z _=>kp c o hc z) (fun c o _ _ hc z _=>⟨o.slots,kp c o hc z⟩)
    (fun c o _ z n=>by rw[aG (ne c o z)];exact n) (fun c o hc z=>⟨o,kp c o hc z⟩) (fun c zs z=>by rw[aG (nt c _ z)];exact z) (fun c o u z=>by rw[aG (nt c _ z)];exact z)
    (fun c ps z=>⟨#[],by rw[aG (nt c _ z),z];simp⟩) (fun m hm=>?_) (fun c o z=>?_) I.bare
   ·obtain⟨g0,g1,g2,g3,g4,g5⟩:=hf c hb;exact⟨g3,g1,g4,g5⟩
   ·obtain⟨o,es,ep,ho',r⟩:=hm;exact⟨o,es,ep,kp _ o (fun hb=>(hf _ hb).2.1 rfl) ho',r⟩
   by_cases hb:c=s.heap.objs.size
   ·subst hb;rw[aO]at z;cases z;exact⟨by show 2<=sizeLine;decide,[.int i tk,y],.cons ⟨tk,rfl⟩ (.cons ru .nil),_,hT',rfl,_,rfl⟩
   rw[aG hb]at z;refine(I.hok c o z).qk (fun c' w' hc' q=>kp c' w' ?_ q) (fun c' q=>by rw[aG (nt c' _ q)];exact q) fun c' zs q=>by rw[aG (nt c' _ q)];exact q
   rcases hc' with rfl|hc'
   ·exact notfp _ _ z
   exact notfp _ _ hc'
  refine⟨.ref s.heap.objs.size,_,I1,rfl,⟨s.heap.objs.size,x,hfresh,rfl,rfl,fun zs hq=>by rw[I.wL hq q1];exact hx⟩,?_,fun c hb=>?_⟩
  ·exact⟨⟨_,he'⟩,hst.1.ext hs'.extBut D.symm⟩
  have hb0:=(hf c hb).1;have hb':c=e\/c=it:=by simpa using hb
  have lf:∃o,s.heap.get? c=some o:=by
   rcases hb' with rfl|rfl
   ·exact⟨_,he⟩
   obtain⟨o,z,_⟩:=d.some;exact⟨o,z⟩
  obtain⟨o,z⟩:=lf;rw[aG (ne c o z)];exact hb0
 done:=by
  intro X hP hw hK hc i ac s σ H E I hf st hg;subst hP hw hK;obtain⟨xs,q1,hn⟩:=hg;obtain⟨be,rv,p1,z1⟩:=I.sq q1;obtain⟨⟨old,he⟩,d⟩:=st;have fe:=hf e (by simp);have fi:=hf it (by simp);have nai:=I.gA q1 fi;have l1:=rv.length;have en:be.toArray.size=i:=by simp;omega
  refine wpAny_pyNext_enum_endD (ZG.Dz (A:=X.A.in1) (I.ok.hd hc) b it a nai be.toArray) he (by rw[en];exact⟨d,p1⟩) fun g gk=>⟨rfl,?_⟩
  have kp:∀c o,c ∉ [e,it]->s.heap.get? c=some o->g.get? c=some o:=fun c o hb z=>by
   have n:c≠e/\c≠it:=by simpa using hb
   exact gk c o n.2 z
  have notfp:∀c o,H c=some o->c ∉ [e,it]:=fun c o z hb=>by have:=(hf c hb).1;rw[z]at this;cases this
  refine I.step (g':=s.gens) (d':=s.drawn) (t':=s.toks) (ch:=[e,it]) (fun c hb=>?_) (fun c o _ _ hc z _=>kp c o hc z) (fun c o _ _ hc z _=>⟨o.slots,kp c o hc z⟩)
   (fun c o _ z n=>n) (fun c o hc z=>⟨o,kp c o hc z⟩) (fun c zs z=>z) (fun c o u z=>z) (fun c ps z=>⟨#[],by rw[z];simp⟩) (fun m hm=>?_) (fun c o z=>?_) I.bare
  ·obtain⟨g0,g1,g2,g3,g4,g5⟩:=hf c hb;exact⟨g3,g1,g4,g5⟩
  ·obtain⟨o,es,ep,ho',r⟩:=hm;exact⟨o,es,ep,kp _ o (fun hb=>(hf _ hb).2.1 rfl) ho',r⟩
  refine(I.hok c o z).qk (fun c' w' hc' q=>kp c' w' ?_ q) (fun c' q=>q) fun c' zs q=>q;rcases hc' with rfl|hc'
  ·exact notfp _ _ z
  exact notfp _ _ hc'
 self:=fun _ _ _ _ _ st h=>by obtain⟨⟨old,he⟩,_⟩:=st;exact Ug he h
def IH(K:OA)(ta:TA):TI:=fun σ H R=>ta σ H fun vs H1=>∃b a,vs=[.ref a]/\(∃xs,SqG b K H1 a xs)/\R (Ite K b a) H1
theorem EN{X:Cx}{x1:Nat}{tp:Pos}{a:OL}{ta:TA}{p pos:Pos}(hg:Gl X "enumerate")(hm:X.mg "enumerate"=none)(ha:PA X [a] ta)(hs:OO [a] X.env=[(false,O1 a X.env)]:=by rfl) :
  PI X (.Tuple es x1 tp) (.Call (.Name "enumerate" p) [a] [] pos) (IH X.K ta):=by
 intro ac s σ H R I h;refine Wu (iO I hg hm boot_enumerate (PZ (thn (ha pos ac s σ H _ I h) fun us s1 ⟨vs,H1,I1,r1,q1⟩=>?_) hs rfl));obtain⟨b,a,e,⟨xs,q1⟩,q⟩:=q1;subst e;cases r1 with
 |cons r rr=>
  cases rr;cases r;obtain⟨be,rv,p1,z1⟩:=I1.sq q1;refine ZG.wk p1 fun g gz g1 gs gk=>Ug (s:={s1 with heap:=g}) gz ?_;have I2:Inv X ac σ H1 {s1 with heap:=g}:=I1.kept (t':=s1.toks) gk;refine⟨_,_,_,_,H1,rfl,I2,zZ b a _ s1.heap.objs.size (show(_:Nat)≠_ by omega),⟨⟨_,gz⟩,g1⟩,fun c hb=>?_,q⟩;have hb':s1.heap.objs.size<=c:=by
   have z:c=s1.heap.objs.size+1\/c=s1.heap.objs.size:=by simpa using hb
   rcases z with z|z <;> rw[z] <;>(show(_:Nat)<=_) <;> omega
  exact I1.tH hb' (I1.hok.fresh hb')
end L2
namespace ZG
open PySem
open Sem (wp)
variable {Q:Option Oy->OB->Prop}{d:Oz}{ep:Nat}{es:Array Qp}{o:Obj}
section
variable{prog:OI}{w:OK}{A:OP}{E:Oy->OB->Prop}{s:OB}
theorem FW{Q:Oy->OB->Prop}(hd:(d == O0)=false)(ho:s.heap.get? d=some o)(hc:o.ExactDict)(hdat:o.data=.dict es ep)
  (hQ:Q (.ref s.heap.objs.size) {s with heap:=s.heap.push { cls:=.type "dict_keyiterator",data:=.fields #[.ref d,.int 0 0,.int es.size 0,.int ep 0] } }):OE (OJ prog w) A (RJ (.ref d)) Q E s:=by
 have hT:s.TypeIs (.ref d) "dict":=⟨o,ho,hc.1⟩;refine Sd hT UE (O5 UE hT F.entry_dict_iter ?_ (F.args_dict_iter_1 _));unfold Pn.«dict.__iter__» VH;refine Ox (Ox (Qy hT (show OE _ _ (pure (OT d)) _ _ s from OC (show OE _ _ (RC d >>= _) _ _ s from ?_))));unfold RC;rw[if_neg (by rw[hd];exact KL)];exact Ox (OC (Ox (Pf ho hdat (Ox (Q_ ho hdat (Ox (OU (OC ⟨_,rfl,"dict_keyiterator",_,⟨_,OF _ rfl,rfl⟩,PV.lookup,by simpa[Pl]using hQ⟩))))))))
theorem FO{it:Oz}{i:Nat}{e:Qp}(hit:s.heap.IsKeyIter it d i es.size ep)(hod:s.heap.get? d=some o)(hdd:o.data=.dict es ep)(hx:es[i]?=some e)
  (hQ:∀h',h'.IsKeyIter it d (i+1) es.size ep->Pe it s.heap h'->Q (some e.key) {s with heap:=h'}):OE (OJ prog w) A (Qh (.ref it)) Q E s:=by
 obtain⟨oi,ho,hc,hd⟩:=id hit;unfold Qh;refine Ox (P7 (O' (name:=P4 "__next__") hit.typeIs PV (O5 PV hit.typeIs RP ?_ (RN _))));refine Ox (OC (Ox (Ox ?_)));refine Ox (Qg hit.typeIs (OC (Ox (RV ho hd ?_))));simp only[show RW "dict_keyiterator"=false by decide,mo,if_false];show OE _ _ (if(OT d == Pj)=true then _ else _) _ _ s;rw[if_neg (show ¬(OT d == Pj)=true from fun z=>KL z)];refine Ox (OC (Ox (Pf hod hdd ?_)));rw[if_neg (show ¬_ by simp)];refine Ox (OC (Ox (Q_ hod hdd ?_)));rw[if_neg (show ¬_ by simp)];refine OC ?_;simp only[show ¬(i:Int)<0 by lia,if_false,KS,hx];refine Ox (Ox (Qg hit.typeIs (OC (Ox (Ta hit.typeIs ?_)))));show OE _ _ (setField (.ref it) 1 (Pl ((i:Int)+1)) >>= _) _ _ s;refine Ox (PR ho hd (by simp) ?_);have hit':(s.heap.update it (Q1 (·.setIfInBounds 1 (Pl ((i:Int)+1))))).IsKeyIter it d (i+1) es.size ep:=
  ⟨_,O6 _ ho (Qa (O7 hd _)),(QQ ..).trans hc,by rw[O7 hd];simp[Pl]⟩
 exact Ox (OS (Ox (Ta (s:={s with heap:=s.heap.update it (Q1 (·.setIfInBounds 1 (Pl ((i:Int)+1)))) }) hit'.typeIs (show OE _ _ (pure e.key) _ _ _ from OC (OC ⟨_,rfl,OC (hQ _ hit' (O2 ..))⟩)))))
theorem Jm{it:Oz}{i:Nat}(hh:A.handled=none)(hit:s.heap.IsKeyIter it d i es.size ep)(hod:s.heap.get? d=some o)(hdd:o.data=.dict es ep)(hx:es[i]?=none)
  (hQ:∀h',QP it s.heap h'->Q none {s with heap:=h'}):OE (OJ prog w) A (Qh (.ref it)) Q E s:=by
 obtain⟨oi,ho,hc,hd⟩:=id hit;unfold Qh;refine Ox (P7 (O' (name:=P4 "__next__") hit.typeIs PV (O5 PV hit.typeIs RP ?_ (RN _))));refine Ox (OC (Ox (Ox ?_)));refine Ox (Qg hit.typeIs (OC (Ox (RV ho hd ?_))));simp only[show RW "dict_keyiterator"=false by decide,mo,if_false];show OE _ _ (if(OT d == Pj)=true then _ else _) _ _ s;rw[if_neg (show ¬(OT d == Pj)=true from fun z=>KL z)];refine Ox (OC (Ox (Pf hod hdd ?_)));rw[if_neg (show ¬_ by simp)];refine Ox (OC (Ox (Q_ hod hdd ?_)));rw[if_neg (show ¬_ by simp)];refine OC ?_;simp only[show ¬(i:Int)<0 by lia,if_false,KS,hx];refine Ox (Ox (Qg hit.typeIs (OC ?_)));show OE _ _ (setField (.ref it) 0 .none >>= _) _ _ s;refine Ox (PR ho hd (by simp) (show OE _ _ (Su (.type "StopIteration") [] >>= _) _ _ _ from Ox ?_));simp only[Su,Uy];refine Ox (OU (Ox (m:=Qi _ _) (Q4 (a:=Pj) (by first|rfl|(simp only[Qi];rfl)) (OU ?_ (by size_fits)))) (by size_fits));simp only[Uz];refine Ox (R9 ?_);rw[show A.in1.handled=none from hh];refine Ox (OC (S3 ?_));refine Ox (Qj (T:="StopIteration") (b:=true) (by exact⟨_,OF _ rfl,rfl⟩) RU (OC ?_));exact hQ _ (((O2 ..).extBut.push _).push _)
end
open Sem (wp)
theorem nY:UG Wx "dict.update.loop"=some Pn.«dict.update.loop»:=UH (by kernel_rfl)
theorem jf:plainId "dict.update.loop"=true:=by rfl'
section
variable{prog:OI}{w:OK}{Kk:Type}[DecidableEq Kk]{knd:KeyKind prog w Kk}{A:OP}{E:Oy->OB->Prop}{R:UM->OB->Prop}{s:OB}
def nu(knd:KeyKind prog w Kk)(h:OM)(v:Oy)(x:List Kk×Oz×Oy):Prop:=∃p o n,v=.ref p/\h.get? p=some o/\o.cls=.type "tuple"/\o.data=.seq #[.ref x.2.1,x.2.2] n/\IsTupleKey knd h x.1 x.2.1
theorem nu.at {h h':OM}{v:Oy}{x:List Kk×Oz×Oy}(q:nu knd h v x)(k:∀b o,(∃y n,o.data=.seq y n)->h.get? b=some o->h'.get? b=some o):nu knd h' v x:=by obtain⟨p,o,n,e,h1,h2,h3,o2,be,n2,g1,g2,g3,g4⟩:=q;exact⟨p,o,n,e,k _ _ ⟨_,_,h3⟩ h1,h2,h3,o2,be,n2,k _ _ ⟨_,_,g3⟩ g1,g2,g3,g4⟩
noncomputable def putAll(xs:List (List Kk×Oz×Oy)):List (List Kk×Oz×Oy):=xs.foldl (fun a x=>Rn a x.1 x.2.1 x.2.2) []
theorem putAll_snoc(xs:List (List Kk×Oz×Oy))(x:List Kk×Oz×Oy):putAll (xs++[x])=Rn (putAll xs) x.1 x.2.1 x.2.2:=by
 unfold putAll;rw[MW]
 rfl
theorem uC(xs:List (List Kk×Oz×Oy))(k:List Kk)(a:Oz)(v:Oy):(Rn xs k a v).length<=xs.length+1:=by
 unfold Rn;split
 ·rw[a_];lia
 rw[gV];exact b_ _
theorem xn(xs:List (List Kk×Oz×Oy)):(putAll xs).length<=xs.length:=by
 have g:∀(ys acc:List (List Kk×Oz×Oy)),(ys.foldl (fun a x=>Rn a x.1 x.2.1 x.2.2) acc).length<=acc.length+ys.length:=by
  intro ys;induction ys with
  |nil=>intro acc;exact b_ _
  |cons y r ih=>
   intro acc;rw[Lw,g_];have h1:=ih (Rn acc y.1 y.2.1 y.2.2);have h2:=uC acc y.1 y.2.1 y.2.2;lia
 have:=g xs [];simpa[putAll]using this
theorem xc(I l d:Oz)(kvs:List (List Kk×Oz×Oy))(items:Array Oy)(hz:kvs.length<=sizeLine)(hu:A.in1.units<cLine)(hh:A.in1.handled=none)(hsz:items.size=kvs.length) :
  ∀(k i:Nat) (s:OB),kvs.length-i=k->i<=kvs.length->s.heap.IsListIter I l i->s.heap.IsList l items->(∀(j:Nat) x v,kvs[j]?=some x->items[j]?=some v->nu knd s.heap v x)->s.heap.DictOfH (PN knd) d (putAll (kvs.take i))->
   (∀s':OB,(∀b o,b≠d->b≠I->s.heap.get? b=some o->s'.heap.get? b=some o)->s'.gens=s.gens->s'.drawn=s.drawn->s'.os=s.os->s'.heap.DictOfH (PN knd) d (putAll kvs)->R (.ok (.ret .none)) s')->
   Qx (OJ prog w) A (.builtin "dict.update.loop" ⟨[.ref d,.ref I,Pl i,.none],[]⟩) R s:=by
 intro k;induction k with
 |zero=>
  intro i s hk hi hit hl hp hd hR;have hin:i=kvs.length:=by lia
  subst hin;refine PK nY ?_;rw[Pq jf _];show OE _ A.in1 (Qh (.ref I) >>= _) _ _ s;have dI:d≠I:=by obtain⟨od,es,ep,h1,_,h3,_⟩:=hd;obtain⟨oi,g1,_,g3⟩:=hit;intro z;rw[z,g1]at h1;cases h1;rw[g3]at h3;cases h3
  refine Ox (S7 hh hit hl (by rw[KJ];lia) fun h' he=>?_);show OE _ A.in1 (VU d [] >>= _) _ _ _;refine Ox (OC (OC (hR _ (fun b o n1 n2 e=>he b o n2 e) rfl rfl rfl ?_)));rw[t_]at hd;obtain⟨o,es,ep,h1,h2,h3,h4,h5,h6⟩:=hd;refine⟨o,es,ep,he d o dI h1,h2,h3,h4,fun x hx=>?_,h6⟩;obtain⟨o2,be,n2,g1,g2,g3,g4⟩:=h5 x hx;refine⟨o2,be,n2,he _ _ (fun z=>?_) g1,g2,g3,g4⟩;obtain⟨oi,k1,_,k3⟩:=hit;rw[z,k1]at g1;cases g1;rw[k3]at g3;cases g3
 |succ k ih=>
  intro i s hk hi hit hl hp hd hR;have lf:i<kvs.length:=by lia
  refine PK nY ?_;rw[Pq jf _];show OE _ A.in1 (Qh (.ref I) >>= _) _ _ s;have hv:items[i]?=some items[i]:=k_ (by lia);have hx:kvs[i]?=some kvs[i]:=e_ lf;have seqI:∀b o,(∃y n,o.data=.seq y n)->s.heap.get? b=some o->b≠I:=fun b o ⟨y,n,q⟩ e z=>by obtain⟨oi,k1,_,k3⟩:=hit;rw[z,k1]at e;cases e;rw[k3]at q;cases q
  have seqD:∀b o,(∃y n,o.data=.seq y n)->s.heap.get? b=some o->b≠d:=fun b o ⟨y,n,q⟩ e z=>by obtain⟨od,es,ep,h1,_,h3,_⟩:=hd;rw[z,h1]at e;cases e;rw[h3]at q;cases q
  have dI:d≠I:=by obtain⟨od,es,ep,h1,_,h3,_⟩:=hd;obtain⟨oi,g1,_,g3⟩:=hit;intro z;rw[z,g1]at h1;cases h1;rw[g3]at h3;cases h3
  have lI:l≠I:=by obtain⟨ol,h1,h2,n,h3⟩:=hl;exact seqI l ol ⟨_,_,h3⟩ h1
  have lD:l≠d:=by obtain⟨ol,h1,h2,n,h3⟩:=hl;exact seqD l ol ⟨_,_,h3⟩ h1
  refine Ox (SW hit hl hv fun h' hit' hs'=>?_);have hp':=hp;obtain⟨p,o,n,ev,g1,g2,g3,gk⟩:=hp i _ _ hx hv;have k1:h'.get? p=some o:=(hs'.2 p (seqI p o ⟨_,_,g3⟩ g1)).trans g1;show OE _ A.in1 (QS [items[i]] _ >>= _) _ _ _;refine Ox (OS ?_);rw[ev];have hT:({s with heap:=h'}:OB).TypeIs (.ref p) "tuple":=⟨o,k1,g2⟩;refine Ox (wpAny_tryCatch ?_);unfold Wg;refine Ox (Rf hT ?_);rw[if_pos (by decide)];unfold SQ;refine Ox (Ox (Sf k1 ?_));rw[g3];refine OC (OC ?_);show OE _ A.in1 (QS [.ref kvs[i].2.1,kvs[i].2.2] (dictSet d (.ref kvs[i].2.1) kvs[i].2.2)) _ _ _;have hd':h'.DictOfH (PN knd) d (putAll (kvs.take i)):=by obtain⟨o,es,ep,h1,h2,h3,h4,h5,h6⟩:=hd;refine⟨o,es,ep,(hs'.2 d dI).trans h1,h2,h3,h4,fun x hx=>?_,h6⟩;obtain⟨o2,be,n2,g1,g2,g3,g4⟩:=h5 x hx;exact⟨o2,be,n2,(hs'.2 _ (seqI _ _ ⟨_,_,g3⟩ g1)).trans g1,g2,g3,g4⟩
  have gk':IsTupleKey knd h' kvs[i].1 kvs[i].2.1:=by obtain⟨o2,be,n2,g1,g2,g3,g4⟩:=gk;exact⟨o2,be,n2,(hs'.2 _ (seqI _ _ ⟨_,_,g3⟩ g1)).trans g1,g2,g3,g4⟩
  have hlen:(putAll (kvs.take i)).length<=sizeLine:=by have:=xn (kvs.take i);rw[B_]at this;lia
  refine OS (wpAny_dictSet_heap (knd:=PN knd) (s:={s with heap:=h'}) (hsz:=hlen) hu gk' hd' fun h2 hd2 hs2=>?_);refine OC ⟨Qf jf _,?_⟩;have et:kvs.take (i+1)=kvs.take i++[kvs[i]]:=by rw[KI,hx];rfl
  have ei:(Pl ((i:Int)+1))=Pl ((i+1:Nat):Int):=by push_cast;rfl
  have kk:∀b ob,b≠d->b≠I->s.heap.get? b=some ob->h2.get? b=some ob:=fun b ob n1 n2 e=>(hs2.2 b n1).trans ((hs'.2 b n2).trans e);show Qx _ A (.builtin "dict.update.loop" ⟨[.ref d,.ref I,Pl ((i:Int)+1),.none],[]⟩) R _;rw[ei];refine ih (i+1) _ (by lia) lf ?_ ?_ (fun j x v e1 e2=>(hp j x v e1 e2).at fun b ob q e=>kk b ob (seqD b ob q e) (seqI b ob q e) e) (by rw[et,putAll_snoc];exact hd2) fun s' kp eg ed eo dd=>?_
  ·obtain⟨oi,q1,q2,q3⟩:=hit';exact⟨oi,(hs2.2 I dI.symm).trans q1,q2,q3⟩
  ·obtain⟨ol,q1,q2,q3⟩:=hl;exact⟨ol,kk l ol lD lI q1,q2,q3⟩
  exact hR s' (fun b ob n1 n2 e=>kp b ob n1 n2 (kk b ob n1 n2 e)) eg ed eo dd
end
open Sem (wp)
section
variable{prog:OI}{w:OK}{A:OP}{E:Oy->OB->Prop}{s:OB}
theorem AR:UO (.type "list") "keys"=pure none:=by rw[SR,RD];kernel_rfl
theorem Ca{a:Oz}{xs:Array Oy}{k:Nat}(hx:s.heap.get? a=some o)(hc:o.cls=.type "list")(hdat:o.data=.seq xs k)(hd:o.dict=none)(hA:A.handled=none)
  (h:∀h' tk e,Heap.NewExcOf s.heap h' e "AttributeError"->Q none {s with heap:=h',toks:=tk}):OE (OJ prog w) A (getAttr? (.ref a) "keys") Q E s:=by
 obtain⟨cl,dct,dat,sl⟩:=o;simp only at hc hdat hd;subst hc hdat hd;obtain⟨hp,gg,dr,tk,os⟩:=s;have hT:∀tk1,(⟨hp,gg,dr,tk1,os⟩:OB).TypeIs (.ref a) "list":=fun _=>⟨_,hx,rfl⟩;have f1:=sub_AttributeError;have f3:=Rh.lookup;have f4:=Rh.bind (.ref a);have f5:=am_list_getattr_none;unfold getAttr? getAttrBy? getAttrBy
 repeat (any_goals (first|assumption|exact hT _|((with_reducible show OE _ _ (call (Vz "list.__getattribute__") _ _) _ _ _);refine QU Rh (hT _) am_entry_list_getattribute (F.args_list_getattribute_2 _ _) (meets_getattribute_miss_list a xs k sl "keys" _ AR (by rfl') (by rfl')) ⟨hx,hA,fun h' tk' e hx'=>?_⟩)|wp_step))
 obtain⟨tt1,uu1,hee⟩:=hx'.there;refine(show OE _ _ (T4 _ _ _ _ _ _ _) _ _ _ from ?_);unfold T4;repeat (any_goals (first|assumption|wp_step))
 exact h _ _ _ hx'.of
end
open Sem (wp)
section
variable{prog:OI}{w:OK}{Kk:Type}[DecidableEq Kk]{knd:KeyKind prog w Kk}{A:OP}{E:Oy->OB->Prop}{s:OB}
theorem Bh{l:Oz}{n:Nat}{kvs:List (List Kk×Oz×Oy)}{items:Array Oy}{Q:Oy->OB->Prop}(hx:s.heap.get? l=some o)(hc:o.cls=.type "list")(hdat:o.data=.seq items n)(hd:o.dict=none)(hA:A.handled=none)
  (hu:A.units+20<cLine) (hz:kvs.length<=sizeLine) (hsz:items.size=kvs.length) (hp:∀(j:Nat) x v,kvs[j]?=some x->items[j]?=some v->nu knd s.heap v x)
  (h:∀h' tk,(∀b o,s.heap.get? b=some o->h'.get? b=some o)->h'.DictOfH (PN knd) s.heap.objs.size (putAll kvs)->Q (.ref s.heap.objs.size) {s with heap:=h',toks:=tk}) :
  OE (OJ prog w) A (call (.type "dict") [.ref l]) Q E s:=by
 refine Vk (Q₁:=fun obj s₁=>obj=.ref s.heap.objs.size/\s₁={s with heap:=s.heap.push { cls:=.type "dict",data:=.dict #[] } }) F.kt_called_dict (F.kt_typeCall_dict_1 _) F.entry_dict_init (kt_code_dict_new _ ⟨rfl,rfl⟩) ?_;rintro obj s₁ ⟨rfl,rfl⟩;have k1:∀b ob,s.heap.get? b=some ob->(s.heap.push { cls:=.type "dict",data:=.dict #[] }).get? b=some ob:=fun b ob e=>OD _ e;have hnew:(s.heap.push { cls:=.type "dict",data:=.dict #[] }).DictOfH (PN knd) s.heap.objs.size []:=W4 s.heap;refine⟨hnew.typeIs,F.args_dict_init_2 _ _,?_⟩;unfold Pn.«dict.__init__» VX;refine Ox (Ox (Qy hnew.typeIs (show OE _ _ (pure (s.heap.objs.size,[OT l])) _ _ _ from OC ?_)));show OE _ _ (SD "dict.__init__" s.heap.objs.size (.ref l) [] .none) _ _ _;unfold SD;have hT:({s with heap:=s.heap.push { cls:=.type "dict",data:=.dict #[] } }:OB).TypeIs (.ref l) "list":=⟨o,k1 _ _ hx,hc⟩;refine Ox (Rf hT ?_);rw[if_pos (by decide)];refine Ox (Ca (s:={s with heap:=s.heap.push { cls:=.type "dict",data:=.dict #[] } }) (k1 _ _ hx) hc hdat hd (by simp[hA]) fun h2 tk2 e2 hx2=>?_);have k2:∀b ob,(s.heap.push { cls:=.type "dict",data:=.dict #[] }).get? b=some ob->h2.get? b=some ob:=hx2.keeps;have hl2:({s with heap:=h2,toks:=tk2}:OB).heap.IsList l items:=⟨o,k2 _ _ (k1 _ _ hx),hc,n,hdat⟩;refine Ox (PQ ?_);refine Ox (PY hl2 ?_);refine OC ⟨Qf jf _,?_⟩;have k3:∀b ob,h2.get? b=some ob->(h2.push { cls:=.type "list_iterator",data:=.fields #[.ref l,.int 0 0] }).get? b=some ob:=fun b ob e=>OD _ e;refine xc (knd:=knd) h2.objs.size l s.heap.objs.size kvs items hz (by simp;lia) (by simp[hA]) hsz (kvs.length-0) 0 _ rfl (F' _) ⟨_,OF _ rfl,rfl,rfl⟩ (hl2.push _)
  (fun j x v e1 e2=>(hp j x v e1 e2).at fun b ob _ e=>k3 _ _ (k2 _ _ (k1 _ _ e))) ?_ fun s' kp eg ed eo dd=>?_
 ·obtain⟨o',es,ep,h1,h2',h3,h4,h5,h6⟩:=hnew;exact⟨o',es,ep,k3 _ _ (k2 _ _ h1),h2',h3,h4,fun x hx=>absurd (show x∈([]:List (List Kk×Oz×Oy))from hx) (by simp),h6⟩
 obtain⟨h',g',d',tk',os'⟩:=s';simp only at eg ed eo;subst eg ed eo;refine⟨rfl,h h' tk' (fun b ob e=>kp b ob ?_ ?_ (k3 _ _ (k2 _ _ (k1 _ _ e)))) dd⟩
 ·exact j' (OG e)
 exact j' (OG (k2 _ _ (k1 _ _ e)))
end
end ZG
namespace L2
open PySem PySem.Spec PyProof.Rows
noncomputable def kI(ns:List Int):List Key:=ns.map Qu
theorem GB(ns:List Int):(kI ns).map kV=ns.map V.int:=by
 unfold kI;rw[D_]
 rfl
theorem CN{ns ms:List Int}(h:kI ns=kI ms):ns=ms:=(List.map_inj_right fun _ _ z=>V9 z).mp h
def zi(kvs:List (List Key×V)):List (List Key×V):=kvs.foldl (fun a x=>putK a x.1 x.2) []
abbrev xx(H:Hp):List V->List (List Key×V)->Prop:=QE fun v x=>∃a b,v=.ref a/\H a=some (.tup [.ref b,x.2])/\H b=some (.tup (x.1.map kV))
theorem zX{H:Hp}:∀{kvs:List (List Key×V)}{xs:List (List Key×Oz×Oy)}{k0:List (List Key×V)}{x0:List (List Key×Oz×Oy)},KT H k0 x0->KT H kvs xs->
  KT H (kvs.foldl (fun a x=>putK a x.1 x.2) k0) (xs.foldl (fun a x=>Rn a x.1 x.2.1 x.2.2) x0):=by
 intro kvs xs k0 x0 r x;induction x generalizing k0 x0 with
 |nil=>exact r
 | @cons p q _ _ h t ih=>
  obtain⟨h1,h2,h3⟩:=h;refine ih (k0:=putK _ p.1 p.2) (x0:=Rn _ q.1 q.2.1 q.2.2) ?_;rw[<-h1];exact r.put p.1 h2 h3
theorem AK(kvs:List (List Key×V)):(zi kvs).length<=kvs.length:=by
 have g:∀(ys acc:List (List Key×V)),(ys.foldl (fun a x=>putK a x.1 x.2) acc).length<=acc.length+ys.length:=by
  intro ys;induction ys with
  |nil=>intro acc;exact b_ _
  |cons y r ih=>
   intro acc;rw[Lw,g_];have h1:=ih (putK acc y.1 y.2);have h2:=j4 acc y.1 y.2;lia
 have:=g kvs [];simpa[zi]using this
section
variable{X:Cx}{ac:List (Oz×Obj)}{σ:St}{H:Hp}{s:OB}
theorem A1(I:Inv X ac σ H s):∀{ys:List V}{us:List Oy}{kvs:List (List Key×V)},Vals ys us->xx H ys kvs->∃xs:List (List Key×Oz×Oy),KT H kvs xs/\xs.length=kvs.length/\us.length=kvs.length/\∀(j:Nat) x v,xs[j]?=some x->us[j]?=some v->ZG.nu (bx X.prog X.w) s.heap v x:=by
 intro ys us kvs x;induction x generalizing kvs with
 |nil=>intro y;cases y;exact⟨[],.nil,rfl,rfl,fun j x v e=>by simp at e⟩
 |cons hv tv ih=>
  intro y;rcases y with _|⟨hp,tp⟩;rename_i p kvs;obtain⟨xs,k,l1,l2,q⟩:=ih tp;obtain⟨a,b,e,ha,hb⟩:=hp;subst e;cases hv;obtain⟨_,be,r,o,h1,h2,n,h3⟩:=(show bC X.prog X.w H s.heap a (.tup [.ref b,p.2])from I.hok a _ ha);obtain⟨u1,u2,eu,r1,r2⟩:=Vals.two r;cases r1;subst eu;have ky:=lq I.hok hb;refine⟨(p.1,b,u2)::xs,.cons ⟨rfl,hb,r2⟩ k,by rw[g_,g_,l1],by rw[g_,g_,l2],fun j x v e1 e2=>?_⟩;cases j with
  |zero=>
   simp only[Lx,Mm]at e1 e2;subst e1 e2;exact⟨a,o,n,rfl,h1,h2,h3,ky⟩
  |succ j=>
   simp only[Lp]at e1 e2;exact q j x v e1 e2
theorem xv(hc:X.calm=true)(hu:X.A.units+20<cLine):cH X (.type "dict") (fun xs H Q=>∃l ys kvs,xs=[.ref l]/\H l=some (.lst ys)/\xx H ys kvs/\New (.dT (zi kvs)) H Q):=by
 intro ac s σ H xs us Q I r h;obtain⟨l,ys,kvs,rfl,hl,hp,q⟩:=h;obtain⟨u,rfl,ru⟩:=vals1 r;cases ru;obtain⟨hz,be,n,rv,ho⟩:=(show bC X.prog X.w H s.heap l (.lst ys)from I.hok l _ hl);obtain⟨xs,kt,l1,l2,pr⟩:=A1 I rv hp;have hyl:=rv.length;have hz':xs.length<=sizeLine:=by lia
 refine ZG.Bh (knd:=bx X.prog X.w) (kvs:=xs) ho rfl rfl rfl (I.ok.hd hc) hu hz' (by simp;lia) (fun j x v e1 e2=>pr j x v e1 (by simpa using e2)) fun h' tk kp dd=>?_
 obtain⟨o,es,ep,h1,h2,h3,h4,h5,h6⟩:=dd;refine⟨.ref s.heap.objs.size,_,I.laid (t':=tk) (a:=s.heap.objs.size) (o:=.dT (zi kvs)) kp (b_ _) ⟨?_,beq_eq_false_iff_ne.mpr (Qv (j' I.big)),_,(zX .nil kt).keeps fun c zs ec=>?_,o,es,ep,h1,h2,h3,h4,h6⟩,rfl,q.at (I.hok.fresh (b_ _))⟩
 ·have:=AK kvs;lia
 rw[aG (cI ec (I.hok.fresh (b_ _)))];exact ec
end
theorem oY{α β:Type}{F:α->β->Prop}:∀{l:List α}{m:List β}{i:Nat}{b:β},QE F l m->m[i]?=some b->∃a,l[i]?=some a/\F a b
 | _,_,_,_,.nil,e=>by simp at e
 | _,_,0,_,.cons h t,e=>by simp only[Lx,Mm]at e;subst e;exact⟨_,rfl,h⟩
 | _,_,i+1,_,.cons h t,e=>by simp only[Lp]at e ⊢;exact oY t e
theorem Fn{X:Cx}{ac:List (Oz×Obj)}{σ:St}{H:Hp}{s:OB}{o:Obj}{d:Oz}{kvs:List (List Key×V)}(I:Inv X ac σ H s)(e:H d=some (.frz o (.dT kvs))) :
  s.heap.get? d=some o/\(d == O0)=false/\∃xs es ep,KT H kvs xs/\o.ExactDict/\o.data=.dict es ep/\es.toList=xs.map (RG (PN (bx X.prog X.w)))/\es.size=kvs.length:=by
 obtain⟨h0,h1,h2,xs,kt,o',es,ep,g1,g2,g3,g4,g5⟩:=(show bC X.prog X.w H s.heap d (.frz o (.dT kvs))from I.hok d _ e);rw[h0]at g1;cases g1;refine⟨h0,h2,xs,es,ep,kt,g2,g3,g4,?_⟩;rw[<-l_,g4,a_];exact(PH kt).symm
end L2
namespace ZR
open PySem
variable {E:Oy->OB->Prop}
theorem B2{prog:OI}{w:OK}{A:OP}{s:OB}{it l:Oz}{i:Int}{Q:Bool->OB->Prop}(h:s.heap.IsRevIter it l i)(q:Q false s):OE (OJ prog w) A (Qr (OT it)) Q E s:=by have ty:s.TypeIs (OT it) "list_reverseiterator":=h.typeIs;unfold Qr;refine Ox (Q9 ty (r:=none) rfl ?_);refine Pg (fun c=>absurd c (by decide)) (fun _=>?_);refine Pg (fun c=>absurd c (by decide)) (fun _=>?_);refine Ox (Q9 ty (r:=some (Vz "list_reverseiterator.__length_hint__")) rfl ?_);refine Ox (Qj ty (b:=true) (by rw[RX];rfl) ?_);refine Pg (fun c=>absurd c (by decide)) (fun _=>?_);refine Pg (fun _=>?_) (fun c=>absurd rfl c);refine Pg (fun c=>absurd c (by decide)) (fun _=>?_);exact OC q
theorem qH{prog:OI}{w:OK}{A:OP}{s:OB}{I l:Oz}{items:Array Oy}{Q:Oy->OB->Prop}(hh:A.handled=none)(kw:l≠I)
  (h1:s.heap.IsRevIter I l ((items.size:Int)-1)) (h2:s.heap.IsList l items) (hn:items.size<=sizeLine)
  (q:∀(h':OM) (tk:Nat) (acc':Array Oy) (c':Nat),(∀b o,b≠I->s.heap.get? b=some o->h'.get? b=some o)->
   h'.get? s.heap.objs.size=some { cls:=.type "list",data:=.seq acc' c'}->Sn (fun i v=>items[items.size-1-i]?=some v) acc' items.size->Q (.ref s.heap.objs.size) {s with heap:=h',toks:=tk}) :
  OE (OJ prog w) A (call (.type "list") [.ref I]) Q E s:=by
 have hI:I<s.heap.objs.size:=by obtain⟨o,e,_⟩:=h1;exact OG e
 have hl:l<s.heap.objs.size:=by obtain⟨o,e,_⟩:=h2;exact OG e
 refine Vk F.called_list (F.typeCall_list_1 _) F.entry_list_init (code_list_new _ (Q₁:=fun v s1=>v=.ref s.heap.objs.size/\s1={s with heap:=s.heap.push { cls:=.type "list",data:=.seq #[] } }) ⟨rfl,rfl⟩) ?_;rintro _ _ ⟨rfl,rfl⟩;have hS:(s.heap.push ({ cls:=.type "list",data:=.seq #[] }:Obj)).get? s.heap.objs.size=some { cls:=.type "list",data:=.seq #[] }:=OF _ rfl;refine⟨⟨_,hS,rfl⟩,F.args_list_init_2 _ _,?_⟩;have k1:(s.heap.push { cls:=.type "list",data:=.seq #[] }).IsRevIter I l ((items.size:Int)-1):=h1.at fun o e=>OD _ e;have k2:(s.heap.push { cls:=.type "list",data:=.seq #[] }).IsList l items:=by obtain⟨o,e,r⟩:=h2;exact⟨o,OD _ e,r⟩
 unfold Pn.«list.__init__»;refine Ox (Ox (P' hS rfl (OC ?_)));refine Ox (SS hS rfl ?_ (by simp) (by simp));refine Ox (Q5 ?_);have hS2:((s.heap.push ({ cls:=.type "list",data:=.seq #[] }:Obj)).update s.heap.objs.size (O_ fun _=>#[])).get? s.heap.objs.size=some (O_ (fun _=>#[]) { cls:=.type "list",data:=.seq #[] }):=by exact O6 _ hS rfl
 have kp:∀b o,b≠s.heap.objs.size->(s.heap.push ({ cls:=.type "list",data:=.seq #[] }:Obj)).get? b=some o->((s.heap.push ({ cls:=.type "list",data:=.seq #[] }:Obj)).update s.heap.objs.size (O_ fun _=>#[])).get? b=some o:=fun b o hb e=>by rw[Q7 _ _ _ _ hb];exact e
 have k1':=k1.at fun o e=>kp I o (j' hI) e;have k2':((s.heap.push ({ cls:=.type "list",data:=.seq #[] }:Obj)).update s.heap.objs.size (O_ fun _=>#[])).IsList l items:=by obtain⟨o,e,r⟩:=k2;exact⟨o,kp l o (j' hl) e,r⟩
 generalize (s.heap.push ({ cls:=.type "list",data:=.seq #[] }:Obj)).update s.heap.objs.size (O_ fun _=>#[])=h2' at *;show OE (OJ prog w) A.in1.in1 (Qs (.ref s.heap.objs.size) (.ref I) .none) _ _ {s with heap:=h2'};unfold Qs;refine Ox (Rf (T:="list_reverseiterator") (Wr (s:={s with heap:=h2'}) k1') ?_);refine Pg (fun c=>absurd c ?_) (fun _=>?_)
 ·have e:QK (.ref s.heap.objs.size) (.ref I)=false:=by unfold QK;exact beq_eq_false_iff_ne.mpr (fun z=>j' hI z.symm)
  rw[e]
  decide
 refine Ox (wpAny_pyIter_revIter k1' ?_);refine Ox (OS (B2 k1' ?_));refine Pg (fun c=>absurd c (by decide)) (fun _=>?_);refine OC ⟨Qf F.plain_extend_loop _,?_⟩;have W:=(Walks.listRev (prog:=prog) (w:=w) (A:=A.in1.in1) hh I l kw items).toS;refine Tu W hn s.heap.objs.size (fun z=>by rcases h_.mp z with z|z;exact j' hI z.symm;exact j' hl (y_.mp z).symm) .none items.size 0 {s with heap:=h2'} #[] _ rfl (F' _) ⟨F' _,by simpa using k1',k2'⟩ hS2 ⟨rfl,fun j v e=>by simp at e⟩ fun s' acc' c' m e it=>⟨rfl,?_⟩
 obtain⟨h',g',d',tk',os'⟩:=s';have e1:=m.gens;have e2:=m.drawn;have e3:=m.os;dsimp only at e1 e2 e3;subst e1 e2 e3;exact q h' tk' acc' c' (fun b o hb eb=>m.heap b o (fun z=>by rcases h_.mp z with z|z;exact j' (OG eb) z;exact hb (y_.mp z)) (kp b o (j' (OG eb)) (OD _ eb))) e it
end ZR
namespace L2
open PySem PySem.Spec PyProof.Rows
section
variable{X:Cx}
theorem Bm{xs:List V}{us:List Oy}(h:Vals xs us):Vals xs.reverse us.reverse:=by
 have app:∀{a:List V}{b:List Oy}{c:List V}{d:List Oy},Vals a b->Vals c d->Vals (a++c) (b++d):=fun{a b c d} p q=>by
  induction p with
  |nil=>exact q
  |cons r _ ih=>exact .cons r ih
 induction h with
 |nil=>exact .nil
 |cons r _ ih=>
  rw[Li,Li];exact app ih (.cons r .nil)
theorem w9{e:OL}{te:TE}{p1 p2 pos1 lw:Pos}(hc:X.calm=true)(hg1:Gl X "list")(hm1:X.mg "list"=none)(hg2:Gl X "reversed")(hm2:X.mg "reversed"=none)(he:PE X e te)
  (hs1:OO [e] X.env=[(false,O1 e X.env)]:=by rfl) (hs2:OO [.Call (.Name "reversed" p2) [e] [] lw] X.env=[(false,O1 (.Call (.Name "reversed" p2) [e] [] lw) X.env)]:=by rfl) :
  PE X (.Call (.Name "list" p1) [.Call (.Name "reversed" p2) [e] [] lw] [] pos1) (fun σ H Q=>te σ H fun x H1=>∃l xs,x=.ref l/\SqL X.K H1 l xs/\New (.lst xs.reverse) H1 Q):=by
 intro ac s σ H Q I h;refine P_ (iO I hg1 hm1 boot_list (callWith_type1 ?_ (by rw[hs2];rfl) rfl));rw[hs2];refine P9 ?_;refine P_ (iO I hg2 hm2 boot_reversed (callWith_type1 ?_ (by rw[hs1];rfl) rfl));rw[hs1];refine P9 (thn (he ac s σ H _ I h) ?_);rintro u s1 ⟨x,H1,I1,r1,l,xs,ex,hl,q⟩;subst ex;cases r1;obtain⟨be,rv,pl,hz⟩:=I1.list hl;refine OC ?_;refine call_reversed_list pl.isList ?_;have hlen:=rv.length;have lf:l<s1.heap.objs.size:=by obtain⟨o,n,e,_⟩:=pl;exact OG e
 refine OC ?_;have I2:Inv X ac σ H1 {s1 with heap:=s1.heap.push (revObj l ((be.toArray.size:Int)-1)) }:=I1.kept (t':=s1.toks) fun b o e=>OD _ e;obtain⟨f0,f1,f2,f3,f4,f5⟩:=I1.tH (b:=s1.heap.objs.size) (b_ _) (I1.hok.fresh (b_ _));refine ZR.qH (items:=be.toArray) (l:=l) (I2.ok.hd hc) (j' lf) ⟨_,OF _ rfl,rfl,rfl⟩ ?_ (by simp only[i_];lia) fun h' tk acc c kp ea it=>?_
 ·obtain⟨o,e,r⟩:=pl.isList;exact⟨o,OD _ e,r⟩
 have hacc:acc.toList=be.reverse:=by
  refine Mn fun j=>?_;rw[r_];by_cases hj:j<be.length
  ·have hja:j<acc.size:=by rw[it.1,i_];exact hj
   have ha:acc[j]?=some acc[j]:=k_ hja;have:=it.2 j _ ha;rw[ha,List.getElem?_reverse hj,<-this];simp
  rw[KJ (by rw[it.1,i_];lia),Lv (by rw[KO];lia)]
 have ea2:acc=be.reverse.toArray:=by rw[<-hacc]
 have hfr:H1 (s1.heap.objs.size+1)=none:=I1.hok.fresh (LR _);have esz:(s1.heap.push (revObj l ((be.toArray.size:Int)-1))).objs.size=s1.heap.objs.size+1:=by simp[RE]
 dsimp only at ea ⊢;rw[esz]at ea ⊢;rw[ea2]at ea;refine⟨.ref (s1.heap.objs.size+1),_,I1.laid (t':=tk) (h':=h') (fun b o e=>kp b o (j' (OG e)) (OD _ e)) (LR _) (show bC X.prog X.w _ h' _ (.lst xs.reverse)from⟨by rw[KO];exact hz,be.reverse,c,Bm rv,ea⟩),rfl,q _ _ hfr (cJ hfr _) aO⟩
theorem Am(hc:X.calm=true):cH X (.builtin "min") (fun xs H Q=>∃a ns,xs=[.ref a]/\SqT X.K H a (ns.map V.int)/\ns≠[]/\∀r,iD ns r->Q (.int r) H):=by
 intro ac s σ H xs us Q I r h;obtain⟨a,ns,rfl,hq,kw,q⟩:=h;obtain⟨u,rfl,ru⟩:=vals1 r;cases ru;obtain⟨be,rv,p,z⟩:=I.tuple hq;obtain⟨ps,e1,e2⟩:=iK rv;have ei:Ph ps.toArray=be.toArray:=by simp[Ph,e1]
 have hT:s.heap.IsTuple a (Ph ps.toArray):=by rw[ei];exact p
 have hlen:ps.length=ns.length:=by rw[<-e2];simp
 have hpos:0<ns.length:=Ln fun z=>kw (J_ z);have lf:a<s.heap.objs.size:=by obtain⟨o,e,_⟩:=p;exact OG e
 have hh:X.A.in1.handled=none:=I.ok.hd hc;have W1:=Wh (prog:=X.prog) (w:=X.w) hh s.heap.objs.size a (j' lf) (Ph ps.toArray);refine call_min_walk (Pp hT ⟨s.heap.objs.size,_,_,_,_,_,_,rfl,W1,?_,fun b hb=>?_,?_,CmpOf.ints_lt (QX ps.toArray) (fun i v hv=>Rw hv),fun v h' tk hv hk=>?_⟩)
 ·refine⟨⟨_,OF _ rfl,rfl,rfl⟩,?_⟩;obtain⟨o,e,r⟩:=hT;exact⟨o,OD _ e,r⟩
 ·show b<(s.heap.push _).objs.size;have e:(s.heap.push { cls:=.type "tuple_iterator",data:=.fields #[.ref a,.int 0 0] }).objs.size=s.heap.objs.size+1:=by simp[RE]
  rcases h_.mp hb with hb|hb
  ·rw[hb];simp[RE]
  rw[y_.mp hb];exact A_ lf (by simp[RE])
 ·simp[Ph];lia
 obtain⟨tv,rfl⟩:=Rw hv;obtain⟨b1,b2⟩:=argBest_lt (QX ps.toArray) ((Ph ps.toArray).size-1);have es:(Ph ps.toArray).size=ns.length:=by simp[Ph,hlen]
 have hi:Vj (fun i j=>decide (QX ps.toArray i<QX ps.toArray j)) ((Ph ps.toArray).size-1)<ns.length:=by rw[es]at b1 ⊢;lia
 obtain⟨f0,f1,f2,f3,f4,f5⟩:=I.tH (b:=s.heap.objs.size) (b_ _) (I.hok.fresh (b_ _));have kk:∀b o,s.heap.get? b=some o->h'.get? b=some o:=fun b o e=>hk b o (fun z=>j' (OG e) (y_.mp z)) (OD _ e);refine⟨.int _,H,I.kept (t':=tk) kk,⟨tv,rfl⟩,q _ ⟨?_,fun x hx=>?_⟩⟩
 ·rw[ir e2 hi];exact KY hi
 obtain⟨j,hj,rfl⟩:=Lc.mp hx;have:=b2 j (by rw[es];lia);rw[ir e2 hj]at this;exact this
theorem AF(hc:X.calm=true):cH X (.builtin "max") (fun xs H Q=>∃a ns,xs=[.ref a]/\SqT X.K H a (ns.map V.int)/\ns≠[]/\∀r,iC ns r->Q (.int r) H):=by
 intro ac s σ H xs us Q I r h;obtain⟨a,ns,rfl,hq,kw,q⟩:=h;obtain⟨u,rfl,ru⟩:=vals1 r;cases ru;obtain⟨be,rv,p,z⟩:=I.tuple hq;obtain⟨ps,e1,e2⟩:=iK rv;have ei:Ph ps.toArray=be.toArray:=by simp[Ph,e1]
 have hT:s.heap.IsTuple a (Ph ps.toArray):=by rw[ei];exact p
 have hlen:ps.length=ns.length:=by rw[<-e2];simp
 have hpos:0<ns.length:=Ln fun z=>kw (J_ z);have lf:a<s.heap.objs.size:=by obtain⟨o,e,_⟩:=p;exact OG e
 have hh:X.A.in1.handled=none:=I.ok.hd hc;have W1:=Wh (prog:=X.prog) (w:=X.w) hh s.heap.objs.size a (j' lf) (Ph ps.toArray);refine call_max_walk (Pp hT ⟨s.heap.objs.size,_,_,_,_,_,_,rfl,W1,?_,fun b hb=>?_,?_,CmpOf.ints_gt (QX ps.toArray) (fun i v hv=>Rw hv),fun v h' tk hv hk=>?_⟩)
 ·refine⟨⟨_,OF _ rfl,rfl,rfl⟩,?_⟩;obtain⟨o,e,r⟩:=hT;exact⟨o,OD _ e,r⟩
 ·show b<(s.heap.push _).objs.size;have e:(s.heap.push { cls:=.type "tuple_iterator",data:=.fields #[.ref a,.int 0 0] }).objs.size=s.heap.objs.size+1:=by simp[RE]
  rcases h_.mp hb with hb|hb
  ·rw[hb];simp[RE]
  rw[y_.mp hb];exact A_ lf (by simp[RE])
 ·simp[Ph];lia
 obtain⟨tv,rfl⟩:=Rw hv;obtain⟨b1,b2⟩:=argBest_gt (QX ps.toArray) ((Ph ps.toArray).size-1);have es:(Ph ps.toArray).size=ns.length:=by simp[Ph,hlen]
 have hi:Vj (fun i j=>decide (QX ps.toArray i > QX ps.toArray j)) ((Ph ps.toArray).size-1)<ns.length:=by rw[es]at b1 ⊢;lia
 obtain⟨f0,f1,f2,f3,f4,f5⟩:=I.tH (b:=s.heap.objs.size) (b_ _) (I.hok.fresh (b_ _));have kk:∀b o,s.heap.get? b=some o->h'.get? b=some o:=fun b o e=>hk b o (fun z=>j' (OG e) (y_.mp z)) (OD _ e);refine⟨.int _,H,I.kept (t':=tk) kk,⟨tv,rfl⟩,q _ ⟨?_,fun x hx=>?_⟩⟩
 ·rw[ir e2 hi];exact KY hi
 obtain⟨j,hj,rfl⟩:=Lc.mp hx;have:=b2 j (by rw[es];lia);rw[ir e2 hj]at this;exact this
theorem ya{K:OA}{H:Hp}:∀{ds:List Dt}{xs:List V}{us:List Oy},d9 K H ds xs->Vals xs us->∀p∈us.zip ds,∃x,RelV x p.1/\Has K H p.2 x
 | [],_,_,_,_=>fun p hp=>by simp at hp
 |d::ds,_,_,h,v=>fun p hp=>by
  rw[d9]at h;obtain⟨x,t,rfl,h1,h2⟩:=h;cases v with
  |cons r v'=>
   rw[LF]at hp;rcases h_.mp hp with rfl|hp
   ·exact⟨x,r,h1⟩
   exact ya h2 v' p hp
theorem xj{ac:List (Oz×Obj)}{σ:St}{H:Hp}{s:OB}(I:Inv X ac σ H s){A:OP}{n:Nat}(hA:A.units+n<cLine){d:Dt}{x:V}{v:Oy}(hd:Has X.K H d x)(rx:RelV x v) :
  ∀{ds:List Dt}{xs:List V}{us:List Oy},i8 ds<=n->d9 X.K H ds xs->Vals xs us->∃e:Oy->Bool,(∀u∈us,QW A s u v (e u))/\(∀p∈us.zip ds,e p.1=eqD p.2 d)/\us.any e=ds.any fun d'=>eqD d' d
 | [],_,_,_,h,r=>by rw[d9]at h;subst h;cases r;exact⟨fun _=>false,fun u hu=>(by cases hu),fun p hp=>(by simp at hp),rfl⟩
 |d'::ds,_,_,hn,h,r=>by
  rw[d9]at h;obtain⟨x',t,rfl,h1,h2⟩:=h;rw[i8]at hn;cases r with
  | @cons _ u' _ us r1 r2=>
   obtain⟨e0,a1,a2,a3⟩:=xj I hA hd rx (by lia) h2 r2;have q1:QW A s u' v (eqD d' d):=(tF I n A d' d x' x u' v (by lia) hA h1 hd r1 rx).2.2;have same:∀p∈us.zip ds,p.1=u'->p.2=d':=fun p hp z=>by obtain⟨y,ry,hy⟩:=ya h2 r2 p hp;rw[z]at ry;have:=RelV.inj ry r1;subst this;exact Has.inj I hy h1
   have ev:∀p∈us.zip ds,(if p.1=u' then eqD d' d else e0 p.1)=eqD p.2 d:=fun p hp=>by
    split
    ·rename_i z;rw[same p hp z]
    exact a2 p hp
   have len:us.length=ds.length:=by have m1:=h2.len;have m2:=r2.length;lia
   have Ho:∀(f:Oy->Bool) (us:List Oy) (ds:List Dt),us.length=ds.length->(∀p∈us.zip ds,f p.1=eqD p.2 d)->us.any f=ds.any fun d'=>eqD d' d:=fun f us=>by
    induction us with
    |nil=>intro ds z _;cases ds with
     |nil=>rfl
     |cons _ _=>cases z
    |cons u us ih=>intro ds z h;cases ds with
     |nil=>cases z
     |cons c cs=>
      rw[LH,LH,ih cs (LG z) fun p hp=>h p (by rw[LF];exact m_ _ hp),h (u,c) (by rw[LF];exact x_ ..)]
   refine⟨fun y=>if y=u' then eqD d' d else e0 y,fun u hu=>?_,fun p hp=>?_,?_⟩
   ·show QW A s u v (if u=u' then eqD d' d else e0 u);split
    ·rename_i z;rw[z];exact q1
    rename_i z;rcases h_.mp hu with rfl|hu
    ·exact absurd rfl z
    exact a1 u hu
   ·rw[LF]at hp;rcases h_.mp hp with rfl|hp
    ·exact if_pos rfl
    exact ev p hp
   rw[LH,LH,Ho _ us ds len ev,if_pos rfl]
def K8(K:OA)(A:OP)(neg:Bool):R2:=fun x y H Q=>∃p xs d ds,y=.ref p/\SqL K H p xs/\Has K H d x/\d9 K H ds xs/\A.in1.units+i8 ds<cLine/\Q (.bl (if neg then !(ds.any fun e=>eqD e d)else ds.any fun e=>eqD e d)) H
theorem A7:OpR X (OX .NotIn) (K8 X.K X.A true):=by intro ac s σ H x y v u Q I rx ry h;obtain⟨p,xs,d,ds,rfl,hq,hd,hl,hA,q⟩:=h;cases ry;obtain⟨be,r,pl,hz⟩:=I.list hq;obtain⟨e,e1,_,e3⟩:=xj I (A:=X.A.in1) hA hd rx (b_ _) hl r;refine SeqAt.notIn_listAt e pl.isList (fun w hw=>e1 w (by simpa using hw)) ⟨.bl _,H,I,rfl,?_⟩;rw[show be.toArray.any e=be.any e by simp,e3];exact q
end
end L2
namespace ZS
open PySem PyProof.Rows
noncomputable def lg(M:Rk)(A:OP)(E:Oy->OB->Prop)(s:OB)(kd:Qd)(rk:O9->Nat)(S:O9->Prop):Prop:=
 ∀(x y:O9) (st:OW) (Q:Option Bool->OW->Prop),S x->S y->kindOf st=kd->Q (some (decide (rk x<rk y))) st->wpS M A E s (lt' x y) Q st
section
variable{rk:O9->Nat}
abbrev Srt(rk:O9->Nat)(l:List O9):Prop:=l.Pairwise fun x y=>rk x<=rk y
end
variable {i:Nat}{st:OW}
section
variable{M:Rk}{A:OP}{E:Oy->OB->Prop}{s:OB}{kd:Qd}{rk:O9->Nat}{S:O9->Prop}
theorem yT{ar:Array O9}{p:O9}{Q:O9->OW->Prop}(h:ar[i]?=some p)(q:Q p st):wpS M A E s (elem' ar i) Q st:=by rw[elem'_eq,h];exact Pa q
end
noncomputable def R(rk:O9->Nat)(xs:Array O9)(i:Nat):Nat:=match xs[i]? with
 |some p=>rk p
 |none=>0
structure Kp2 (st am:OW):Prop where
 k:kindOf am=kindOf st
 p:Pb am=Pb st
 f:Qk am=Qk st
 a:(OH am).Perm (OH st)
theorem Kp2.gy :Kp2 st st:=⟨rfl,rfl,rfl,Nb _⟩
theorem Kp2.trans {s1 s2 s3:OW}(h:Kp2 s1 s2)(g:Kp2 s2 s3):Kp2 s1 s3:=⟨g.k.trans h.k,g.p.trans h.p,g.f.trans h.f,g.a.trans h.a⟩
theorem Kp2.size {am:OW}(h:Kp2 st am):(OH am).size=(OH st).size:=h.a.size_eq
variable {j:Nat}{xs:Array O9}
section
variable{rk:O9->Nat}
theorem mT{ys:Array O9}(h:xs[i]?=ys[j]?):R rk xs i=R rk ys j:=by unfold R;rw[h]
theorem CY(hj:j<=xs.size)(k:Nat):R rk (mirror xs i j ((j-i)/2)) k=if i<=k/\k<j then R rk xs (i+j-1-k)else R rk xs k:=by
 have:=TL (i:=i) hj k;split at this <;> rename_i h
 ·rw[if_pos h];exact mT this
 rw[if_neg h];exact mT this
theorem C1{src d:Nat}(hs:src<xs.size)(hd:d<=src)(k:Nat):R rk (UY xs src d) k=if k=src-d then R rk xs src else if src-d<k/\k<=src then R rk xs (k-1)else R rk xs k:=by
 have:=UZ hs d hd k;split at this
 ·rename_i h;rw[if_pos h];exact mT this
 rename_i h;rw[if_neg h];split at this
 ·rename_i h2;rw[if_pos h2];exact mT this
 rename_i h2;rw[if_neg h2];exact mT this
def iy(rk:O9->Nat)(xs:Array O9)(lo n:Nat):Prop:=∀i j,i<=j->j<n->R rk xs (lo+i)<=R rk xs (lo+j)
def vt(rk:O9->Nat)(xs:Array O9)(lo n:Nat):Prop:=∀i j,i<=j->j<n->R rk xs (lo+j)<=R rk xs (lo+i)
end
structure Within (st am:OW) (lo n:Nat):Prop where
 kp:Kp2 st am
 out:∀k,(k<lo\/lo+n<=k)->(OH am)[k]?=(OH st)[k]?
variable {lo n:Nat}
theorem Within.gy :Within st st lo n:=⟨.gy,fun _ _=>rfl⟩
theorem Within.trans {s1 s2 s3:OW}(h:Within s1 s2 lo n)(g:Within s2 s3 lo n):Within s1 s3 lo n:=⟨h.kp.trans g.kp,fun k hk=>(g.out k hk).trans (h.out k hk)⟩
section
variable{M:Rk}{A:OP}{E:Oy->OB->Prop}{s:OB}{kd:Qd}{rk:O9->Nat}{S:O9->Prop}
noncomputable def lB(S:O9->Prop)(st:OW):Prop:=∀p∈(OH st).toList,S p
theorem lB.at {st:OW}(h:lB S st){i:Nat}{p:O9}(e:(OH st)[i]?=some p):S p:=h p (by rw[<-r_]at e;exact H_ e)
theorem lB.kp {am:OW}(h:lB S st)(k:Kp2 st am):lB S am:=fun p hp=>h p ((MR.mp k.a).mem_iff.mp hp)
theorem iI{Q:Option Bool->OW->Prop}(L:lg M A E s kd rk S)(hk:kindOf st=kd)(hS:lB S st)(hi:i<(OH st).size)(hj:j<(OH st).size)(q:Q (some (decide (R rk (OH st) i<R rk (OH st) j))) st):wpS M A E s (U0 i j) Q st:=by rw[ltAt'_eq];refine OV (Tb ?_);have e1:(OH st)[i]?=some (OH st)[i]:=k_ hi;have e2:(OH st)[j]?=some (OH st)[j]:=k_ hj;refine OV (yT e1 (OV (yT e2 (L _ _ st _ (hS.at e1) (hS.at e2) hk ?_))));unfold R at q;rw[e1,e2]at q;exact q
theorem Cg{Q:Unit->OW->Prop}(hl:lo<=i)(hj:j<=lo+n)(hsz:j<=(OH st).size)(h:∀am,Within st am lo n->(∀k,R rk (OH am) k=if i<=k/\k<j then R rk (OH st) (i+j-1-k)else R rk (OH st) k)->Q () am):wpS M A E s (Q2 i j) Q st:=by rw[reverseSlice'_eq];refine U1 (h _ ⟨⟨rfl,rfl,rfl,mirror_perm _ _ _ _⟩,fun k hk=>?_⟩ fun k=>CY hsz k);show(mirror (OH st) i j ((j-i)/2))[k]?=_;rw[TL hsz,if_neg (by lia)]
theorem E8{ok:Nat}{Q:Bool->OW->Prop}(L:lg M A E s kd rk S)(hk:kindOf st=kd)(hS:lB S st)(hn:lo+n<=(OH st).size)(hok:ok<=n)(hs:iy rk (OH st) lo ok)
  (h:∀am,Within st am lo n->iy rk (OH am) lo n->Q true am):wpS M A E s (Wj lo n ok) Q st:=by
 rw[binarySort'_eq];refine OV (QY (Qe (I:=fun k c am=>c=(none,())/\Within st am lo n/\iy rk (OH am) lo k) (Q:=fun c am=>c=(none,())/\Within st am lo n/\iy rk (OH am) lo (max (max ok 1) n)) ?_ (fun c am z=>z) ⟨rfl,.gy,fun i j h1 h2=>?_⟩) ?_)
 ·rintro k c ii hk1 hk2 ⟨rfl,W,s1⟩;have sz1:=W.kp.size;have hS1:=hS.kp W.kp;refine OV (QY (Qe (I:=fun x c am=>am=ii/\∃l r,c=(none,l,r)/\l<=r/\r<=k/\r-l<=k-x/\(∀i,i<l->R rk (OH ii) (lo+i)<=R rk (OH ii) (lo+k))/\(∀i,r<=i->i<k->R rk (OH ii) (lo+k)<R rk (OH ii) (lo+i)))
   (Q:=fun c am=>am=ii/\∃l,c=(none,l,l)/\l<=k/\(∀i,i<l->R rk (OH ii) (lo+i)<=R rk (OH ii) (lo+k))/\(∀i,l<=i->i<k->R rk (OH ii) (lo+k)<R rk (OH ii) (lo+i))) ?_ ?_ ⟨rfl,0,k,rfl,F' _,b_ _,by lia,fun i hi=>by lia,fun i h1 h2=>by lia⟩) ?_)
  ·rintro x c io _ hx ⟨rfl,l,r,rfl,g1,g2,g3,g4,g5⟩;dsimp only;by_cases z:l>=r
   ·rw[if_pos z];have e:l=r:=by lia
    subst e;exact Pa ⟨rfl,l,rfl,g2,g4,g5⟩
   rw[if_neg z];have m1:l<=(l+r)/2:=by omega
   have m2:(l+r)/2<r:=by omega
   generalize (l+r)/2=m at m1 m2 ⊢;have m3:=A_ m2 g2;have sz:∀{y},y<=k->lo+y<(OH io).size:=fun h=>by lia
   refine OV (iI L (W.kp.k.trans hk) hS1 (sz (b_ _)) (sz (KR m3)) ?_);dsimp only;by_cases w:R rk (OH io) (lo+k)<R rk (OH io) (lo+m)
   ·rw[decide_eq_true w,if_pos rfl];exact Pa ⟨rfl,l,m,rfl,m1,KR m3,by lia,g4,fun i h1 h2=>A_ w (s1 m i h1 h2)⟩
   rw[decide_eq_false w,if_neg (by simp)];exact Pa ⟨rfl,m+1,r,rfl,m2,g2,by lia,fun i hi=>B' (s1 i m (NJ hi) m3) (Lm w),g5⟩
  ·rintro c io ⟨rfl,l,r,rfl,g1,g2,g3,g4,g5⟩;have e:l=r:=by lia
   subst e;exact⟨rfl,l,rfl,g2,g4,g5⟩
  rintro c io ⟨rfl,l,rfl,g2,g4,g5⟩;dsimp only;rw[moveDown'_eq];have hk1:lo+k<(OH io).size:=by lia
  have e0:lo+k-(lo+k-(lo+l))=lo+l:=Nat.sub_sub_self (MI g2 lo);have hb:∀j,R rk (UY (OH io) (lo+k) (lo+k-(lo+l))) (lo+j)=if j=l then R rk (OH io) (lo+k)else if l<j/\j<=k then R rk (OH io) (lo+(j-1))else R rk (OH io) (lo+j):=fun j=>by
   rw[C1 hk1 (M0 ..),e0];by_cases c1:j=l
   ·rw[if_pos c1,if_pos (congrArg (lo+·) c1)]
   rw[if_neg c1,if_neg (fun z=>c1 (Nat.add_left_cancel z))];by_cases c2:l<j/\j<=k
   ·rw[if_pos c2,if_pos ⟨MJ c2.1 lo,MI c2.2 lo⟩,NK (Nat.one_le_of_lt c2.1)]
   rw[if_neg c2,if_neg (fun z=>c2 ⟨Nat.lt_of_add_lt_add_left z.1,Nat.le_of_add_le_add_left z.2⟩)]
  refine OV (U1 (Pa ⟨rfl,W.trans ⟨⟨rfl,rfl,rfl,bubble_perm _ _ _⟩,fun j hj=>?_⟩,fun i j ld hj=>?_⟩))
  ·show(UY (OH io) (lo+k) (lo+k-(lo+l)))[j]?=_;rw[UZ hk1 _ (M0 ..),e0,if_neg (by lia),if_neg (by lia)]
  show R rk (UY (OH io) (lo+k) (lo+k-(lo+l))) (lo+i)<=R rk (UY (OH io) (lo+k) (lo+k-(lo+l))) (lo+j);rw[hb,hb];have ss:∀p q,p<=q->q<k->R rk (OH io) (lo+p)<=R rk (OH io) (lo+q):=s1;have hj:j<=k:=NJ hj;have dn:∀{x},l<x->x<=k->x-1<k:=fun a b=>A_ (Nat.sub_one_lt_of_lt a) b;by_cases i1:i<l
  ·rw[if_neg (j' i1),if_neg (fun z=>Nat.lt_asymm z.1 i1)];by_cases j2:j=l
   ·rw[if_pos j2];exact g4 i i1
   rw[if_neg j2];by_cases j1:l<j
   ·rw[if_pos ⟨j1,hj⟩];exact ss i (j-1) (MB (M3 i1 j1)) (dn j1 hj)
   rw[if_neg (fun z=>j1 z.1)];exact ss i j ld (A_ (Mi (Lm j1) j2) g2)
  by_cases i2:i=l
  ·rw[if_pos i2];by_cases j2:j=l
   ·rw[if_pos j2];exact b_ _
   have j1:l<j:=Mi (i2▸ld) (fun z=>j2 z.symm);rw[if_neg j2,if_pos ⟨j1,hj⟩];exact KR (g5 (j-1) (MB j1) (dn j1 hj))
  have i3:l<i:=Mi (Lm i1) (fun z=>i2 z.symm);have j1:=A_ i3 ld;rw[if_neg i2,if_pos ⟨i3,B' ld hj⟩,if_neg (fun z=>Lf _ (z▸j1)),if_pos ⟨j1,hj⟩];exact ss (i-1) (j-1) (Nat.sub_le_sub_right ld 1) (dn j1 hj)
 ·by_cases z:1<=ok
  ·rw[Nat.max_eq_left z]at h2;exact hs i j h1 h2
  have:i=j:=by lia
  subst this;exact b_ _
 rintro c ii ⟨rfl,W,s1⟩;exact Pa (h ii W fun i j h1 h2=>s1 i j h1 (by lia))
end
theorem Ah{l x:Nat}(h:1<=x):l+(x-1)=l+x-1:=(NK h l).symm
theorem Hh{l k:Nat}(h:l<=k):l+(k-l)=k:=Nat.add_sub_cancel' h
theorem JT{l a:Nat}(h:i<a):l+(l+a)-1-(l+i)=l+(a-1-i):=by lia
theorem G7{l x k:Nat}(h0:l<=k)(h:k<l+x):k-l<x:=Nat.sub_lt_left_of_lt_add h0 h
noncomputable def BK(l0 a0 q0:Nat):StateT OW Sem (Option Nat):=do
 let mut n:=a0
 for _ in [a0:q0]do
  let some sm <-U0 (l0+n) (l0+n-1) | return none
  if sm then break
  n:=n+1
 return some n
def tN(l0 a0 q0:Nat):StateT OW Sem (Option Nat):=do
 Q2 l0 (l0+a0)
 BK l0 a0 q0
def nk(l0 a0 q0:Nat):StateT OW Sem (Option Nat):=do
 rule "list.sort.descending-run"
 let mut n:=a0+1
 let mut eq:=0
 for _ in [n:q0]do
  let some sm <-U0 (l0+n) (l0+n-1) | return none
  if sm then
   if eq > 0 then Q2 (l0+n-(eq+1)) (l0+n)
   eq:=0
  else
   let some la <-U0 (l0+n-1) (l0+n) | return none
   if la then break
   eq:=eq+1
  n:=n+1
 if eq > 0 then
  Q2 (l0+n-(eq+1)) (l0+n)
  tN l0 n q0
 else tN l0 n q0
theorem D6(l0 q0:Nat):R1 l0 q0=(do
 let mut n:=1
 for _ in [1:q0]do
  let some sm <-U0 (l0+n) (l0+n-1) | return none
  if sm then break
  n:=n+1
 if n == q0 then return some n
 if n > 1 then
  let some ro <-U0 l0 (l0+n-1) | return none
  if ro then return some n
  Q2 l0 (l0+n)
  nk l0 n q0
 else nk l0 n q0):=rfl
variable {Q:Option Nat->OW->Prop}{a0 l0 q0:Nat}
section
variable{M:Rk}{A:OP}{E:Oy->OB->Prop}{s:OB}{kd:Qd}{rk:O9->Nat}{S:O9->Prop}
theorem iy.snoc (h:iy rk xs lo n)(h1:1<=n)(k:R rk xs (lo+n-1)<=R rk xs (lo+n)):iy rk xs lo (n+1):=fun i j ld hj=>by
 by_cases z:j<n
 ·exact h i j ld z
 have e:j=n:=by lia
 subst e;by_cases w:i=j
 ·subst w;exact b_ _
 have:=h i (j-1) (by lia) (by lia);rw[Ah h1]at this;exact B' this k
theorem BV(L:lg M A E s kd rk S)(hk:kindOf st=kd)(hS:lB S st)(hsz:l0+q0<=(OH st).size)(h1:1<=a0)(h2:a0<=q0)(hs:iy rk (OH st) l0 a0)
  (h:∀n,a0<=n->n<=q0->iy rk (OH st) l0 n->Q (some n) st):wpS M A E s (BK l0 a0 q0) Q st:=by
 unfold BK;dsimp only;refine OV (QY (Qe (I:=fun x c am=>am=st/\c=(none,x)/\iy rk (OH st) l0 x) (Q:=fun c am=>am=st/\∃n,c=(none,n)/\a0<=n/\n<=q0/\iy rk (OH st) l0 n) ?_ ?_ ⟨rfl,rfl,hs⟩) ?_)
 ·rintro x c ii hx1 hx2 ⟨rfl,rfl,s1⟩;dsimp only;refine OV (iI L hk hS (by lia) (by lia) ?_);dsimp only;by_cases w:R rk (OH ii) (l0+x)<R rk (OH ii) (l0+x-1)
  ·rw[decide_eq_true w,if_pos rfl];exact Pa ⟨rfl,x,rfl,hx1,by lia,s1⟩
  rw[decide_eq_false w,if_neg (by simp)];exact Pa ⟨rfl,rfl,s1.snoc (by lia) (by lia)⟩
 ·rintro c ii ⟨rfl,rfl,s1⟩;rw[L' h2]at s1 ⊢;exact⟨rfl,q0,rfl,h2,b_ _,s1⟩
 rintro c ii ⟨rfl,n,rfl,g1,g2,g3⟩;exact Pa (h n g1 g2 g3)
theorem nJ(L:lg M A E s kd rk S)(hk:kindOf st=kd)(hS:lB S st)(hsz:l0+q0<=(OH st).size)(h1:1<=a0)(h2:a0<=q0)(hs:vt rk (OH st) l0 a0)
  (h:∀n am,a0<=n->n<=q0->Within st am l0 q0->iy rk (OH am) l0 n->Q (some n) am):wpS M A E s (tN l0 a0 q0) Q st:=by
 unfold tN;refine OV (Cg (rk:=rk) (lo:=l0) (n:=q0) (b_ _) (by lia) (by lia) fun ii W1 r1=>?_);refine BV L (W1.kp.k.trans hk) (hS.kp W1.kp) (by rw[W1.kp.size];exact hsz) h1 h2 (fun i j ld hj=>?_) fun n g1 g2 g3=>h n ii g1 g2 W1 g3
 have hi:=Lb ld hj;rw[r1,r1,if_pos ⟨NT ..,MJ hi l0⟩,if_pos ⟨NT ..,MJ hj l0⟩,JT hi,JT hj];exact hs (a0-1-j) (a0-1-i) (Nat.sub_le_sub_left ld _) (Lb (M0 _ _) (Oq h1 Om))
theorem pz{Q:Unit->OW->Prop}(hl:lo<=i)(hj:j<=lo+n)(hsz:j<=(OH st).size)(heq:∀k,i<=k->k<j->R rk (OH st) k=R rk (OH st) (j-1))(h:∀am,Within st am lo n->(∀k,R rk (OH am) k=R rk (OH st) k)->Q () am):wpS M A E s (Q2 i j) Q st:=by
 refine Cg (rk:=rk) hl hj hsz fun ii W r1=>h ii W fun k=>?_;rw[r1];split
 ·rename_i z;rw[heq k z.1 z.2,heq (i+j-1-k) (by(clear r1 W h heq hsz hj hl;lia)) (by(clear r1 W h heq hsz hj hl;lia))]
 rfl
theorem vt.snoc (h:vt rk xs lo n)(h1:1<=n)(k:R rk xs (lo+n)<=R rk xs (lo+n-1)):vt rk xs lo (n+1):=fun i j ld hj=>by
 by_cases z:j<n
 ·exact h i j ld z
 have e:j=n:=by lia
 subst e;by_cases w:i=j
 ·subst w;exact b_ _
 have:=h i (j-1) (by lia) (by lia);rw[show lo+(j-1)=lo+j-1 by lia]at this;exact B' k this
theorem qW(L:lg M A E s kd rk S)(hk:kindOf st=kd)(hS:lB S st)(hsz:l0+q0<=(OH st).size)(h2:a0+1<=q0)(hs:vt rk (OH st) l0 (a0+1))(hr:∀x,OE M A (rule x) (fun _ s'=>s'=s) E s)
  (h:∀n am,1<=n->n<=q0->Within st am l0 q0->iy rk (OH am) l0 n->Q (some n) am):wpS M A E s (nk l0 a0 q0) Q st:=by
 unfold nk;refine OV (Tv (O4 (hr _) (fun _ _ z=>⟨z,?_⟩) fun _ _ z=>z));dsimp only;refine OV (QY (Qe (I:=fun x c am=>∃eq,c=(none,x,eq)/\Within st am l0 q0/\vt rk (OH am) l0 x/\eq+1<=x/\∀k,x-1-eq<=k->k<x->R rk (OH am) (l0+k)=R rk (OH am) (l0+(x-1)))
  (Q:=fun c am=>∃n eq,c=(none,n,eq)/\a0+1<=n/\n<=q0/\Within st am l0 q0/\vt rk (OH am) l0 n/\eq+1<=n/\∀k,n-1-eq<=k->k<n->R rk (OH am) (l0+k)=R rk (OH am) (l0+(n-1))) ?_ ?_ ⟨0,rfl,.gy,hs,by lia,fun k h1 h2=>by rw[show k=a0+1-1 by lia]⟩) ?_)
 ·rintro x c ii hx1 hx2 ⟨eq,rfl,W,d1,e1,ev⟩;dsimp only;have hk1:=W.kp.k.trans hk;have hS1:=hS.kp W.kp;have sz1:=W.kp.size;have x1:1<=x:=B' (N0 1 eq) e1;have b1:l0+x<(OH ii).size:=by lia
  have b2:l0+x-1<(OH ii).size:=Lb (M0 ..) b1;refine OV (iI L hk1 hS1 b1 b2 ?_);dsimp only;by_cases w:R rk (OH ii) (l0+x)<R rk (OH ii) (l0+x-1)
  ·rw[decide_eq_true w,if_pos rfl];have fin:∀io,Within st io l0 q0->(∀k,R rk (OH io) k=R rk (OH ii) k)->∃eq',((none,x+1,0):Option (Option Nat)×Nat×Nat)=(none,x+1,eq')/\Within st io l0 q0/\vt rk (OH io) l0 (x+1)/\eq'+1<=x+1/\∀k,x+1-1-eq'<=k->k<x+1->R rk (OH io) (l0+k)=R rk (OH io) (l0+(x+1-1)):=fun io W2 r2=>by refine⟨0,rfl,W2,fun i j ld hj=>?_,by lia,fun k h1 h2=>by rw[show k=x+1-1 by lia]⟩;rw[r2,r2];exact d1.snoc x1 (KR w) i j ld hj
   by_cases z:eq > 0
   ·rw[if_pos z];refine OV (pz (rk:=rk) (lo:=l0) (n:=q0) (by lia) (by lia) (by lia) (fun k h1 h2=>?_) fun io W2 r2=>Pa (fin io (W.trans W2) r2));have k0:l0<=k:=by lia
    have:=ev (k-l0) (by lia) (G7 k0 h2);rw[Hh k0,Ah x1]at this;exact this
   rw[if_neg z];exact Pa (fin ii W fun _=>rfl)
  rw[decide_eq_false w,if_neg (by simp)];refine OV (iI L hk1 hS1 b2 b1 ?_);dsimp only;by_cases v:R rk (OH ii) (l0+x-1)<R rk (OH ii) (l0+x)
  ·rw[decide_eq_true v,if_pos rfl];exact Pa ⟨x,eq,rfl,hx1,by lia,W,d1,e1,ev⟩
  rw[decide_eq_false v,if_neg (by simp)];have ee:R rk (OH ii) (l0+x)=R rk (OH ii) (l0+x-1):=Me (Lm v) (Lm w);refine Pa ⟨eq+1,rfl,W,d1.snoc x1 (M4 ee),by lia,fun k h1 h2=>?_⟩;rw[show l0+(x+1-1)=l0+x by lia];by_cases y:k=x
  ·rw[y]
  have:=ev k (by lia) (by lia);rw[Ah x1]at this;exact this.trans ee.symm
 ·rintro c ii ⟨eq,rfl,W,d1,e1,ev⟩;rw[L' h2]at d1 e1 ev ⊢;exact⟨q0,eq,rfl,h2,b_ _,W,d1,e1,ev⟩
 rintro c ii ⟨n,eq,rfl,g1,g2,W,d1,e1,ev⟩;have sz1:=W.kp.size;dsimp only;by_cases z:eq > 0
 ·rw[if_pos z];refine OV (pz (rk:=rk) (lo:=l0) (n:=q0) (by lia) (by lia) (by lia) (fun k h1 h2=>?_) fun io W2 r2=>?_)
  ·have k0:l0<=k:=by lia
   have:=ev (k-l0) (by lia) (G7 k0 h2);rw[Hh k0,Ah (B' (N0 1 eq) e1)]at this;exact this
  refine nJ L ((W.trans W2).kp.k.trans hk) (hS.kp (W.trans W2).kp) (by rw[(W.trans W2).kp.size];exact hsz) (by lia) g2 (fun i j ld hj=>by rw[r2,r2];exact d1 i j ld hj) fun m jp k1 k2 W3 s3=>h m jp (by lia) k2 ((W.trans W2).trans W3) s3
 rw[if_neg z];exact nJ L (W.kp.k.trans hk) (hS.kp W.kp) (by rw[sz1];exact hsz) (by lia) g2 d1 fun m jp k1 k2 W3 s3=>h m jp (by lia) k2 (W.trans W3) s3
theorem vD(L:lg M A E s kd rk S)(hk:kindOf st=kd)(hS:lB S st)(hsz:l0+q0<=(OH st).size)(h1:1<=q0)(hr:∀x,OE M A (rule x) (fun _ s'=>s'=s) E s)
  (h:∀n am,1<=n->n<=q0->Within st am l0 q0->iy rk (OH am) l0 n->Q (some n) am):wpS M A E s (R1 l0 q0) Q st:=by
 rw[D6];dsimp only;refine OV (QY (Qe (I:=fun x c am=>am=st/\c=(none,x)/\iy rk (OH st) l0 x) (Q:=fun c am=>am=st/\∃n,c=(none,n)/\1<=n/\n<=q0/\iy rk (OH st) l0 n/\(n=q0\/R rk (OH st) (l0+n)<R rk (OH st) (l0+n-1))) ?_ ?_ ⟨rfl,rfl,fun i j h1 h2=>by rw[show i=j by lia];exact b_ _⟩) ?_)
 ·rintro x c ii hx1 hx2 ⟨rfl,rfl,s1⟩;dsimp only;refine OV (iI L hk hS (by lia) (by lia) ?_);dsimp only;by_cases w:R rk (OH ii) (l0+x)<R rk (OH ii) (l0+x-1)
  ·rw[decide_eq_true w,if_pos rfl];exact Pa ⟨rfl,x,rfl,hx1,by lia,s1,.inr w⟩
  rw[decide_eq_false w,if_neg (by simp)];exact Pa ⟨rfl,rfl,s1.snoc (by(clear w s1 h hsz hS hk hx2 hr h1 L;omega)) (by lia)⟩
 ·rintro c ii ⟨rfl,rfl,s1⟩;rw[L' h1]at s1 ⊢;exact⟨rfl,q0,rfl,h1,b_ _,s1,.inl rfl⟩
 rintro c ii ⟨rfl,n,rfl,g1,g2,g3,g4⟩;dsimp only;by_cases e:n=q0
 ·rw[if_pos (by rw[e];exact beq_self_eq_true _)];exact Pa (h n ii g1 g2 .gy g3)
 rw[if_neg (by simpa using e)];have lt:=g4.resolve_left e;by_cases z:n > 1
 ·rw[if_pos z];refine OV (iI L hk hS (by lia) (by(clear lt e g4 g3 g1 h hS hk hr h1 L;lia)) ?_);dsimp only;by_cases w:R rk (OH ii) l0<R rk (OH ii) (l0+n-1)
  ·rw[decide_eq_true w,if_pos rfl];exact Pa (h n ii g1 g2 .gy g3)
  rw[decide_eq_false w,if_neg (by simp)];have all:∀k,l0<=k->k<l0+n->R rk (OH ii) k=R rk (OH ii) (l0+n-1):=fun k h1 h2=>by have kn:=G7 h1 h2;have a:=g3 0 (k-l0) (F' _) kn;have b:=g3 (k-l0) (n-1) (MB kn) (Oq g1 Om);rw[Hh h1]at a b;rw[Ah g1]at b;rw[N_]at a;exact Me b (B' (Lm w) a)
  refine OV (pz (rk:=rk) (lo:=l0) (n:=q0) (b_ _) (by(clear all w z lt e g4 g3 g1 h hsz hS hk hr h1 L;lia)) (by(clear all w z lt e g4 g3 g1 h hS hk hr h1 L;lia)) all fun io W2 r2=>?_);refine qW L (W2.kp.k.trans hk) (hS.kp W2.kp) (by rw[W2.kp.size];exact hsz) (by lia) (fun i j ld hj=>?_) hr fun m jp k1 k2 W3 s3=>h m jp k1 k2 (W2.trans W3) s3
  rw[r2,r2];by_cases y:j<n
  ·rw[all (l0+i) (by lia) (by lia),all (l0+j) (by lia) (by(clear hj ld r2 W2 all w z lt e g4 g3 g2 g1 h hsz hS hk hr h1 L;lia))];exact b_ _
  rw[show j=n by lia];by_cases y2:i<n
  ·rw[all (l0+i) (by lia) (by(clear y hj ld r2 W2 all w z lt e g4 g3 g2 g1 h hsz hS hk hr h1 L;lia))];exact KR lt
  rw[show i=n by(clear y r2 W2 all w z lt e g4 g3 g2 g1 h hsz hS hk hr h1 L;lia)];exact b_ _
 rw[if_neg z];have n1:n=1:=by lia
 subst n1;refine qW L hk hS hsz (by lia) (fun i j ld hj=>?_) hr fun m jp k1 k2 W3 s3=>h m jp k1 k2 W3 s3
 by_cases y:i=j
 ·rw[y];exact b_ _
 rw[show i=0 by lia,show j=1 by lia];exact KR lt
end
section
variable{rk:O9->Nat}
theorem Fz{p:O9}(h:xs.toList[i]?=some p):R rk xs i=rk p:=by unfold R;rw[<-r_,h]
theorem C0(h:iy rk xs lo n):Srt rk ((xs.toList.drop lo).take n):=by
 refine LJ.mpr fun i j hi hj ld=>?_;have hj':j<n:=by rw[B_]at hj;lia
 have ei:=e_ hi;have ej:=e_ hj;rw[List.getElem?_take,if_pos (by lia),List.getElem?_drop]at ei ej;have:=h i j (by lia) hj';rw[Fz ei,Fz ej]at this;exact this
end
abbrev CS:=Option Unit×Unit
abbrev LS:=Option Unit×Nat
noncomputable def yw(w0:Nat):StateT OW Sem (ForInStep CS):=do
 let g <-get
 match(if(Pb g).size > 1 then(Pb g)[(Pb g).size-2]? else none)with
 |some (_,_,old)=>
  if old<=w0 then pure (Qb (none,()))
  else do
   let b <-mergeAt' ((Pb g).size-2)
   if(!b)=true then pure (Qb (some (),()))else pure (PJ (none,()))
 | _=>pure (Qb (none,()))
noncomputable def u0(q0 n:Nat):StateT OW Sem (ForInStep LS):=do
 modify fun z=>setPending z ((Pb z).push (q0,n,0))
 pure (PJ (none,q0+n))
def tl(sz q0 n:Nat):StateT OW Sem (ForInStep LS):=do
 let g <-get
 match(Pb g).back? with
 |some (s1,n1,_)=>do
  let c <-forIn [0:sz] ((none,()):CS) fun _ _=>yw (power' sz (2*s1+n1) (2*s1+n1+n1+n) sz)
  match c.1 with
  |some r=>pure (Qb (some r,q0))
  |none=>do
   modify fun z=>setPending z ((Pb z).modify ((Pb z).size-1) fun x=>(x.1,x.2.1,power' sz (2*s1+n1) (2*s1+n1+n1+n) sz))
   u0 q0 n
 | _=>u0 q0 n
def mI(sz q0:Nat):StateT OW Sem (ForInStep LS):=
 if q0>=sz then pure (Qb (none,q0))else do
  let f <-R1 q0 (sz-q0)
  match f with
  |some n=>
   if n<Tc sz sz 0 then do
    rule "list.sort.binary-insertion"
    let b <-Wj q0 (min (sz-q0) (Tc sz sz 0)) n
    if(!b)=true then pure (Qb (some (),q0))else tl sz q0 (min (sz-q0) (Tc sz sz 0))
   else tl sz q0 n
  | _=>pure (Qb (some (),q0))
noncomputable def pick(ps:Array (Nat×Nat×Nat)):Nat:=
 if Option.any (fun x=>decide (x<ps[ps.size-2+1]?.elim 0 fun y=>y.2.1)) (if ps.size-2 > 0 then Ma (fun y=>y.2.1) ps[ps.size-2-1]? else none)=true then ps.size-2-1 else ps.size-2
def y8:StateT OW Sem (ForInStep CS):=do
 let g <-get
 if(Pb g).size<=1 then pure (Qb (none,()))
 else do
  let b <-mergeAt' (pick (Pb g))
  if(!b)=true then pure (Qb (some (),()))else pure (PJ (none,()))
theorem Jb:sortRuns'=(do
 let g <-get
 let c <-forIn [0:(OH g).size] ((none,0):LS) fun _ c=>mI (OH g).size c.2
 match c.1 with
 |some r=>pure r
 |none=>do
  let d <-forIn [0:(OH g).size] ((none,()):CS) fun _ _=>y8
  match d.1 with
  |some r=>pure r
  |none=>pure ()):=by
 rw[sortRuns'_eq];dsimp only;refine congrArg (bind get) (funext fun g=>?_);refine congr (congrArg bind ?_) (funext fun c=>?_)
 ·refine congrArg (forIn _ _) (funext fun _=>funext fun c=>?_);unfold mI;refine ite_congr rfl (fun _=>rfl) (fun _=>?_);refine congrArg (bind _) (funext fun f=>?_);cases f with
  |none=>rfl
  |some n=>
   dsimp only;refine ite_congr rfl (fun _=>congrArg (bind _) (funext fun _=>congrArg (bind _) (funext fun b=>ite_congr rfl (fun _=>rfl) (fun _=>?_)))) (fun _=>?_)
   all_goals
    unfold tl;refine congrArg (bind _) (funext fun g=>?_);generalize (Pb g).back?=bk;rcases bk with _|⟨s1,n1,z⟩
    ·rfl
    dsimp only;refine congr (congrArg bind ?_) (funext fun c=>?_)
    ·refine congrArg (forIn _ _) (funext fun _=>funext fun c=>?_);unfold yw;refine congrArg (bind _) (funext fun g=>?_);generalize (if(Pb g).size > 1 then(Pb g)[(Pb g).size-2]? else none)=o;rcases o with _|⟨_,_,_⟩ <;> rfl
    rcases c with⟨_ | _,_⟩ <;> rfl
 rcases c with⟨_ | _,_⟩
 ·dsimp only;refine congr (congrArg bind ?_) (funext fun c=>?_)
  ·rfl
  rcases c with⟨_ | _,_⟩ <;> rfl
 rfl
section
variable{κ:Type}{lt:κ->κ->Bool}
noncomputable def rnk(lt:κ->κ->Bool)(ks:List κ)(k:κ):Nat:=ks.countP fun y=>lt y k
theorem count_le{p q:κ->Bool}:∀{l:List κ},(∀x∈l,p x=true->q x=true)->l.countP p<=l.countP q
 | [],_=>b_ _
 |x::t,h=>by
  have ih:=count_le (l:=t) fun y hy=>h y (.tail _ hy);have hx:=h x (.head _);rw[Mt,Mt];cases e:p x
  ·rw[if_neg (by simp)];lia
  rw[hx e,if_pos rfl];lia
theorem uJ{p q:κ->Bool}:∀{l:List κ}{z:κ},(∀x∈l,p x=true->q x=true)->z∈l->p z=false->q z=true->l.countP p<l.countP q
 |x::t,z,h,hz,h1,h2=>by
  have ih:=count_le (l:=t) fun y hy=>h y (.tail _ hy);have hx:=h x (.head _);rw[Mt,Mt];rcases h_.mp hz with e|e
  ·subst e;rw[h1,h2,if_neg (by simp),if_pos rfl];lia
  have:=uJ (l:=t) (fun y hy=>h y (.tail _ hy)) e h1 h2;cases e:p x
  ·rw[if_neg (by simp)];lia
  rw[hx e,if_pos rfl];lia
structure Tot (lt:κ->κ->Bool):Prop where
 irr:∀a,lt a a=false
 tr:∀a b c,lt a b=true->lt b c=true->lt a c=true
 tot:∀a b,lt a b=false->lt b a=false->a=b
theorem H0(T:Tot lt){ks:List κ}{a b:κ}(h:lt b a=false):rnk lt ks a<=rnk lt ks b:=by
 refine count_le fun y _ hy=>?_;cases e:lt a b
 ·rw[<-T.tot a b e h];exact hy
 exact T.tr _ _ _ hy e
theorem mW(T:Tot lt){ks:List κ}{a b:κ}(ha:a∈ks)(h:lt a b=true):rnk lt ks a<rnk lt ks b:=uJ (fun y _ hy=>T.tr _ _ _ hy h) ha (T.irr a) h
theorem yJ(T:Tot lt){ks:List κ}{a b:κ}(ha:a∈ks):decide (rnk lt ks a<rnk lt ks b)=lt a b:=by
 cases e:lt a b
 ·exact decide_eq_false (MC.mpr (H0 T e))
 exact decide_eq_true (mW T ha e)
end
noncomputable def ltL:List Int->List Int->Bool
 | _,[]=>false
 | [],_::_=>true
 |a::x,b::y=>if a=b then ltL x y else decide (a<b)
theorem yC:∀x,ltL x x=false
 | []=>rfl
 |a::x=>by rw[ltL,if_pos rfl];exact yC x
theorem Bs:∀a b c,ltL a b=true->ltL b c=true->ltL a c=true
 | _,[],_,h,_=>by simp[ltL]at h
 | _,_::_,[],_,h=>by simp[ltL]at h
 | [],_::_,_::_,_,_=>rfl
 |a::x,b::y,c::z,h,g=>by
  rw[ltL]at h g ⊢;by_cases e1:a=b
  ·subst e1;rw[if_pos rfl]at h;by_cases e2:a=c
   ·subst e2;rw[if_pos rfl]at g ⊢;exact Bs x y z h g
   rw[if_neg e2]at g ⊢;exact g
  rw[if_neg e1]at h;have h:=of_decide_eq_true h;by_cases e2:b=c
  ·subst e2;rw[if_neg e1];exact decide_eq_true h
  rw[if_neg e2]at g;have g:=of_decide_eq_true g;rw[if_neg (by lia)];exact decide_eq_true (by lia)
theorem yk:∀a b,ltL a b=false->ltL b a=false->a=b
 | [],[],_,_=>rfl
 | [],_::_,h,_=>by simp[ltL]at h
 | _::_,[],_,h=>by simp[ltL]at h
 |a::x,b::y,h,g=>by
  rw[ltL]at h g;by_cases e:a=b
  ·subst e;rw[if_pos rfl]at h g;rw[yk x y h g]
  rw[if_neg e]at h;rw[if_neg (fun z=>e z.symm)]at g;have h:=of_decide_eq_false h;have g:=of_decide_eq_false g;lia
theorem qD:Tot ltL:=⟨yC,Bs,yk⟩
noncomputable def jJ:Oy->Int
 | .int i _=>i
 | _=>0
def ju(h:OM):Oy->List Int
 | .ref a=>match h.get? a with
  |some o=>match o.data with
   | .seq xs _=>xs.toList.map jJ
   | _=>[]
  |none=>[]
 | _=>[]
noncomputable def AllInt(l:List Oy):Prop:=∀v∈l,∃i t,v=.int i t
def DY(h:OM)(v:Oy):Prop:=∃a o xs n,v=.ref a/\h.get? a=some o/\o.cls=.type "tuple"/\o.data=.seq xs n/\AllInt xs.toList/\0<xs.size
theorem si{h:OM}{a:Oz}{o:Obj}{xs:Array Oy}(e:h.get? a=some o)(d:o.data=.seq xs n):ju h (.ref a)=xs.toList.map jJ:=by unfold ju;dsimp only;rw[e];dsimp only;rw[d]
section
variable{prog:OI}{w:OK}{A:OP}{E:Oy->OB->Prop}{s:OB}
theorem yh{Q:Bool->OB->Prop}{fin:Bool}:∀(xs ys:List Oy) (i:Nat),AllInt xs->AllInt ys->fin=decide (xs.length<ys.length)->Q (ltL (xs.map jJ) (ys.map jJ)) s->PySem.W.KatLex prog w A true fin Q (xs.zip ys) i s
 | [],[],i,_,_,e,q=>by subst e;exact SU q
 | [],b::y,i,_,_,e,q=>by subst e;exact SU q
 |a::x,[],i,_,_,e,q=>by subst e;exact SU q
 |a::x,b::y,i,ha,hb,e,q=>by
  obtain⟨n,t,rfl⟩:=ha a (.head _);obtain⟨m,u,rfl⟩:=hb b (.head _);rw[c_,c_,ltL]at q;refine PySem.W.kat_cons (Ut ?_);by_cases z:n=m
  ·have q:Q (ltL (x.map jJ) (y.map jJ)) s:=by rw[if_pos (show jJ (.int n t)=jJ (.int m u)from z)]at q;exact q
   rw[show(n == m)=true by simpa using z];refine PySem.W.kat_yes (yh x y (i+1) (fun v hv=>ha v (.tail _ hv)) (fun v hv=>hb v (.tail _ hv)) ?_ q);rw[e,g_,g_];exact decide_eq_decide.mpr (by lia)
  have q:Q (decide (n<m)) s:=by rw[if_neg (show ¬jJ (.int n t)=jJ (.int m u)from z)]at q;exact q
  rw[show(n == m)=false by simpa using z];refine PySem.W.kat_no ?_;cases (true&&i == 0)
  ·exact PySem.W.kat_one _ _ (lt_int q)
  exact oneLt_int q
theorem uG{h0:OM}{ks:List (List Int)}{S:O9->Prop}(hS:∀x,S x->DY h0 x.1/\ju h0 x.1∈ks)(hk:∀b o,h0.get? b=some o->(∃x n,o.cls=.type "tuple"/\o.data=.seq x n)->s.heap.get? b=some o) :
  lg (OJ prog w) A E s (Vl true) (fun x=>rnk ltL ks (ju h0 x.1)) S:=by
 intro x y st Q sx sy kd q;obtain⟨⟨a,oa,xs,na,ea,ga,ca,da,ia,_⟩,ma⟩:=hS x sx;obtain⟨⟨b,ob,ys,nb,eb,gb,cb,db,ib,_⟩,mb⟩:=hS y sy;rw[lt'_eq];refine OV (Tb ?_);rw[kd,ea,eb];refine OV (Tv (P7 (PySem.W.kat_lt (hk _ _ ga ⟨_,_,ca,da⟩) da (hk _ _ gb ⟨_,_,cb,db⟩) db (yh _ _ 0 ia ib (by rw[l_,l_]) ⟨rfl,?_⟩))));refine Pa ?_;dsimp only at q;rw[yJ qD ma,ea,eb,si ga da,si gb db]at q;exact q
theorem vi{M:Rk}{h0:OM}{vs:List Oy}{Q:Qd->OB->Prop}(hv:∀v∈vs,DY h0 v)(hk:∀b o,h0.get? b=some o->(∃x n,o.cls=.type "tuple"/\o.data=.seq x n)->s.heap.get? b=some o)(kw:vs≠[])(q:Q (Vl true) s):OE M A (Sw vs.toArray) Q E s:=by
 have mk:∀(l:List Oy),(∀v∈l,DY h0 v)->∃fs,PySem.W.KatTups s.heap l fs/\AllInt fs/\fs.length=l.length:=by
  intro l;induction l with
  |nil=>exact fun _=>⟨[],WI,fun v hv=>(nomatch hv),rfl⟩
  |cons v r ih=>
   intro hl;obtain⟨fs,k1,k2,k3⟩:=ih fun v hv=>hl v (.tail _ hv);obtain⟨a,o,xs,n,rfl,g,c,d,i,z⟩:=hl v (.head _);obtain⟨f,hf⟩:∃f,xs[0]?=some f:=⟨_,k_ z⟩;refine⟨f::fs,Wy (hk _ _ g ⟨_,_,c,d⟩) c d hf k1,fun v hv=>?_,by rw[g_,g_,k3]⟩;rcases h_.mp hv with e|e
   ·subst e;rw[<-r_]at hf;exact i _ (H_ hf)
   exact k2 v e
 obtain⟨fs,k1,k2,k3⟩:=mk vs hv;refine PySem.W.kat_kind (T:=.type "int") k1 ?_ (fun v hv=>?_) rfl q
 ·rw[k3];exact MK.mpr kw
 obtain⟨i,t,rfl⟩:=k2 v hv;exact .now
theorem kD(vs:List Oy):(vs.toArray.zip vs.toArray).toList=vs.map fun v=>(v,v):=by
 rw[Array.toList_zip];induction vs with
 |nil=>rfl
 |cons v r ih=>exact congrArg ((v,v)::·) ih
end
theorem yO:∀(f n r:Nat),Tc f n r<=n+r
 |0,n,r=>b_ _
 |f+1,n,r=>by
  rw[VY];split
  ·exact b_ _
  have:=yO f (n/2) (max r (n%2));lia
section
variable{M:Rk}{A:OP}{E:Oy->OB->Prop}{s:OB}{kd:Qd}{rk:O9->Nat}{S:O9->Prop}
theorem u9(L:lg M A E s kd rk S)(hk:kindOf st=kd)(hS:lB S st)(hsz:l0+q0<=(OH st).size)(h1:1<=q0)(o:iy rk (OH st) l0 q0)(h:Q (some q0) st):wpS M A E s (R1 l0 q0) Q st:=by
 rw[D6];dsimp only;refine OV (QY (Qe (I:=fun x c am=>am=st/\c=(none,x)) (Q:=fun c am=>am=st/\c=(none,q0)) ?_ ?_ ⟨rfl,rfl⟩) ?_)
 ·rintro x c ii hx1 hx2 ⟨rfl,rfl⟩;dsimp only;refine OV (iI L hk hS (by lia) (by lia) ?_);dsimp only;have:=o (x-1) x (M0 ..) hx2;rw[Ah hx1]at this;rw[decide_eq_false (MC.mpr this),if_neg (by simp)];exact Pa ⟨rfl,rfl⟩
 ·rintro c ii ⟨rfl,rfl⟩;rw[L' h1];exact⟨rfl,rfl⟩
 rintro c ii ⟨rfl,rfl⟩;dsimp only;rw[if_pos (beq_self_eq_true _)];exact Pa h
end
end ZS
namespace L2
open PySem PySem.Spec PyProof.Rows
variable {us:List Oy}{xs:List V}
section
variable{X:Cx}
theorem Aj(h:Vals xs us):∀n,Vals (xs.take n) (us.take n):=by
 induction h with
 |nil=>intro n;rw[Nv,Nv];exact .nil
 |cons r _ ih=>
  intro n;cases n with
  |zero=>exact .nil
  |succ n=>exact .cons r (ih n)
theorem Ad(h:Vals xs us):∀n,Vals (xs.drop n) (us.drop n):=by
 induction h with
 |nil=>intro n;rw[N7,N7];exact .nil
 |cons r t ih=>
  intro n;cases n with
  |zero=>exact .cons r t
  |succ n=>exact ih n
theorem C2{a:List V}{b:List Oy}{c:List V}{d:List Oy}(p:Vals a b)(q:Vals c d):Vals (a++c) (b++d):=by
 induction p with
 |nil=>exact q
 |cons r _ ih=>exact .cons r ih
theorem xg:MtM X "list.insert" (fun x vs H Q=>∃l xs i y,x=.ref l/\vs=[.int i,y]/\H l=some (.lst xs)/\0<=i/\i<=(xs.length:Int)/\xs.length<2 ^ 20/\∀H',Put H l (.lst (xs.take i.toNat++y::xs.drop i.toNat)) H'->Q .non H'):=by
 intro ac s σ H x vs v us Q I rx rv h;obtain⟨l,xs,i,y,rfl,rfl,hH,h0,h1,hz,q⟩:=h;cases rx;cases rv with
 |cons r1 rr=>
  cases rr with
  |cons r2 rr=>
   cases rr;obtain⟨t,rfl⟩:=r1;rename_i uy;obtain⟨z,be,n,r,hl,e⟩:=I.x4 hH;have hlen:=r.length;refine QU F.slot_list_insert ⟨_,e,rfl⟩ F.entry_list_insert (F.args_list_insert_3 _ _ _) (T_ l be.toArray n i t uy ?_ (by rw[i_];lia)) ⟨e,?_⟩
   ·unfold R8;simp;lia
   refine⟨.non,_,I.CH (its':=be.take i.toNat++uy::be.drop i.toNat) hH e ?_ (C2 (Aj r _) (.cons r2 (Ad r _))) ?_,rfl,q _ Put.up⟩
   ·have ek:(if i<0 then(i+(be.toArray.size:Int)).toNat else min i.toNat be.toArray.size)=i.toNat:=by rw[if_neg (by lia),i_];lia
    show((be.toArray.extract 0 (if i<0 then(i+(be.toArray.size:Int)).toNat else min i.toNat be.toArray.size)).push uy++be.toArray.extract (if i<0 then(i+(be.toArray.size:Int)).toNat else min i.toNat be.toArray.size))=_;rw[ek];apply Array.ext';simp[List.extract_eq_drop_take,Mq]
   rw[gV,g_,B_,KU];show _<=2 ^ 24;lia
end
end L2
namespace PL
open PySem L2
inductive T where
 |any|hole (w:V)|bare|kp (G:Hp)
 |non|bl (b:Bool)|int (i:Int)|str (x:Str)|ty (n:String)
 |tup (ts:List T)|cst (ts:List T)
 |lst (o:Bool) (ts:List T)
 |dK (o:Bool) (kvs:List (Key×T))
 |dT (o:Bool) (kvs:List (List Key×T))
mutual
noncomputable def er:T->T
 | .tup ts=>.tup (erL ts)
 | .cst ts=>.cst (erL ts)
 | .lst _ ts=>.lst false (erL ts)
 | .dK _ kvs=>.dK false (erK kvs)
 | .dT _ kvs=>.dT false (erT kvs)
 | .bare=>.any
 |t=>t
noncomputable def erL:List T->List T
 | []=>[]
 |t::r=>er t::erL r
noncomputable def erK:List (Key×T)->List (Key×T)
 | []=>[]
 | (k,t)::r=>(k,er t)::erK r
noncomputable def erT:List (List Key×T)->List (List Key×T)
 | []=>[]
 | (k,t)::r=>(k,er t)::erT r
end
mutual
noncomputable def aU:T->Bool
 | .tup ts=>bK ts
 | .cst ts=>bK ts
 | .lst o ts=>!o&&bK ts
 | .dK o kvs=>!o&&tX kvs
 | .dT o kvs=>!o&&ik kvs
 | .bare=>false
 | _=>true
noncomputable def bK:List T->Bool
 | []=>true
 |t::r=>aU t&&bK r
noncomputable def tX:List (Key×T)->Bool
 | []=>true
 | (_,t)::r=>aU t&&tX r
noncomputable def ik:List (List Key×T)->Bool
 | []=>true
 | (_,t)::r=>aU t&&ik r
end
mutual
noncomputable def dy:T->Bool
 | .tup ts=>cL ts
 | .cst ts=>cL ts
 | .lst o ts=>o&&cL ts
 | .dK o kvs=>o&&qv kvs
 | .dT o kvs=>o&&jT kvs
 | .kp _=>false
 | _=>true
noncomputable def cL:List T->Bool
 | []=>true
 |t::r=>dy t&&cL r
noncomputable def qv:List (Key×T)->Bool
 | []=>true
 | (_,t)::r=>dy t&&qv r
noncomputable def jT:List (List Key×T)->Bool
 | []=>true
 | (_,t)::r=>dy t&&jT r
end
theorem cF{α:Type}(g:α->T):∀l:List α,erL (l.map g)=l.map fun x=>er (g x)
 | []=>rfl
 |x::r=>by rw[c_,erL,cF g r,c_]
theorem pw:∀l:List T,erL l=l.map er
 | []=>rfl
 |x::r=>by rw[erL,pw r,c_]
theorem oI(l:List T):(erL l).length=l.length:=by rw[pw,a_]
theorem fC(l m:List T):erL (l++m)=erL l++erL m:=by rw[pw,pw,pw,q_]
theorem pY:∀l:List T,bK l=l.all aU
 | []=>rfl
 |x::r=>by rw[bK,pY r,Md]
theorem jt:∀l:List T,cL l=l.all dy
 | []=>rfl
 |x::r=>by rw[cL,jt r,Md]
mutual
theorem aL:∀t:T,aU (er t)=true
 | .tup ts=>by rw[er,aU,kJ ts]
 | .cst ts=>by rw[er,aU,kJ ts]
 | .lst _ ts=>by rw[er,aU,kJ ts];rfl
 | .dK _ ts=>by rw[er,aU,rg ts];rfl
 | .dT _ ts=>by rw[er,aU,rC ts];rfl
 | .bare=>rfl
 | .any=>rfl
 | .hole _=>rfl
 | .kp _=>rfl
 | .non=>rfl
 | .bl _=>rfl
 | .int _=>rfl
 | .str _=>rfl
 | .ty _=>rfl
theorem kJ:∀t:List T,bK (erL t)=true
 | []=>rfl
 |t::r=>by rw[erL,bK,aL t,kJ r];rfl
theorem rg:∀t:List (Key×T),tX (erK t)=true
 | []=>rfl
 | (_,t)::r=>by rw[erK,tX,aL t,rg r];rfl
theorem rC:∀t:List (List Key×T),ik (erT t)=true
 | []=>rfl
 | (_,t)::r=>by rw[erT,ik,aL t,rC r];rfl
end
def Gr(G H:Hp):Prop:=∀b u,Rd G b u->Rd H b u
variable {H:Hp}
theorem Gr.gy :Gr H H:=fun _ _ h=>h
variable {G:Hp}
theorem Gr.trans {J:Hp}(a:Gr G H)(b:Gr H J):Gr G J:=fun c u h=>b c u (a c u h)
theorem Gr.of (h:dm G H):Gr G H:=fun b u r=>by
 rcases r with r|⟨o,r⟩
 ·exact .inl (h _ _ r)
 exact .inr ⟨o,h _ _ r⟩
theorem Rd.some {H:Hp}{a:Oz}{u:HO}(h:Rd H a u):∃w,H a=some w:=by
 rcases h with h|⟨o,h⟩
 ·exact⟨_,h⟩
 exact⟨_,h⟩
theorem Gr.none {G H:Hp}(h:Gr G H){a:Oz}(e:H a=none):G a=none:=by
 cases q:G a with
 |none=>rfl
 |some u=>
  obtain⟨w,z⟩:=Rd.some (h a u (.inl q));rw[e]at z;cases z
noncomputable def TK(H H':Hp):Prop:=∀b xs,H b=some (.tup xs)->H' b=some (.tup xs)
theorem dm.tk (h:dm G H):TK G H:=fun b xs r=>h _ _ r
variable {H':Hp}{a:Oz}
theorem Put.tk {o:HO}(p:Put H a o H')(ht:∀xs,H a≠some (.tup xs)):TK H H':=fun b xs r=>by have hb:b≠a:=fun z=>ht xs (z▸r);rw[p.else_ b hb];exact r
section
variable(K:OA)(Hz H:Hp)
mutual
inductive RepT:T->V->List Oz->Prop
 |any {v:V}:RepT .any v []
 |hole {w:V}:RepT (.hole w) w []
 |bare {a:Oz}{u:HO} (h:H a=some u) (ht:∀xs,H a≠some (.tup xs)):RepT .bare (.ref a) [a]
 |kp {G:Hp}{v:V} (h:Gr G Hz):RepT (.kp G) v []
 |non:RepT .non .non []
 |bl {b:Bool}:RepT (.bl b) (.bl b) []
 |int {i:Int}:RepT (.int i) (.int i) []
 |str {x:Str}:RepT (.str x) (.str x) []
 |ty {n:String}:RepT (.ty n) (.ty n) []
 |tup {a:Oz}{ts:List T}{vs:List V}{L:List Oz} (h:H a=some (.tup vs)) (c:RepTs ts vs L):RepT (.tup ts) (.ref a) L
 |cst {a:Oz}{ts:List T}{vs:List V} (h:SqT K (fun _=>none) a vs) (c:RepTs ts vs []):RepT (.cst ts) (.ref a) []
 |lstO {a:Oz}{ts:List T}{vs:List V}{L:List Oz} (h:H a=some (.lst vs)) (c:RepTs ts vs L):RepT (.lst true ts) (.ref a) (a::L)
 |lstZ {a:Oz}{ts:List T}{vs:List V} (h:Rd Hz a (.lst vs)) (c:RepTs ts vs []):RepT (.lst false ts) (.ref a) []
 |dKO {a:Oz}{ts:List (Key×T)}{vs:List (Key×V)}{L:List Oz} (h:H a=some (.dK vs)) (c:RepKs ts vs L):RepT (.dK true ts) (.ref a) (a::L)
 |dKZ {a:Oz}{ts:List (Key×T)}{vs:List (Key×V)} (h:Rd Hz a (.dK vs)) (c:RepKs ts vs []):RepT (.dK false ts) (.ref a) []
 |dTO {a:Oz}{ts:List (List Key×T)}{vs:List (List Key×V)}{L:List Oz} (h:H a=some (.dT vs)) (c:RepXs ts vs L):RepT (.dT true ts) (.ref a) (a::L)
 |dTZ {a:Oz}{ts:List (List Key×T)}{vs:List (List Key×V)} (h:Rd Hz a (.dT vs)) (c:RepXs ts vs []):RepT (.dT false ts) (.ref a) []
inductive RepTs:List T->List V->List Oz->Prop
 |nil:RepTs [] [] []
 |cons {t:T}{v:V}{L M N:List Oz}{ts:List T}{vs:List V} (e:N=L++M) (h:RepT t v L) (c:RepTs ts vs M):RepTs (t::ts) (v::vs) N
inductive RepKs:List (Key×T)->List (Key×V)->List Oz->Prop
 |nil:RepKs [] [] []
 |cons {k:Key}{t:T}{v:V}{L M N:List Oz}{ts:List (Key×T)}{vs:List (Key×V)} (e:N=L++M) (h:RepT t v L) (c:RepKs ts vs M):RepKs ((k,t)::ts) ((k,v)::vs) N
inductive RepXs:List (List Key×T)->List (List Key×V)->List Oz->Prop
 |nil:RepXs [] [] []
 |cons {k:List Key}{t:T}{v:V}{L M N:List Oz}{ts:List (List Key×T)}{vs:List (List Key×V)} (e:N=L++M) (h:RepT t v L) (c:RepXs ts vs M):RepXs ((k,t)::ts) ((k,v)::vs) N
end
end
variable {Hz Hz' Z:Hp}{L M:List Oz}{p:Oz}{t:T}{ts:List T}{v:V}{vs xs:List V}{x:Option V}{α:Type}
section
variable{K:OA}
theorem kO{P:T->V->List Oz->Prop}{Ps:List T->List V->List Oz->Prop}{Pk:List (Key×T)->List (Key×V)->List Oz->Prop}{Px:List (List Key×T)->List (List Key×V)->List Oz->Prop}
  (c1:∀{v},P .any v []) (c2:∀{w},P (.hole w) w []) (c3:∀{a u},H a=some u->(∀xs,H a≠some (.tup xs))->P .bare (.ref a) [a]) (c4:∀{G v},Gr G Hz->P (.kp G) v [])
  (c5:P .non .non []) (c6:∀{b},P (.bl b) (.bl b) []) (c7:∀{i},P (.int i) (.int i) []) (c8:∀{x},P (.str x) (.str x) []) (c9:∀{n},P (.ty n) (.ty n) [])
  (c10:∀{a ts vs L},H a=some (.tup vs)->Ps ts vs L->P (.tup ts) (.ref a) L) (c11:∀{a ts vs},SqT K (fun _=>none) a vs->Ps ts vs []->P (.cst ts) (.ref a) [])
  (c12:∀{a ts vs L},H a=some (.lst vs)->Ps ts vs L->P (.lst true ts) (.ref a) (a::L)) (c13:∀{a ts vs},Rd Hz a (.lst vs)->Ps ts vs []->P (.lst false ts) (.ref a) [])
  (c14:∀{a ts vs L},H a=some (.dK vs)->Pk ts vs L->P (.dK true ts) (.ref a) (a::L)) (c15:∀{a ts vs},Rd Hz a (.dK vs)->Pk ts vs []->P (.dK false ts) (.ref a) [])
  (c16:∀{a ts vs L},H a=some (.dT vs)->Px ts vs L->P (.dT true ts) (.ref a) (a::L)) (c17:∀{a ts vs},Rd Hz a (.dT vs)->Px ts vs []->P (.dT false ts) (.ref a) [])
  (s0:Ps [] [] []) (s1:∀{t v L M ts vs},P t v L->Ps ts vs M->Ps (t::ts) (v::vs) (L++M))
  (k0:Pk [] [] []) (k1:∀{k t v L M ts vs},P t v L->Pk ts vs M->Pk ((k,t)::ts) ((k,v)::vs) (L++M))
  (x0:Px [] [] []) (x1:∀{k t v L M ts vs},P t v L->Px ts vs M->Px ((k,t)::ts) ((k,v)::vs) (L++M)) :
  (∀{t v L},RepT K Hz H t v L->P t v L)/\(∀{t v L},RepTs K Hz H t v L->Ps t v L)/\(∀{t v L},RepKs K Hz H t v L->Pk t v L)/\(∀{t v L},RepXs K Hz H t v L->Px t v L):=by
 have m1:∀{t v L},RepT K Hz H t v L->P t v L:=fun h=>RepT.rec (motive_1:=fun t v L _=>P t v L) (motive_2:=fun t v L _=>Ps t v L) (motive_3:=fun t v L _=>Pk t v L) (motive_4:=fun t v L _=>Px t v L)
  c1 c2 c3 c4 c5 c6 c7 c8 c9 (fun h _ i=>c10 h i) (fun h _ i=>c11 h i) (fun h _ i=>c12 h i) (fun h _ i=>c13 h i) (fun h _ i=>c14 h i) (fun h _ i=>c15 h i) (fun h _ i=>c16 h i) (fun h _ i=>c17 h i)
  s0 (fun e _ _ i j=>e▸s1 i j) k0 (fun e _ _ i j=>e▸k1 i j) x0 (fun e _ _ i j=>e▸x1 i j) h
 refine⟨m1,fun h=>?_,fun h=>?_,fun h=>?_⟩
 ·exact RepTs.rec (motive_1:=fun t v L _=>True) (motive_2:=fun t v L _=>Ps t v L) (motive_3:=fun t v L _=>True) (motive_4:=fun t v L _=>True)
   trivial trivial (fun _ _=>trivial) (fun _=>trivial) trivial trivial trivial trivial trivial (fun _ _ _=>trivial) (fun _ _ _=>trivial) (fun _ _ _=>trivial) (fun _ _ _=>trivial) (fun _ _ _=>trivial) (fun _ _ _=>trivial) (fun _ _ _=>trivial) (fun _ _ _=>trivial)
   s0 (fun e h _ _ j=>e▸s1 (m1 h) j) trivial (fun _ _ _ _ _=>trivial) trivial (fun _ _ _ _ _=>trivial) h
 ·exact RepKs.rec (motive_1:=fun t v L _=>True) (motive_2:=fun t v L _=>True) (motive_3:=fun t v L _=>Pk t v L) (motive_4:=fun t v L _=>True)
   trivial trivial (fun _ _=>trivial) (fun _=>trivial) trivial trivial trivial trivial trivial (fun _ _ _=>trivial) (fun _ _ _=>trivial) (fun _ _ _=>trivial) (fun _ _ _=>trivial) (fun _ _ _=>trivial) (fun _ _ _=>trivial) (fun _ _ _=>trivial) (fun _ _ _=>trivial)
   trivial (fun _ _ _ _ _=>trivial) k0 (fun e h _ _ j=>e▸k1 (m1 h) j) trivial (fun _ _ _ _ _=>trivial) h
 exact RepXs.rec (motive_1:=fun t v L _=>True) (motive_2:=fun t v L _=>True) (motive_3:=fun t v L _=>True) (motive_4:=fun t v L _=>Px t v L)
  trivial trivial (fun _ _=>trivial) (fun _=>trivial) trivial trivial trivial trivial trivial (fun _ _ _=>trivial) (fun _ _ _=>trivial) (fun _ _ _=>trivial) (fun _ _ _=>trivial) (fun _ _ _=>trivial) (fun _ _ _=>trivial) (fun _ _ _=>trivial) (fun _ _ _=>trivial)
  trivial (fun _ _ _ _ _=>trivial) trivial (fun _ _ _ _ _=>trivial) x0 (fun e h _ _ j=>e▸x1 (m1 h) j) h
noncomputable def Kps(H H':Hp)(L:List Oz):Prop:=∀a∈L,∀u,H a=some u->H' a=some u/\((∀xs,H a≠some (.tup xs))->∀xs,H' a≠some (.tup xs))
theorem Kps.hd (h:Kps H H' (a::L)){u:HO}(e:H a=some u):H' a=some u/\((∀xs,H a≠some (.tup xs))->∀xs,H' a≠some (.tup xs)):=h _ x_ _ e
theorem Kps.tl (h:Kps H H' (a::L)):Kps H H' L:=fun a m=>h a (m_ _ m)
theorem Kps.l (h:Kps H H' (L++M)):Kps H H' L:=fun a m=>h a (KP _ m)
theorem Kps.r (h:Kps H H' (L++M)):Kps H H' M:=fun a m=>h a (w_ _ m)
theorem uF(ht:TK H H')(hz:Gr Hz Hz'):(∀{t v L},RepT K Hz H t v L->Kps H H' L->RepT K Hz' H' t v L)/\(∀{t v L},RepTs K Hz H t v L->Kps H H' L->RepTs K Hz' H' t v L)/\(∀{t v L},RepKs K Hz H t v L->Kps H H' L->RepKs K Hz' H' t v L)/\(∀{t v L},RepXs K Hz H t v L->Kps H H' L->RepXs K Hz' H' t v L):=
 kO (P:=fun t v L=>Kps H H' L->RepT K Hz' H' t v L) (Ps:=fun t v L=>Kps H H' L->RepTs K Hz' H' t v L) (Pk:=fun t v L=>Kps H H' L->RepKs K Hz' H' t v L) (Px:=fun t v L=>Kps H H' L->RepXs K Hz' H' t v L)
  (fun _=>.any) (fun _=>.hole) (fun h t o=>.bare (o.hd h).1 ((o.hd h).2 t)) (fun h _=>.kp (h.trans hz)) (fun _=>.non) (fun _=>.bl) (fun _=>.int) (fun _=>.str) (fun _=>.ty)
  (fun h c o=>.tup (ht _ _ h) (c o)) (fun h c o=>.cst h (c o)) (fun h c o=>.lstO (o.hd h).1 (c o.tl)) (fun h c o=>.lstZ (hz _ _ h) (c o)) (fun h c o=>.dKO (o.hd h).1 (c o.tl)) (fun h c o=>.dKZ (hz _ _ h) (c o)) (fun h c o=>.dTO (o.hd h).1 (c o.tl)) (fun h c o=>.dTZ (hz _ _ h) (c o))
  (fun _=>.nil) (fun i j o=>.cons rfl (i o.l) (j o.r)) (fun _=>.nil) (fun i j o=>.cons rfl (i o.l) (j o.r)) (fun _=>.nil) (fun i j o=>.cons rfl (i o.l) (j o.r))
theorem RepT.move (ht:TK H H')(hz:Gr Hz Hz')(o:Kps H H' L)(h:RepT K Hz H t v L):RepT K Hz' H' t v L:=(uF ht hz).1 h o
theorem RepXs.move (ht:TK H H')(hz:Gr Hz Hz'){t:List (List Key×T)}{v:List (List Key×V)}(o:Kps H H' L)(h:RepXs K Hz H t v L):RepXs K Hz' H' t v L:=(uF ht hz).2.2.2 h o
noncomputable def Thr(H:Hp)(L:List Oz):Prop:=∀a∈L,(∃u,H a=some u)/\∀xs,H a≠some (.tup xs)
theorem Thr.nil :Thr H []:=fun a m=>nomatch m
theorem Thr.cons {H:Hp}{a:Oz}{u:HO}{L:List Oz}(h:H a=some u)(t:∀xs,H a≠some (.tup xs))(c:Thr H L):Thr H (a::L):=fun b m=>by
 rcases h_.mp m with rfl|m
 ·exact⟨⟨_,h⟩,t⟩
 exact c b m
theorem Thr.app (c:Thr H L)(d:Thr H M):Thr H (L++M):=fun b m=>(F_.mp m).elim (c b) (d b)
theorem Ae:(∀{t v L},RepT K Hz H t v L->Thr H L)/\(∀{t v L},RepTs K Hz H t v L->Thr H L)/\(∀{t v L},RepKs K Hz H t v L->Thr H L)/\(∀{t v L},RepXs K Hz H t v L->Thr H L):=
 kO (P:=fun t v L=>Thr H L) (Ps:=fun t v L=>Thr H L) (Pk:=fun t v L=>Thr H L) (Px:=fun t v L=>Thr H L)
  .nil .nil (fun h t=>.cons h t .nil) (fun _=>.nil) .nil .nil .nil .nil .nil (fun _ c=>c) (fun _ c=>c) (fun h c=>.cons h (fun xs r=>by rw[h]at r;cases r) c) (fun _ c=>c) (fun h c=>.cons h (fun xs r=>by rw[h]at r;cases r) c) (fun _ c=>c) (fun h c=>.cons h (fun xs r=>by rw[h]at r;cases r) c) (fun _ c=>c)
  .nil (fun c d=>c.app d) .nil (fun c d=>c.app d) .nil (fun c d=>c.app d)
theorem RepT.there (h:RepT K Hz H t v L):Thr H L:=Ae.1 h
noncomputable def Fzn(H Z:Hp)(L:List Oz):Prop:=∀a∈L,Z a=H a
theorem Fzn.hd (h:Fzn H Z (a::L)){u:HO}(e:H a=some u):Rd Z a u:=.inl (by rw[h _ x_];exact e)
theorem Fzn.tl (h:Fzn H Z (a::L)):Fzn H Z L:=fun a m=>h a (m_ _ m)
theorem Fzn.l (h:Fzn H Z (L++M)):Fzn H Z L:=fun a m=>h a (KP _ m)
theorem Fzn.r (h:Fzn H Z (L++M)):Fzn H Z M:=fun a m=>h a (w_ _ m)
theorem DU(hz:Gr Hz Z):(∀{t v L},RepT K Hz H t v L->Fzn H Z L->RepT K Z H (er t) v [])/\(∀{t v L},RepTs K Hz H t v L->Fzn H Z L->RepTs K Z H (erL t) v [])/\(∀{t v L},RepKs K Hz H t v L->Fzn H Z L->RepKs K Z H (erK t) v [])/\(∀{t v L},RepXs K Hz H t v L->Fzn H Z L->RepXs K Z H (erT t) v []):=
 kO (P:=fun t v L=>Fzn H Z L->RepT K Z H (er t) v []) (Ps:=fun t v L=>Fzn H Z L->RepTs K Z H (erL t) v []) (Pk:=fun t v L=>Fzn H Z L->RepKs K Z H (erK t) v []) (Px:=fun t v L=>Fzn H Z L->RepXs K Z H (erT t) v [])
  (fun _=>.any) (fun _=>.hole) (fun _ _ _=>.any) (fun h _=>.kp (h.trans hz)) (fun _=>.non) (fun _=>.bl) (fun _=>.int) (fun _=>.str) (fun _=>.ty)
  (fun h c o=>.tup h (c o)) (fun h c o=>.cst h (c o)) (fun h c o=>.lstZ (o.hd h) (c o.tl)) (fun h c o=>.lstZ (hz _ _ h) (c o)) (fun h c o=>.dKZ (o.hd h) (c o.tl)) (fun h c o=>.dKZ (hz _ _ h) (c o)) (fun h c o=>.dTZ (o.hd h) (c o.tl)) (fun h c o=>.dTZ (hz _ _ h) (c o))
  (fun _=>.nil) (fun i j o=>.cons rfl (i o.l) (j o.r)) (fun _=>.nil) (fun i j o=>.cons rfl (i o.l) (j o.r)) (fun _=>.nil) (fun i j o=>.cons rfl (i o.l) (j o.r))
theorem RepT.frz (hz:Gr Hz Z)(o:Fzn H Z L)(h:RepT K Hz H t v L):RepT K Z H (er t) v []:=(DU hz).1 h o
theorem Ff:(∀{t v L},RepT K Hz H t v L->aU t=true->L=[])/\(∀{t v L},RepTs K Hz H t v L->bK t=true->L=[])/\(∀{t v L},RepKs K Hz H t v L->True)/\(∀{t v L},RepXs K Hz H t v L->True):=
 kO (P:=fun t v L=>aU t=true->L=[]) (Ps:=fun t v L=>bK t=true->L=[]) (Pk:=fun t v L=>True) (Px:=fun t v L=>True)
  (fun _=>rfl) (fun _=>rfl) (fun _ _ n=>nomatch n) (fun _ _=>rfl) (fun _=>rfl) (fun _=>rfl) (fun _=>rfl) (fun _=>rfl) (fun _=>rfl)
  (fun _ c n=>c (by rw[aU]at n;exact n)) (fun _ _ _=>rfl) (fun _ _ n=>nomatch n) (fun _ _ _=>rfl) (fun _ _ n=>nomatch n) (fun _ _ _=>rfl) (fun _ _ n=>nomatch n) (fun _ _ _=>rfl)
  (fun _=>rfl) (fun i j n=>by
   rw[bK,G']at n;rw[i n.1,j n.2]
   rfl) trivial (fun _ _=>trivial) trivial (fun _ _=>trivial)
theorem RepT.nil_of (n:aU t=true)(h:RepT K Hz H t v L):L=[]:=Ff.1 h n
theorem Dd(ht:TK H H'):(∀{t v L},RepT K Hz H t v L->dy t=true->Kps H H' L->RepT K Z H' t v L)/\(∀{t v L},RepTs K Hz H t v L->cL t=true->Kps H H' L->RepTs K Z H' t v L)/\(∀{t v L},RepKs K Hz H t v L->qv t=true->Kps H H' L->RepKs K Z H' t v L)/\(∀{t v L},RepXs K Hz H t v L->jT t=true->Kps H H' L->RepXs K Z H' t v L):=
 kO (P:=fun t v L=>dy t=true->Kps H H' L->RepT K Z H' t v L) (Ps:=fun t v L=>cL t=true->Kps H H' L->RepTs K Z H' t v L) (Pk:=fun t v L=>qv t=true->Kps H H' L->RepKs K Z H' t v L) (Px:=fun t v L=>jT t=true->Kps H H' L->RepXs K Z H' t v L)
  (fun _ _=>.any) (fun _ _=>.hole) (fun h t _ o=>.bare (o.hd h).1 ((o.hd h).2 t)) (fun _ n=>nomatch n) (fun _ _=>.non) (fun _ _=>.bl) (fun _ _=>.int) (fun _ _=>.str) (fun _ _=>.ty)
  (fun h c n o=>.tup (ht _ _ h) (c (by rw[dy]at n;exact n) o)) (fun h c n o=>.cst h (c (by rw[dy]at n;exact n) o)) (fun h c n o=>.lstO (o.hd h).1 (c (by rw[dy,LI]at n;exact n) o.tl)) (fun _ _ n=>nomatch n) (fun h c n o=>.dKO (o.hd h).1 (c (by rw[dy,LI]at n;exact n) o.tl)) (fun _ _ n=>nomatch n) (fun h c n o=>.dTO (o.hd h).1 (c (by rw[dy,LI]at n;exact n) o.tl)) (fun _ _ n=>nomatch n)
  (fun _ _=>.nil) (fun i j n o=>.cons rfl (i (by rw[cL,G']at n;exact n.1) o.l) (j (by rw[cL,G']at n;exact n.2) o.r)) (fun _ _=>.nil) (fun i j n o=>.cons rfl (i (by rw[qv,G']at n;exact n.1) o.l) (j (by rw[qv,G']at n;exact n.2) o.r)) (fun _ _=>.nil) (fun i j n o=>.cons rfl (i (by rw[jT,G']at n;exact n.1) o.l) (j (by rw[jT,G']at n;exact n.2) o.r))
theorem RepT.Ho (ht:TK H H')(n:dy t=true)(o:Kps H H' L)(h:RepT K Hz H t v L):RepT K Z H' t v L:=(Dd ht).1 h n o
abbrev Ev:=List T
abbrev Fm:=List (T×Option V)
noncomputable def qG(K:OA)(Hz H:Hp)(t:T)(x:Option V)(L:List Oz):Prop:=(t=.any/\L=[])\/∃v,x=some v/\RepT K Hz H t v L
inductive RepL (K:OA) (Hz H:Hp):Fm->List Oz->Prop
 |nil:RepL K Hz H [] []
 |cons {t:T}{x:Option V}{L M N:List Oz}{r:Fm} (e:N=L++M) (h:qG K Hz H t x L) (c:RepL K Hz H r M):RepL K Hz H ((t,x)::r) N
def Rp(K:OA)(H:Hp)(Γ:Fm):Prop:=∃Hz L,RepL K Hz H Γ L/\L.Nodup/\Gr Hz H/\∀b∈L,Hz b=none
theorem qG.move (ht:TK H H')(hz:Gr Hz Hz')(ho:∀a∈L,∀u,H a=some u->H' a=some u/\((∀xs,H a≠some (.tup xs))->∀xs,H' a≠some (.tup xs)))(h:qG K Hz H t x L):qG K Hz' H' t x L:=by
 rcases h with⟨rfl,rfl⟩|⟨v,rfl,h⟩
 ·exact .inl ⟨rfl,rfl⟩
 exact .inr ⟨v,rfl,h.move ht hz ho⟩
theorem qG.there (h:qG K Hz H t x L):∀a∈L,(∃u,H a=some u)/\∀xs,H a≠some (.tup xs):=by
 rcases h with⟨rfl,rfl⟩|⟨v,rfl,h⟩
 ·intro a m;cases m
 exact h.there
theorem RepL.move (ht:TK H H')(hz:Gr Hz Hz'):∀{Γ:Fm}{L:List Oz},(∀a∈L,∀u,H a=some u->H' a=some u/\((∀xs,H a≠some (.tup xs))->∀xs,H' a≠some (.tup xs)))->RepL K Hz H Γ L->RepL K Hz' H' Γ L:=by
 intro Γ L ho x;induction x with
 |nil=>exact .nil
 |cons e h c ih=>exact .cons e (h.move ht hz fun a m=>ho a (by rw[e];exact KP _ m)) (ih fun a m=>ho a (by rw[e];exact w_ _ m))
theorem RepL.there :∀{Γ:Fm}{L:List Oz},RepL K Hz H Γ L->∀a∈L,(∃u,H a=some u)/\∀xs,H a≠some (.tup xs):=by
 intro Γ L x;induction x with
 |nil=>intro a m;cases m
 |cons e h c ih=>
  intro a m;rw[e]at m;rcases F_.mp m with m|m
  ·exact h.there a m
  exact ih a m
theorem RepL.app :∀{Γ Δ:Fm}{L M:List Oz},RepL K Hz H Γ L->RepL K Hz H Δ M->RepL K Hz H (Γ++Δ) (L++M):=by
 intro Γ Δ L M x d;induction x with
 |nil=>exact d
 |cons e h c ih=>exact .cons (by rw[e,o_]) h ih
theorem RepL.split :∀{Γ Δ:Fm}{N:List Oz},RepL K Hz H (Γ++Δ) N->∃L M,N=L++M/\RepL K Hz H Γ L/\RepL K Hz H Δ M
 | [],_,N,h=>⟨[],N,rfl,.nil,h⟩
 | (t,x)::r,_,N,.cons e h c=>by obtain⟨L,M,rfl,h1,h2⟩:=c.split;exact⟨_,M,by rw[e,o_],.cons rfl h h1,h2⟩
theorem RepL.perm {Γ Δ:Fm}(p:Γ.Perm Δ):∀{L:List Oz},RepL K Hz H Γ L->∃M,L.Perm M/\RepL K Hz H Δ M:=by
 induction p with
 |nil=>intro L h;exact⟨L,.refl _,h⟩
 |cons x q ih=>
  intro L h;cases h with
  |cons e h c=>
   obtain⟨M,p1,h1⟩:=ih c;exact⟨_,by rw[e];exact p1.append_left _,.cons rfl h h1⟩
 |swap x y l=>
  intro L h;cases h with
  |cons e h c=>
   cases c with
   |cons e' h' c'=>
    refine⟨_,?_,.cons rfl h' (.cons rfl h c')⟩;rw[e,e',<-o_,<-o_];exact LZ.append_right _
 |trans p q ih1 ih2=>
  intro L h;obtain⟨M,p1,h1⟩:=ih1 h;obtain⟨N,p2,h2⟩:=ih2 h1;exact⟨N,p1.trans p2,h2⟩
theorem Rp.perm {Γ Δ:Fm}(h:Rp K H Γ)(p:Γ.Perm Δ):Rp K H Δ:=by obtain⟨Hz,L,h,nd,g,d⟩:=h;obtain⟨M,q,h'⟩:=h.perm p;exact⟨Hz,M,h',q.nodup_iff.mp nd,g,fun b m=>d b (q.mem_iff.mpr m)⟩
theorem Rp.part {Γ Δ:Fm}(h:Rp K H (Γ++Δ)):Rp K H Δ:=by obtain⟨Hz,L,h,nd,g,d⟩:=h;obtain⟨L1,L2,rfl,_,h2⟩:=h.split;exact⟨Hz,L2,h2,(Lq.mp nd).2.1,g,fun b m=>d b (w_ _ m)⟩
theorem Rp.tail {x:T×Option V}{Γ:Fm}(h:Rp K H (x::Γ)):Rp K H Γ:=Rp.part (Γ:=[x]) h
theorem jy(s:dm H H')(a:Oz)(u:HO)(e:H a=some u):H' a=some u/\((∀xs,H a≠some (.tup xs))->∀xs,H' a≠some (.tup xs)):=
 ⟨s _ _ e,fun n xs r=>n xs (by rw[s _ _ e]at r;exact e.trans r)⟩
theorem Rp.same {Γ:Fm}(h:Rp K H Γ)(s:dm H H'):Rp K H' Γ:=by obtain⟨Hz,L,h,nd,g,d⟩:=h;exact⟨Hz,L,h.move (dm.tk s) .gy (fun a m u e=>jy s a u e),nd,g.trans (.of s),d⟩
theorem uS{o:HO}(s:Put H p o H')(a:Oz)(n:a≠p)(u:HO)(e:H a=some u):H' a=some u/\((∀xs,H a≠some (.tup xs))->∀xs,H' a≠some (.tup xs)):=
 ⟨by rw[s.else_ a n];exact e,fun m xs r=>m xs (by rw[s.else_ a n]at r;exact r)⟩
theorem RepTs.len :∀{ts:List T}{vs:List V}{L:List Oz},RepTs K Hz H ts vs L->ts.length=vs.length:=fun{ts}=>by
 induction ts with
 |nil=>intro vs L h;cases h;rfl
 |cons t ts ih=>
  intro vs L h;cases h with
  |cons _ _ c=>rw[g_,g_,ih c]
abbrev zz(ts:List T)(vs:List V):Fm:=ts.zip (vs.map some)
theorem RepTs.toL :∀{ts:List T}{vs:List V}{L:List Oz},RepTs K Hz H ts vs L->RepL K Hz H (zz ts vs) L:=fun{ts}=>by
 induction ts with
 |nil=>intro vs L h;cases h;exact .nil
 |cons t ts ih=>
  intro vs L h;cases h with
  |cons e h c=>exact .cons e (.inr ⟨_,rfl,h⟩) (ih c)
theorem RepL.ud :∀{ts:List T}{vs:List V}{L:List Oz},ts.length=vs.length->RepL K Hz H (zz ts vs) L->RepTs K Hz H ts vs L
 | [],[],_,_,.nil=>.nil
 | [],v::vs,_,l,_=>by simp at l
 |t::ts,[],_,l,_=>by simp at l
 |t::ts,v::vs,L,l,h=>by
  have h:RepL K Hz H ((t,some v)::zz ts vs) L:=h;cases h with
  |cons e h c=>
   refine .cons e ?_ (c.ud (by simpa using l));rcases h with⟨rfl,rfl⟩|⟨w,e2,h⟩
   ·exact .any
   cases e2;exact h
theorem RepKs.toL :∀{ts:List (Key×T)}{vs:List (Key×V)}{L:List Oz},RepKs K Hz H ts vs L->ts.map (·.1)=vs.map (·.1)/\RepTs K Hz H (ts.map (·.2)) (vs.map (·.2)) L:=fun{ts}=>by
 induction ts with
 |nil=>intro vs L h;cases h;exact⟨rfl,.nil⟩
 |cons t ts ih=>
  intro vs L h;cases h with
  |cons e h c=>exact⟨by rw[c_,c_,(ih c).1],.cons e h (ih c).2⟩
theorem RepKs.ofL :∀{ts:List (Key×T)}{vs:List (Key×V)}{L:List Oz},ts.map (·.1)=vs.map (·.1)->RepTs K Hz H (ts.map (·.2)) (vs.map (·.2)) L->RepKs K Hz H ts vs L:=fun{ts}=>by
 induction ts with
 |nil=>
  intro vs L e h;cases vs with
  |nil=>cases h;exact .nil
  |cons v vs=>cases e
 |cons t ts ih=>
  intro vs L e h;cases vs with
  |nil=>cases e
  |cons v vs=>
   obtain⟨k,t⟩:=t;obtain⟨k',v⟩:=v;cases h with
   |cons e2 h c=>
    rw[c_,c_,Lj]at e;have e0:k=k':=e.1;subst e0;exact .cons e2 h (ih e.2 c)
theorem RepXs.toL :∀{ts:List (List Key×T)}{vs:List (List Key×V)}{L:List Oz},RepXs K Hz H ts vs L->ts.map (·.1)=vs.map (·.1)/\RepTs K Hz H (ts.map (·.2)) (vs.map (·.2)) L:=fun{ts}=>by
 induction ts with
 |nil=>intro vs L h;cases h;exact⟨rfl,.nil⟩
 |cons t ts ih=>
  intro vs L h;cases h with
  |cons e h c=>exact⟨by rw[c_,c_,(ih c).1],.cons e h (ih c).2⟩
theorem RepXs.ofL :∀{ts:List (List Key×T)}{vs:List (List Key×V)}{L:List Oz},ts.map (·.1)=vs.map (·.1)->RepTs K Hz H (ts.map (·.2)) (vs.map (·.2)) L->RepXs K Hz H ts vs L:=fun{ts}=>by
 induction ts with
 |nil=>
  intro vs L e h;cases vs with
  |nil=>cases h;exact .nil
  |cons v vs=>cases e
 |cons t ts ih=>
  intro vs L e h;cases vs with
  |nil=>cases e
  |cons v vs=>
   obtain⟨k,t⟩:=t;obtain⟨k',v⟩:=v;cases h with
   |cons e2 h c=>
    rw[c_,c_,Lj]at e;have e0:k=k':=e.1;subst e0;exact .cons e2 h (ih e.2 c)
theorem CU{o:HO}{Γ Δ:Fm}(h:Rp K H (Γ++Δ))(hp:H p=none)(s:dm H H')(hn:H' p=some o)
  (mk:∀Hz L,RepL K Hz H' Γ L->RepT K Hz H' t (.ref p) (p::L)):Rp K H' ((t,some (.ref p))::Δ):=by
 obtain⟨Hz,N,h,nd,g,d⟩:=h;obtain⟨L,M,rfl,h1,h2⟩:=h.split;have mv:∀a∈L++M,∀u,H a=some u->H' a=some u/\((∀xs,H a≠some (.tup xs))->∀xs,H' a≠some (.tup xs)):=fun a _ u e=>jy s a u e;have h1':=h1.move (dm.tk s) .gy fun a m=>mv a (KP _ m);have h2':=h2.move (dm.tk s) .gy fun a m=>mv a (w_ _ m);refine⟨Hz,(p::L)++M,.cons rfl (.inr ⟨_,rfl,mk Hz L h1'⟩) h2',?_,g.trans (.of s),?_⟩
 ·rw[KH,C_];refine⟨fun m=>?_,nd⟩;obtain⟨⟨u,e⟩,_⟩:=h.there p m;rw[hp]at e;cases e
 intro b m;rcases h_.mp m with rfl|m
 ·exact g.none hp
 exact d b m
theorem iN{Δ:Fm}(h:Rp K H (zz ts vs++Δ))(l:ts.length=vs.length)(hp:H p=none)(s:dm H H')(hn:H' p=some (.lst vs)):Rp K H' ((.lst true ts,some (.ref p))::Δ):=
 CU h hp s hn fun _ _ q=>.lstO hn (q.ud l)
theorem jr{Δ:Fm}(h:Rp K H (zz ts vs++Δ))(l:ts.length=vs.length)(s:dm H H')(hn:H' p=some (.tup vs)):Rp K H' ((.tup ts,some (.ref p))::Δ):=by obtain⟨Hz,N,h,nd,g,d⟩:=h.same s;obtain⟨L,M,rfl,h1,h2⟩:=h.split;exact⟨Hz,L++M,.cons rfl (.inr ⟨_,rfl,.tup hn (h1.ud l)⟩) h2,nd,g,d⟩
theorem gW{Γ:Fm}(h:Rp K H ((.lst true ts,x)::Γ)):∃a vs,x=some (.ref a)/\H a=some (.lst vs)/\ts.length=vs.length/\Rp K H ((.bare,some (.ref a))::(zz ts vs++Γ)):=by
 obtain⟨Hz,N,h,nd,g,d⟩:=h;cases h with
 |cons e h c=>
  rcases h with⟨h,_⟩|⟨v,rfl,h⟩
  ·cases h
  cases h with
  |lstO h1 c1=>
   refine⟨_,_,rfl,h1,c1.len,Hz,N,.cons (L:=[_]) (M:=_++_) (by rw[e];rfl) (.inr ⟨_,rfl,.bare h1 fun xs r=>?_⟩) (c1.toL.app c),nd,g,d⟩;rw[h1]at r;cases r
theorem sA{o:HO}{Γ Δ:Fm}(h:Rp K H ((.bare,some (.ref a))::(Γ++Δ)))(p:Put H a o H')
  (mk:∀Hz L,RepL K Hz H' Γ L->RepT K Hz H' t (.ref a) (a::L)):Rp K H' ((t,some (.ref a))::Δ):=by
 obtain⟨Hz,N,h,nd,g,d⟩:=h;cases h with
 |cons e h c=>
  rcases h with⟨h,_⟩|⟨v,ev,h⟩
  ·cases h
  cases ev;cases h with
  |bare h1 nt=>
   obtain⟨L,M,e2,h2,h3⟩:=c.split;subst e;subst e2;rw[Mx,C_]at nd;have tk:TK H H':=Put.tk p nt;have ne:∀b∈L++M,b≠a:=fun b m z=>nd.1 (z▸m);have g':Gr Hz H':=fun b u r=>by
    have hb:b≠a:=fun z=>by obtain⟨w,q⟩:=Rd.some r;rw[z,d a (by rw[Mx];exact x_)]at q;cases q
    rcases g b u r with r|⟨o,r⟩
    ·exact .inl (by rw[p.else_ b hb];exact r)
    exact .inr ⟨o,by rw[p.else_ b hb];exact r⟩
   refine⟨Hz,(a::L)++M,.cons rfl (.inr ⟨_,rfl,mk Hz L ?_⟩) ?_,?_,g',?_⟩
   ·exact h2.move tk .gy fun b m=>uS p b (ne b (KP _ m))
   ·exact h3.move tk .gy fun b m=>uS p b (ne b (w_ _ m))
   ·rw[KH,C_];exact nd
   exact d
theorem iu{Γ:Fm}(h:Rp K H ((.bare,some (.ref a))::(zz ts vs++Γ)))(l:ts.length=vs.length)(p:Put H a (.lst vs) H'):Rp K H' ((.lst true ts,some (.ref a))::Γ):=
 sA h p fun _ _ q=>.lstO p.at_ (q.ud l)
theorem pW{ts:List (Key×T)}{Γ:Fm}(h:Rp K H ((.dK true ts,x)::Γ)):∃a vs,x=some (.ref a)/\H a=some (.dK vs)/\ts.map (·.1)=vs.map (·.1)/\Rp K H ((.bare,some (.ref a))::(zz (ts.map (·.2)) (vs.map (·.2))++Γ)):=by
 obtain⟨Hz,N,h,nd,g,d⟩:=h;cases h with
 |cons e h c=>
  rcases h with⟨h,_⟩|⟨v,rfl,h⟩
  ·cases h
  cases h with
  |dKO h1 c1=>
   obtain⟨e1,c2⟩:=c1.toL;refine⟨_,_,rfl,h1,e1,Hz,N,.cons (L:=[_]) (M:=_++_) (by rw[e];rfl) (.inr ⟨_,rfl,.bare h1 fun xs r=>?_⟩) (c2.toL.app c),nd,g,d⟩;rw[h1]at r;cases r
theorem qb{ts:List (List Key×T)}{Γ:Fm}(h:Rp K H ((.dT true ts,x)::Γ)):∃a vs,x=some (.ref a)/\H a=some (.dT vs)/\ts.map (·.1)=vs.map (·.1)/\Rp K H ((.bare,some (.ref a))::(zz (ts.map (·.2)) (vs.map (·.2))++Γ)):=by
 obtain⟨Hz,N,h,nd,g,d⟩:=h;cases h with
 |cons e h c=>
  rcases h with⟨h,_⟩|⟨v,rfl,h⟩
  ·cases h
  cases h with
  |dTO h1 c1=>
   obtain⟨e1,c2⟩:=c1.toL;refine⟨_,_,rfl,h1,e1,Hz,N,.cons (L:=[_]) (M:=_++_) (by rw[e];rfl) (.inr ⟨_,rfl,.bare h1 fun xs r=>?_⟩) (c2.toL.app c),nd,g,d⟩;rw[h1]at r;cases r
theorem fG{κ β:Type}{ts:List (κ×α)}{vs:List (κ×β)}(e:ts.map (·.1)=vs.map (·.1)):ts.length=vs.length:=by have:=congrArg NO e;rwa[a_,a_]at this
theorem qO{ts:List (Key×T)}{vs:List (Key×V)}{Γ:Fm}(h:Rp K H ((.bare,some (.ref a))::(zz (ts.map (·.2)) (vs.map (·.2))++Γ)))(l:ts.map (·.1)=vs.map (·.1))(p:Put H a (.dK vs) H'):Rp K H' ((.dK true ts,some (.ref a))::Γ):=
 sA h p fun _ _ q=>.dKO p.at_ (RepKs.ofL l (q.ud (by rw[a_,a_];exact fG l)))
theorem rF{ts:List (List Key×T)}{vs:List (List Key×V)}{Γ:Fm}(h:Rp K H ((.bare,some (.ref a))::(zz (ts.map (·.2)) (vs.map (·.2))++Γ)))(l:ts.map (·.1)=vs.map (·.1))(p:Put H a (.dT vs) H'):Rp K H' ((.dT true ts,some (.ref a))::Γ):=
 sA h p fun _ _ q=>.dTO p.at_ (RepXs.ofL l (q.ud (by rw[a_,a_];exact fG l)))
theorem Fl{Δ:Fm}(h:Rp K H Δ)(hp:H p=none)(s:dm H H')(hn:H' p=some (.dT [])):Rp K H' ((.dT true [],some (.ref p))::Δ):=
 CU (Γ:=[]) h hp s hn fun _ _ q=>by cases q;exact .dTO hn .nil
theorem lN{Γ:Fm}(h:Rp K H ((t,x)::Γ)):Rp K H ((er t,x)::Γ):=by
 obtain⟨Hz,N,h,nd,g,d⟩:=h;cases h with
 | @cons _ _ L M _ _ e h c=>
  rcases h with⟨rfl,rfl⟩|⟨v,rfl,h⟩
  ·exact⟨Hz,N,.cons e (.inl ⟨rfl,rfl⟩) c,nd,g,d⟩
  subst e;have dz:∀b∈L,Hz b=none:=fun b m=>d b (KP _ m)
  let Z:Hp:=fun b=>if b∈L then H b else Hz b
  have hz:Gr Hz Z:=fun b u r=>by
   have nb:b ∉ L:=fun m=>by obtain⟨w,q⟩:=Rd.some r;rw[dz b m]at q;cases q
   rcases r with r|⟨o,r⟩
   ·exact .inl (by show(if b∈L then H b else Hz b)=_;rw[if_neg nb];exact r)
   exact .inr ⟨o,by show(if b∈L then H b else Hz b)=_;rw[if_neg nb];exact r⟩
  have zh:Gr Z H:=fun b u r=>by
   by_cases nb:b∈L
   ·rcases r with r|⟨o,r⟩
    ·exact .inl (by have r:(if b∈L then H b else Hz b)=_:=r;rw[if_pos nb]at r;exact r)
    exact .inr ⟨o,by have r:(if b∈L then H b else Hz b)=_:=r;rw[if_pos nb]at r;exact r⟩
   refine g b u ?_;rcases r with r|⟨o,r⟩
   ·exact .inl (by have r:(if b∈L then H b else Hz b)=_:=r;rw[if_neg nb]at r;exact r)
   exact .inr ⟨o,by have r:(if b∈L then H b else Hz b)=_:=r;rw[if_neg nb]at r;exact r⟩
  have nd2:=Lq.mp nd;refine⟨Z,[]++M,.cons rfl (.inr ⟨v,rfl,h.frz hz fun b m=>?_⟩) (c.move (fun _ _ r=>r) hz fun b m u e=>⟨e,fun n=>n⟩),nd2.2.1,zh,fun b m=>?_⟩
  ·show(if b∈L then H b else Hz b)=_;rw[if_pos m]
  show(if b∈L then H b else Hz b)=_;rw[if_neg (fun z=>nd2.2.2 b z b m rfl)];exact d b (w_ _ m)
theorem kc{Γ:Fm}(h:Rp K H ((t,x)::Γ))(n:aU t=true):Rp K H ((t,x)::(t,x)::Γ):=by
 obtain⟨Hz,N,h,nd,g,d⟩:=h;cases h with
 | @cons _ _ L M _ _ e h c=>
  have hL:L=[]:=by
   rcases h with⟨_,rfl⟩|⟨v,_,h⟩
   ·rfl
   exact h.nil_of n
  subst hL;exact⟨Hz,N,.cons (L:=[]) (M:=N) rfl h (.cons e h c),nd,g,d⟩
theorem qG.view (g:Gr Hz H)(h:qG K Hz H t x L):qG K H H (er t) x []:=by
 rcases h with⟨rfl,rfl⟩|⟨v,rfl,h⟩
 ·exact .inl ⟨rfl,rfl⟩
 exact .inr ⟨v,rfl,h.frz g fun _ _=>rfl⟩
theorem RepL.view (g:Gr Hz H):∀{Γ:Fm}{L:List Oz},RepL K Hz H Γ L->RepL K H H (Γ.map fun p=>(er p.1,p.2)) []:=by
 intro Γ L x;induction x with
 |nil=>exact .nil
 |cons e h c ih=>exact .cons rfl (h.view g) ih
theorem sR{Γ:Fm}(h:Rp K H Γ):Rp K H ((Γ.map fun p=>(er p.1,p.2))++[(.kp H,some .non)]):=by obtain⟨Hz,N,h,nd,g,d⟩:=h;refine⟨H,[]++[],(h.view g).app (.cons rfl (.inr ⟨_,rfl,.kp .gy⟩) .nil),LY,.gy,fun b m=>by cases m⟩
noncomputable def over(H H':Hp):Hp:=fun b=>match H b with
 |some u=>some u
 |none=>H' b
theorem jz{b:Oz}{u:HO}(e:H b=some u):over H H' b=some u:=by unfold over;rw[e]
theorem mZ{b:Oz}(e:H b=none):over H H' b=H' b:=by unfold over;rw[e]
theorem Ap(H H':Hp):dm H (over H H'):=fun b u e=>jz e
theorem sE(g:Gr H H'){b:Oz}:over H H' b=H' b\/∃o u,H' b=some (.frz o u)/\over H H' b=some u:=by
 cases q:H b with
 |none=>exact .inl (mZ q)
 |some u=>
  rw[jz q];rcases g b u (.inl q)with r|⟨o,r⟩
  ·exact .inl r.symm
  exact .inr ⟨o,u,r,rfl⟩
theorem ui(g:Gr H H'){b:Oz}(r:H' b=some (.tup xs)):over H H' b=some (.tup xs):=by
 rcases sE g (b:=b)with e|⟨o,u,e,_⟩
 ·rw[e];exact r
 rw[r]at e;cases e
theorem tT{Γ Δ:Fm}(h:Rp K H Γ)(q:Rp K H' ((t,x)::(Δ++[(.kp H,some .non)])))(n:dy t=true):Gr H H'/\Rp K (over H H') ((t,x)::Γ):=by
 obtain⟨Hy,N',q,nd',g',d'⟩:=q;cases q with
 | @cons _ _ L M _ _ e h1 c=>
  have hkp:Gr H Hy:=by
   obtain⟨_,_,_,_,c2⟩:=c.split;cases c2 with
   |cons _ h2 _=>
    rcases h2 with⟨z,_⟩|⟨_,_,h2⟩
    ·cases z
    cases h2 with
    |kp z=>exact z
  have gr:=hkp.trans g';refine⟨gr,?_⟩;subst e;have nd2:=Lq.mp nd';have hL:∀b∈L,H b=none:=fun b m=>hkp.none (d' b (KP _ m));obtain⟨Hz,N,h,nd,g,d⟩:=h;have so:=Ap H H';have tk:TK H' (over H H'):=fun b xs r=>ui gr r;have h1':qG K Hz (over H H') t x L:=by
   rcases h1 with⟨rfl,rfl⟩|⟨v,rfl,h1⟩
   ·exact .inl ⟨rfl,rfl⟩
   refine .inr ⟨v,rfl,h1.Ho tk n fun b m u e=>?_⟩;have eo:=mZ (H':=H') (hL b m);exact⟨eo.trans e,fun nt xs r=>nt xs (by rw[<-eo];exact r)⟩
  refine⟨Hz,L++N,.cons rfl h1' (h.move (dm.tk so) .gy fun b m u e=>jy so b u e),?_,g.trans (.of so),?_⟩
  ·rw[Lq];refine⟨nd2.1,nd,fun b m b' m' z=>?_⟩;subst z;obtain⟨⟨u,e⟩,_⟩:=h.there b m';rw[hL b m]at e;cases e
  intro b m;rcases F_.mp m with m|m
  ·exact g.none (hL b m)
  exact d b m
theorem nW:∀{ts:List T}{vs:List V}{i:Nat}{t:T},ts.length=vs.length->ts[i]?=some t->∃w,vs[i]?=some w
 |ts,vs,i,t,l,e=>by have h:i<ts.length:=(f_.mp e).1;exact⟨vs[i]'(by omega),e_ (by omega)⟩
theorem pf{α:Type}:∀{l:List α}{i:Nat}{x y:α},l[i]?=some y->(l.set i x).set i y=l
 | [],i,x,y,e=>by simp at e
 |a::l,0,x,y,e=>by simp at e;subst e;rfl
 |a::l,i+1,x,y,e=>by simp only[Lp]at e;rw[MM,MM,pf e]
end
theorem oK{α β:Type}:∀{l:List α}{m:List β}{i:Nat}{a:α}{b:β} (t:α) (y:β),l[i]?=some a->m[i]?=some b->((a,b)::(l.set i t).zip (m.set i y)).Perm ((t,y)::l.zip m)
 | [],m,i,a,b,t,y,h,_=>by simp at h
 |x::l,[],i,a,b,t,y,_,h=>by simp at h
 |x::l,z::m,0,a,b,t,y,h,g=>by simp only[Lx,Mm]at h g;subst h;subst g;exact .swap _ _ _
 |x::l,z::m,i+1,a,b,t,y,h,g=>by simp only[Lp]at h g;have p:=oK t y h g;show Nc ((a,b)::(x,z)::(l.set i t).zip (m.set i y)) ((t,y)::(x,z)::l.zip m);exact(LB _ _ _).trans ((p.cons _).trans (.swap _ _ _))
variable {i:Nat}
theorem set_same{l:List α}{x:α}(h:l[i]?=some x):l.set i x=l:=by have:=pf (x:=x) h;rw[MD]at this;exact this
variable {Fr Γ:Fm}{env:Ev}{σ:St}
section
variable{K:OA}
def Rs(K:OA)(H:Hp)(env:Ev)(σ:St)(Fr:Fm):Prop:=env.length=σ.length/\Rp K H (env.zip σ++Fr)
theorem k7(h:Rp K H Γ):Rp K H ((.any,x)::Γ):=by obtain⟨Hz,N,h,nd,g,d⟩:=h;exact⟨Hz,N,.cons (L:=[]) rfl (.inl ⟨rfl,rfl⟩) h,nd,g,d⟩
theorem Rs.perm {Gr:Fm}(h:Rs K H env σ Fr)(p:Fr.Perm Gr):Rs K H env σ Gr:=⟨h.1,h.2.perm (p.append_left _)⟩
theorem Rs.drop {x:T×Option V}(h:Rs K H env σ (x::Fr)):Rs K H env σ Fr:=⟨h.1,(h.2.perm f').tail⟩
theorem Rs.head {x:T×Option V}(h:Rs K H env σ (x::Fr)):Rp K H (x::(env.zip σ++Fr)):=h.2.perm f'
theorem Rs.of {x:T×Option V}(l:env.length=σ.length)(h:Rp K H (x::(env.zip σ++Fr))):Rs K H env σ (x::Fr):=⟨l,h.perm f'.symm⟩
theorem Rs.chg {Δ Δ':Fm}(h:Rs K H env σ (Δ++Fr))(f:∀ Γ,Rp K H (Δ++Γ)->Rp K H' (Δ'++Γ)):Rs K H' env σ (Δ'++Fr):=by
 refine⟨h.1,?_⟩;have p:∀A:Fm,(A++(env.zip σ++Fr)).Perm (env.zip σ++(A++Fr)):=fun A=>by rw[<-o_,<-o_];exact LZ.append_right _
 exact(f _ (h.2.perm (p Δ).symm)).perm (p Δ')
theorem Rs.slot (h:Rs K H env σ Fr)(e:env[i]?=some t):∃x,σ[i]?=some x/\Rs K H (env.set i .any) σ ((t,x)::Fr):=by
 have hi:i<env.length:=(f_.mp e).1;have hs:i<σ.length:=by rw[<-h.1];exact hi
 have ex:σ[i]?=some σ[i]:=e_ hs;refine⟨σ[i],ex,by rw[KG];exact h.1,?_⟩;have p:=oK (T.any) σ[i] e ex;rw[set_same ex]at p;refine(k7 (x:=σ[i]) h.2).perm ?_;refine u_ ?_ f'.symm;exact(p.symm.append_right Fr)
theorem Rs.ni (h:Rs K H env σ ((t,x)::Fr))(hi:i<env.length)(ex:σ[i]?=some x):Rs K H (env.set i t) σ Fr:=by have e:env[i]?=some env[i]:=e_ hi;refine⟨by rw[KG];exact h.1,?_⟩;have p:=oK t x e ex;rw[set_same ex]at p;refine Rp.tail (x:=(env[i],x)) (h.2.perm ?_);refine f'.trans ?_;exact(p.symm.append_right Fr)
theorem Rs.store (h:Rs K H env σ ((t,some v)::Fr))(hi:i<env.length):Rs K H (env.set i t) (σ.set i (some v)) Fr:=by
 have e:env[i]?=some env[i]:=e_ hi;have hs:i<σ.length:=by rw[<-h.1];exact hi
 have ex:σ[i]?=some σ[i]:=e_ hs;refine⟨by rw[KG,KG];exact h.1,?_⟩;have p:=oK t (some v) e ex;refine Rp.tail (x:=(env[i],σ[i])) (h.2.perm ?_);refine f'.trans ?_;exact(p.symm.append_right Fr)
end
variable {X:Cx}{ac:List (Oz×Obj)}{s:OB}
theorem pG{f8:St}{s':OB}(I:Inv X ac σ H s)(J:Inv X ac f8 H' s')(g:Gr H H'):Inv X ac f8 (over H H') s':=by
 have nn:∀b,H' b=none->over H H' b=none:=fun b e=>by rw[mZ (g.none e)];exact e
 refine⟨J.ok,J.os,J.bare,⟨J.base.keep,J.base.slot,?_,J.base.there,?_,?_,?_⟩,J.loc,J.cell,nn _ J.free,fun x c e=>nn _ (J.freeC x c e),fun p hp=>?_,?_,J.len⟩
 ·exact fun b o e1 e2 e3=>nn _ (J.base.free b o e1 e2 e3)
 ·exact fun b xs e=>jz (I.base.tups b xs e)
 ·exact fun b o u e=>jz (I.base.frzs b o u e)
 ·exact fun b ps e=>by obtain⟨m,em⟩:=I.base.tbls b ps e;exact⟨m,jz em⟩
 ·obtain⟨h1,h2,h3⟩:=J.pin p hp;exact⟨h1,nn _ h2,h3⟩
 intro b u e;have ho:∀c y,H' c=some (.own y)->over H H' c=some (.own y):=fun c y q=>by
  rcases sE g (b:=c)with z|⟨o,w,z,_⟩
  ·rw[z];exact q
  rw[q]at z;cases z
 have ht:∀c xs,H' c=some (.tup xs)->over H H' c=some (.tup xs):=fun c xs q=>ui g q;have key:bC X.prog X.w H' s'.heap b u:=by
  rcases sE g (b:=b)with z|⟨o,w,z,zw⟩
  ·rw[z]at e;exact J.hok b u e
  rw[zw]at e;cases e;exact(J.hok b _ z).2
 exact key.qk (fun c v _ q=>q) (fun c=>ho c b) ht
variable {e:OL}
theorem DH{t:TE}(h:PE X e t):PE X e (fun σ H Q=>t σ H fun v H'=>Gr H H'/\Q v (over H H')):=fun ac s σ H Q I q=>
 thn (h ac s σ H _ I q) fun u s' ⟨v,H',I',r,g,q'⟩=>⟨v,over H H',pG I I' g,r,q'⟩
theorem Et{t:TT}(h:PT X e t):PT X e (fun σ H Q=>t σ H fun b H'=>Gr H H'/\Q b (over H H')):=fun ac s σ H Q I q=>
 thn (h ac s σ H _ I q) fun b s' ⟨H',I',g,q'⟩=>⟨over H H',pG I I' g,q'⟩
abbrev PF:=Ev->(T->Ev->Prop)->Prop
abbrev PB:=Ev->(Bool->Ev->Prop)->Prop
abbrev PFs:=Ev->(List T->Ev->Prop)->Prop
def wE(K:OA)(f:PF):TE:=fun σ H Q=>∃env Fr k,Rs K H env σ Fr/\f env k/\∀t bm v H',k t bm->Rs K H' bm σ ((t,some v)::Fr)->Q v H'
def wB(K:OA)(f:PB):TT:=fun σ H Q=>∃env Fr k,Rs K H env σ Fr/\f env k/\∀b bm H',k b bm->Rs K H' bm σ Fr->Q b H'
def wA(K:OA)(f:PFs):TA:=fun σ H Q=>∃env Fr k,Rs K H env σ Fr/\f env k/\∀ts bm vs H',k ts bm->ts.length=vs.length->Rs K H' bm σ (zz ts vs++Fr)->Q vs H'
def GE(X:Cx)(e:OL)(f:PF):Prop:=PE X e (wE X.K f)
def GT(X:Cx)(e:OL)(f:PB):Prop:=PT X e (wB X.K f)
def GW(X:Cx)(e:OL)(f:PB):Prop:=PW X e (wB X.K f)
def GA(X:Cx)(es:List OL)(f:PFs):Prop:=PA X es (wA X.K f)
theorem PE.imp {t t':TE}(h:PE X e t)(k:∀ σ H Q,t' σ H Q->t σ H Q):PE X e t':=fun ac s σ H Q I q=>h ac s σ H Q I (k _ _ _ q)
theorem PT.imp {t t':TT}(h:PT X e t)(k:∀ σ H Q,t' σ H Q->t σ H Q):PT X e t':=fun ac s σ H Q I q=>h ac s σ H Q I (k _ _ _ q)
theorem PW.imp {t t':TT}(h:PW X e t)(k:∀ σ H Q,t' σ H Q->t σ H Q):PW X e t':=fun wh ac s σ H Q I q=>h wh ac s σ H Q I (k _ _ _ q)
variable {es:List OL}
theorem PA.imp {t t':TA}(h:PA X es t)(k:∀ σ H Q,t' σ H Q->t σ H Q):PA X es t':=fun pos ac s σ H Q I q=>h pos ac s σ H Q I (k _ _ _ q)
def fQ(f:PF):PF:=fun env k=>f (erL env) fun t _=>dy t=true/\k t env
def fQT(f:PB):PB:=fun env k=>f (erL env) fun b _=>k b env
theorem oN:∀(env:Ev) (σ:St),(env.zip σ).map (fun p=>(er p.1,p.2))=(erL env).zip σ
 | [],σ=>by simp[erL]
 |t::env,[]=>by simp
 |t::env,x::σ=>by rw[erL,LF,c_,LF,oN env σ]
theorem aB{X:Cx}{e:OL}{f:PF}(h:GE X e f):GE X e (fQ f):=by
 refine PE.imp (DH h) ?_;rintro σ H Q ⟨env,Fr,k,rs,q,c⟩;have rv:Rs X.K H (erL env) σ ((Fr.map fun p=>(er p.1,p.2))++[(.kp H,some .non)]):=by refine⟨by rw[oI];exact rs.1,?_⟩;have:=sR rs.2;rw[q_,oN,o_]at this;exact this
 refine⟨erL env,_,_,rv,q,?_⟩;rintro t bm v H' ⟨n,kt⟩ rs';obtain⟨g,r2⟩:=tT rs.2 (Δ:=bm.zip σ++(Fr.map fun p=>(er p.1,p.2))) (by rw[o_];exact rs'.head) n;exact⟨g,c t env v _ kt (.of rs.1 r2)⟩
variable {K:OA}
theorem D9{Δ:Fm}(h:Rp K H Γ)(q:Rp K H' (Δ++[(.kp H,some .non)])):Gr H H'/\Rp K (over H H') Γ:=by obtain⟨g,r⟩:=tT (t:=.any) (x:=none) h (k7 q) rfl;exact⟨g,r.tail⟩
theorem iF{f:PB}(h:GT X e f):GT X e (fQT f):=by
 refine PT.imp (Et h) ?_;rintro σ H Q ⟨env,Fr,k,rs,q,c⟩;have rv:Rs X.K H (erL env) σ ((Fr.map fun p=>(er p.1,p.2))++[(.kp H,some .non)]):=by refine⟨by rw[oI];exact rs.1,?_⟩;have:=sR rs.2;rw[q_,oN,o_]at this;exact this
 refine⟨erL env,_,_,rv,q,?_⟩;rintro b bm H' kt rs';obtain⟨g,r2⟩:=D9 rs.2 (Δ:=bm.zip σ++(Fr.map fun p=>(er p.1,p.2))) (by rw[o_];exact rs'.2);exact⟨g,c b env _ kt ⟨rs.1,r2⟩⟩
noncomputable def fK(t:T):PF:=fun env k=>k t env
variable {b:Bool}{j:Nat}
section
variable{X:Cx}{pos:Pos}
theorem jI(h:Rs K H env σ Fr)(r:∀Hz,RepT K Hz H t v []):Rs K H env σ ((t,some v)::Fr):=by refine .of h.1 ?_;obtain⟨Hz,N,q,nd,g,d⟩:=h.2;exact⟨Hz,N,.cons (L:=[]) rfl (.inr ⟨v,rfl,r Hz⟩) q,nd,g,d⟩
theorem ge_int{i:Int}{j:Nat}:GE X (.Constant (.int i) j pos) (fK (.int i)):=PE.imp fH (by rintro σ H Q ⟨env,Fr,k,rs,q,c⟩;exact c _ _ _ _ q (jI rs fun _=>.int))
theorem iZ:GE X (.Constant (.bool b) j pos) (fK (.bl b)):=PE.imp Ii (by rintro σ H Q ⟨env,Fr,k,rs,q,c⟩;exact c _ _ _ _ q (jI rs fun _=>.bl))
theorem DA:GE X (.Constant .none j pos) (fK .non):=PE.imp Gf (by rintro σ H Q ⟨env,Fr,k,rs,q,c⟩;exact c _ _ _ _ q (jI rs fun _=>.non))
theorem E6{x:Str}{u:Oy}(hg:Gl X x)(hm:X.mg x=some u)(r:RelV v u)(ht:∀Hz H,RepT X.K Hz H t v [])(hd:(x ==("__debug__":Str))=false:=by decide):GE X (.Name x pos) (fK t):=
 PE.imp (ER hg hm r hd) fun σ H Q ⟨env,Fr,k,rs,q,c⟩=>c _ _ _ _ q (jI rs fun Hz=>ht Hz H)
noncomputable def isAny:T->Bool
 | .any=>true
 | _=>false
def EF(i:Nat):PF:=fun env k=>match env[i]? with
 |some t=>isAny t=false/\aU t=true/\k t env
 |none=>False
def fFz(i:Nat):PF:=fun env k=>match env[i]? with
 |some t=>isAny t=false/\k (er t) (env.set i (er t))
 |none=>False
def fMv(i:Nat):PF:=fun env k=>match env[i]? with
 |some t=>isAny t=false/\k t (env.set i .any)
 |none=>False
theorem iP(h:Rs K H env σ ((t,x)::Fr))(n:isAny t=false):∃v,x=some v:=by
 obtain⟨Hz,N,q,_⟩:=h.head;cases q with
 |cons e h c=>
  rcases h with⟨rfl,_⟩|⟨v,e,_⟩
  ·cases n
  exact⟨v,e⟩
theorem ae(i:Nat){x:Str}(hN:X.N[i]?=some x:=by rfl)(hv:Vis X.env.scope x:=by first|exact d_ rfl|exact j_ (d_ rfl)|exact j_ (j_ rfl))(hd:(x ==("__debug__":Str))=false:=by decide)(hcd:(x ==("__classdict__":Str))=false:=by decide):GE X (.Name x pos) (EF i):=by
 refine PE.imp (jL hN hv hd hcd) ?_;rintro σ H Q ⟨env,Fr,k,rs,q,c⟩;unfold EF at q;split at q
 ·rename_i t e;obtain⟨na,no,q⟩:=q;obtain⟨y,ey,rs2⟩:=rs.slot e;obtain⟨v,rfl⟩:=iP rs2 na;refine⟨v,ey,c _ _ _ _ q ?_⟩;have hi:i<env.length:=(f_.mp e).1;have r3:Rs X.K H (env.set i .any) σ ((t,some v)::(t,some v)::Fr):=.of rs2.1 ((kc rs2.head no).perm (by refine Ml _ ?_;exact f'.symm))
  have r4:=Rs.ni (i:=i) r3 (by rw[KG];exact hi) ey;rw[pf e]at r4;exact r4
 exact q.elim
theorem bg(i:Nat){x:Str}(hN:X.N[i]?=some x:=by rfl)(hv:Vis X.env.scope x:=by first|exact d_ rfl|exact j_ (d_ rfl)|exact j_ (j_ rfl))(hd:(x ==("__debug__":Str))=false:=by decide)(hcd:(x ==("__classdict__":Str))=false:=by decide):GE X (.Name x pos) (fFz i):=by
 refine PE.imp (jL hN hv hd hcd) ?_;rintro σ H Q ⟨env,Fr,k,rs,q,c⟩;unfold fFz at q;split at q
 ·rename_i t e;obtain⟨na,q⟩:=q;obtain⟨y,ey,rs2⟩:=rs.slot e;obtain⟨v,rfl⟩:=iP rs2 na;refine⟨v,ey,c _ _ _ _ q ?_⟩;have hi:i<env.length:=(f_.mp e).1;have no:aU (er t)=true:=aL t;have r3:Rs X.K H (env.set i .any) σ ((er t,some v)::(er t,some v)::Fr):=.of rs2.1 ((kc (lN rs2.head) no).perm (by refine Ml _ ?_;exact f'.symm))
  have r4:=Rs.ni (i:=i) r3 (by rw[KG];exact hi) ey;rw[MD]at r4;exact r4
 exact q.elim
theorem jx(i:Nat){x:Str}(hN:X.N[i]?=some x:=by rfl)(hv:Vis X.env.scope x:=by first|exact d_ rfl|exact j_ (d_ rfl)|exact j_ (j_ rfl))(hd:(x ==("__debug__":Str))=false:=by decide)(hcd:(x ==("__classdict__":Str))=false:=by decide):GE X (.Name x pos) (fMv i):=by
 refine PE.imp (jL hN hv hd hcd) ?_;rintro σ H Q ⟨env,Fr,k,rs,q,c⟩;unfold fMv at q;split at q
 ·rename_i t e;obtain⟨na,q⟩:=q;obtain⟨y,ey,rs2⟩:=rs.slot e;obtain⟨v,rfl⟩:=iP rs2 na;exact⟨v,ey,c _ _ _ _ q rs2⟩
 exact q.elim
end
variable {y:V}
section
variable{K:OA}{H:Hp}{Γ:Fm}
theorem jH(h:Rp K H ((t,some y)::Γ))(n:isAny t=false):∃Hz L,RepT K Hz H t y L/\Gr Hz H:=by
 obtain⟨Hz,N,h,nd,g,d⟩:=h;cases h with
 |cons e h c=>
  rcases h with⟨rfl,_⟩|⟨v,e2,h⟩
  ·cases n
  cases e2;exact⟨Hz,_,h,g⟩
theorem aT{i:Int}(h:Rp K H ((.int i,some y)::Γ)):y=.int i:=by obtain⟨_,_,r,_⟩:=jH h rfl;cases r;rfl
theorem mL{i:Bool}(h:Rp K H ((.bl i,some y)::Γ)):y=.bl i:=by obtain⟨_,_,r,_⟩:=jH h rfl;cases r;rfl
theorem jQ{i:Str}(h:Rp K H ((.str i,some y)::Γ)):y=.str i:=by obtain⟨_,_,r,_⟩:=jH h rfl;cases r;rfl
theorem wc(h:Rp K H ((.non,some y)::Γ)):y=.non:=by obtain⟨_,_,r,_⟩:=jH h rfl;cases r;rfl
theorem cM(h:Rp K H Γ)(r:∀Hz,RepT K Hz H t v []):Rp K H ((t,some v)::Γ):=by obtain⟨Hz,N,q,nd,g,d⟩:=h;exact⟨Hz,N,.cons (L:=[]) rfl (.inr ⟨v,rfl,r Hz⟩) q,nd,g,d⟩
noncomputable def items:T->Option (List T)
 | .tup ts=>some ts
 | .cst ts=>some ts
 | .lst _ ts=>some ts
 | _=>none
noncomputable def nH:T->Bool
 | .tup _=>true
 | .cst _=>true
 | _=>false
theorem xO(h:SqT K (fun _=>none) a vs)(H:Hp):SqT K H a vs:=by
 rcases h with (h|⟨_,h⟩)|h
 ·cases h
 ·cases h
 exact .inr h
theorem aD(e:items t=some ts)(h:Rp K H ((t,some y)::Γ)):∃a vs,y=.ref a/\SqG (nH t) K H a vs/\ts.length=vs.length/\Rp K H (zz ts vs++Γ):=by
 obtain⟨Hz,N,h,nd,g,d⟩:=h;cases h with
 |cons e1 h c=>
  rcases h with⟨rfl,_⟩|⟨v,e2,h⟩
  ·cases e
  cases e2;cases h <;> cases e
  ·rename_i a vs h c1;exact⟨a,vs,rfl,SqT.of h,c1.len,Hz,_,c1.toL.app c,by rw[<-e1];exact nd,g,fun b m=>d b (by rw[e1];exact m)⟩
  ·rename_i a vs h c1;exact⟨a,vs,rfl,xO h H,c1.len,Hz,_,c1.toL.app c,by rw[<-e1];exact nd,g,fun b m=>d b (by rw[e1];exact m)⟩
  ·rename_i a vs L h c1;rw[e1,KH,C_]at nd;exact⟨a,vs,rfl,SqL.of h,c1.len,Hz,_,c1.toL.app c,nd.2,g,fun b m=>d b (by rw[e1,KH];exact m_ _ m)⟩
  rename_i a vs h c1;exact⟨a,vs,rfl,.inl (g _ _ h),c1.len,Hz,_,c1.toL.app c,by rw[<-e1];exact nd,g,fun b m=>d b (by rw[e1];exact m)⟩
theorem xW:∀{ts:List T}{vs:List V}{i:Nat}{t:T}{w:V},ts[i]?=some t->vs[i]?=some w->∃r,(zz ts vs).Perm ((t,some w)::r)
 | [],vs,i,t,w,e,f=>by simp at e
 |t::ts,[],i,_,w,e,f=>by simp at f
 |t::ts,v::vs,0,u,w,e,f=>by simp only[Lx,Mm]at e f;subst e;subst f;exact⟨_,.refl _⟩
 |t::ts,v::vs,i+1,u,w,e,f=>by simp only[Lp]at e f;obtain⟨r,h⟩:=xW (ts:=ts) (vs:=vs) e f;exact⟨(t,some v)::r,(h.cons _).trans (.swap _ _ _)⟩
theorem jF{w:V}(h:Rp K H (zz ts vs++Γ))(e:ts[i]?=some t)(f:vs[i]?=some w):Rp K H ((t,some w)::Γ):=by obtain⟨r,p⟩:=xW e f;refine Rp.part (Γ:=r) (h.perm ?_);refine(p.append_right Γ).trans ?_;exact f'.symm
theorem Dy{i:Int}(l:ts.length=vs.length)(e:atI ts i=some t)(h:Rp K H (zz ts vs++Γ)):∃w,atI vs i=some w/\Rp K H ((t,some w)::Γ):=by
 unfold atI at e ⊢;rw[l]at e;cases q:ixN vs.length i with
 |none=>rw[q]at e;cases e
 |some j=>
  rw[q]at e;have e:ts[j]?=some t:=e;obtain⟨w,f⟩:=nW l e;exact⟨w,f,jF h e f⟩
end
noncomputable def got(o:Option α)(k:α->Prop):Prop:=match o with
 |some u=>k u
 |none=>False
theorem HR{o:Option α}{u:α}{k:α->Prop}(e:o=some u)(h:k u):got o k:=by rw[e];exact h
theorem aE{o:Option α}{k:α->Prop}(h:got o k):∃u,o=some u/\k u:=by
 cases o with
 |none=>exact h.elim
 |some u=>exact⟨u,rfl,h⟩
noncomputable def cnd(b:Bool)(A B:Prop):Prop:=(b=true->A)/\(b=false->B)
theorem FG{A B:Prop}(h:A):cnd true A B:=⟨fun _=>h,fun e=>by cases e⟩
theorem JL{A B:Prop}(h:B):cnd false A B:=⟨fun e=>(by cases e),fun _=>h⟩
theorem iV{A B:Prop}(h:cnd b A B):if b=true then A else B:=by
 cases b with
 |true=>rw[if_pos rfl];exact h.1 rfl
 |false=>rw[if_neg (by decide)];exact h.2 rfl
abbrev P2:=T->T->(T->Prop)->Prop
def w2(K:OA)(g:P2):R2:=fun x y H Q=>∃tx ty Γ k,Rp K H ((ty,some y)::(tx,some x)::Γ)/\g tx ty k/\∀t v H',k t->Rp K H' ((t,some v)::Γ)->Q v H'
def OpP(X:Cx)(f:Oy->Oy->Sem Oy)(g:P2):Prop:=OpR X f (w2 X.K g)
variable {f:Oy->Oy->Sem Oy}{g:P2}
theorem OpP.of {r:R2}(h:OpR X f r)(k:∀tx ty x y H Γ (k:T->Prop) (Q:VK),Rp X.K H ((ty,some y)::(tx,some x)::Γ)->g tx ty k->(∀t v H',k t->Rp X.K H' ((t,some v)::Γ)->Q v H')->r x y H Q):OpP X f g:=
 fun ac s σ H x y v u Q I rx ry ⟨tx,ty,Γ,kk,rp,g,c⟩=>h ac s σ H x y v u Q I rx ry (k tx ty x y H Γ kk Q rp g c)
noncomputable def Ag(g:P2)(a b:PF):PF:=fun env k=>a env fun x al=>b al fun y bn=>g x y fun t=>k t bn
variable {fa:PF}
theorem zA{fb:PF}:∀ σ H Q,wE X.K (Ag g fa fb) σ H Q->tOp (w2 X.K g) (wE X.K fa) (wE X.K fb) σ H Q:=by rintro σ H Q ⟨env,Fr,k,rs,q,c⟩;refine⟨env,Fr,_,rs,q,fun tx al x H1 q1 i'=>⟨al,_,_,i',q1,fun ty bn y H2 q2 rs2=>?_⟩⟩;refine⟨tx,ty,bn.zip σ++Fr,_,?_,q2,fun t v H' kt rp=>c _ _ _ _ kt (.of rs2.1 rp)⟩;exact rs2.head.perm (.cons _ f')
variable {g':P2}{op:SM}
section
variable{X:Cx}{a b c d:OL}{fa fb fc fd:PF}{pos:Pos}
theorem ag{op:Operator}{g:P2}(ho:OpP X (PD op) g)(ha:GE X a fa)(hb:GE X b fb):GE X (.BinOp a op b pos) (Ag g fa fb):=PE.imp (g9 ho ha hb) zA
theorem jO{op:SM}{g:P2}(ho:OpP X (OX op) g)(ha:GE X a fa)(hb:GE X b fb)(hm:QZ op b=false):GE X (.Compare a [op] [b] pos) (Ag g fa fb):=PE.imp (EL ho ha hb hm) zA
noncomputable def DV(f:PF):PB:=fun env k=>f env fun t bm=>match t with
 | .bl b=>k b bm
 | _=>False
theorem AZ{f:PF}:∀ σ H Q,wB K (DV f) σ H Q->C8 (wE K f) σ H Q:=by
 rintro σ H Q ⟨env,Fr,k,rs,q,c⟩;refine⟨env,Fr,_,rs,q,fun t bm v H' q1 i'=>?_⟩;cases t <;> first|exact q1.elim|skip
 rename_i b;exact⟨b,mL i'.head,c _ _ _ q1 i'.drop⟩
theorem bj(ho:OpP X (OX op) g)(ha:GE X a fa)(hb:GE X b fb)(hm:QZ op b=false):GT X (.Compare a [op] [b] pos) (DV (Ag g fa fb)):=by refine PT.imp (sS ho ha hb hm) fun σ H Q h=>?_;obtain⟨env,Fr,k,rs,q,c⟩:=AZ σ H Q h;exact zA σ H _ ⟨env,Fr,k,rs,q,c⟩
def tB(g g':P2)(fa fb fc:PF):PF:=fun env k=>fa env fun x al=>fb al fun y bn=>aU y=true/\g x y fun z=>match z with
 | .bl b=>cnd b (fc bn fun u dL=>g' y u fun t=>k t dL) (k (.bl false) bn)
 | _=>False
theorem vy{X:Cx}{fa fb fc:PF}:∀ σ H Q,wE X.K (tB g g' fa fb fc) σ H Q->xH (w2 X.K g) (w2 X.K g') (wE X.K fa) (wE X.K fb) (wE X.K fc) σ H Q:=by
 rintro σ H Q ⟨env,Fr,k,rs,q,c⟩;refine⟨env,Fr,_,rs,q,fun tx al x H1 q1 i'=>⟨al,_,_,i',q1,fun ty bn y H2 ⟨no,q2⟩ rs2=>?_⟩⟩;have rd:=kc rs2.head no;refine⟨tx,ty,(ty,some y)::(bn.zip σ++Fr),_,?_,q2,fun t v H' kt rp=>?_⟩
 ·refine rd.perm (.cons _ ?_);refine u_ (.cons _ f') (.swap _ _ _)
 cases t <;> first|exact kt.elim|skip
 rename_i bb;refine⟨bb,mL rp,iV ⟨fun hb=>?_,fun hb=>?_⟩⟩
 ·refine⟨bn,(ty,some y)::Fr,_,.of rs2.1 rp.tail,kt.1 hb,fun tu dL u H3 q3 rs3=>?_⟩;refine⟨ty,tu,dL.zip σ++Fr,_,?_,q3,fun t v H' kt rp=>c _ _ _ _ kt (.of rs3.1 rp)⟩;exact rs3.head.perm (.cons _ f')
 exact c _ _ _ _ (kt.2 hb) (jI ⟨rs2.1,rp.tail.tail⟩ fun _=>.bl)
theorem mB{op':SM}(ho:OpP X (OX op) g)(ho':OpP X (OX op') g')(ha:GE X a fa)(hb:GE X b fb)(hc:GE X c fc)(hm:TZ [op,op'] [b,c]=false:=by with_unfolding_all rfl) :
  GE X (.Compare a [op,op'] [b,c] pos) (tB g g' fa fb fc):=PE.imp (Bl ho ho' ha hb hc hm) vy
theorem C7{op':SM}(ho:OpP X (OX op) g)(ho':OpP X (OX op') g')(ha:GE X a fa)(hb:GE X b fb)(hc:GE X c fc)(hm:TZ [op,op'] [b,c]=false:=by with_unfolding_all rfl) :
  GT X (.Compare a [op,op'] [b,c] pos) (DV (tB g g' fa fb fc)):=by
 refine PT.imp (D4 ho ho' ha hb hc hm) fun σ H Q h=>?_;obtain⟨env,Fr,k,rs,q,c⟩:=AZ σ H Q h;exact vy σ H _ ⟨env,Fr,k,rs,q,c⟩
noncomputable def HU:T->(Bool->Prop)->Prop
 | .non,k=>k false
 | .bl b,k=>k b
 | .int i,k=>k (i != 0)
 | .str x,k=>x.length<=sizeLine/\k ((x.length:Int) != 0)
 | .tup ts,k=>k (!ts.isEmpty)
 | .cst ts,k=>k (!ts.isEmpty)
 | .lst _ ts,k=>k (!ts.isEmpty)
 | _,_=>False
def JV(f:PF):PB:=fun env k=>f env fun t bm=>HU t fun b=>k b bm
theorem vP{β:Type}{l:List α}{m:List β}(h:l.length=m.length):l.isEmpty=m.isEmpty:=by cases l <;> cases m <;> first|rfl|simp at h
theorem lJ(ha:GE X a fa)(he:∀whole,TU a X.env whole=(do let v <-whole;Va a.pos;QS [v] (truthy v)):=by intro _;rfl):GT X a (JV fa):=by
 refine PT.imp (CF ha he) ?_;rintro σ H Q ⟨env,Fr,k,rs,q,c⟩;refine⟨env,Fr,_,rs,q,fun t bm v H' q1 i'=>?_⟩;have fin:∀b,k b bm->Q b H':=fun b kb=>c _ _ _ kb i'.drop;have sq:∀ts b,items t=some ts->b=(!ts.isEmpty)->k b bm->∃b,Gg X.K v H' b/\Q b H':=fun ts b e eb kb=>by
  obtain⟨a,vs,rfl,hq,l,_⟩:=aD e i'.head;refine⟨b,?_,fin b kb⟩;rw[vP l]at eb;revert hq;cases nH t with
  |true=>exact fun hq=>.inr (.inl ⟨vs,hq,eb⟩)
  |false=>exact fun hq=>.inl ⟨vs,hq,eb⟩
 cases t with
 |non=>rw[wc i'.head];exact⟨_,rfl,fin _ q1⟩
 |bl b=>rw[mL i'.head];exact⟨_,rfl,fin _ q1⟩
 |int i=>rw[aT i'.head];exact⟨_,rfl,fin _ q1⟩
 |str x=>rw[jQ i'.head];exact⟨_,⟨q1.1,rfl⟩,fin _ q1.2⟩
 |tup ts=>exact sq _ _ rfl rfl q1
 |cst ts=>exact sq _ _ rfl rfl q1
 |lst o ts=>exact sq _ _ rfl rfl q1
 | _=>exact q1.elim
def Fy(ta tb:PB):PB:=fun env k=>ta env fun b al=>cnd b (tb al k) (k false al)
def J7(ta tb:PB):PB:=fun env k=>ta env fun b al=>cnd b (k true al) (tb al k)
noncomputable def FQ(ta:PB):PB:=fun env k=>ta env fun b al=>k (!b) al
variable{ta tb:PB}{rest:List OL}
theorem zj(ha:GT X a ta):GW X (.BoolOp .And [a] pos) ta:=ED ha
theorem Hq(ha:GT X a ta):GW X (.BoolOp .Or [a] pos) ta:=GK ha
theorem BU(ha:GT X a ta)(hb:GW X (.BoolOp .And (b::rest) pos) tb):GW X (.BoolOp .And (a::b::rest) pos) (Fy ta tb):=by
 refine PW.imp (HD ha hb) ?_;rintro σ H Q ⟨env,Fr,k,rs,q,c⟩;refine⟨env,Fr,_,rs,q,fun b bm H' q1 i'=>iV ⟨fun e=>?_,fun e=>?_⟩⟩
 ·exact⟨bm,Fr,k,i',q1.1 e,c⟩
 exact c _ _ _ (q1.2 e) i'
theorem FV(ha:GT X a ta)(hb:GW X (.BoolOp .Or (b::rest) pos) tb):GW X (.BoolOp .Or (a::b::rest) pos) (J7 ta tb):=by
 refine PW.imp (Iw ha hb) ?_;rintro σ H Q ⟨env,Fr,k,rs,q,c⟩;refine⟨env,Fr,_,rs,q,fun b bm H' q1 i'=>iV ⟨fun e=>?_,fun e=>?_⟩⟩
 ·exact c _ _ _ (q1.1 e) i'
 exact⟨bm,Fr,k,i',q1.2 e,c⟩
theorem G3{f:PB}(h:GW X a f):GT X a f:=PW.pt h
theorem HJ(ha:GT X a ta):GT X (.UnaryOp .Not a pos) (FQ ta):=by refine PT.imp (Gi ha) ?_;rintro σ H Q ⟨env,Fr,k,rs,q,c⟩;exact⟨env,Fr,_,rs,q,fun b bm H' q1 i'=>c _ _ _ q1 i'⟩
def JJ(fa fb:PF):PF:=fun env k=>fa env fun t al=>match t with
 | .bl b=>cnd b (fb al k) (k (.bl false) al)
 | _=>False
def fOr(fa fb:PF):PF:=fun env k=>fa env fun t al=>match t with
 | .bl b=>cnd b (k (.bl true) al) (fb al k)
 | _=>False
theorem Cm{op}(h:GE X a fa):GE X (.BoolOp op [a] pos) fa:=Hf h
theorem xF(ha:GE X a fa)(hb:GE X (.BoolOp .And (b::rest) pos) fb):GE X (.BoolOp .And (a::b::rest) pos) (JJ fa fb):=by
 refine PE.imp (He ha hb) ?_;rintro σ H Q ⟨env,Fr,k,rs,q,c⟩;refine⟨env,Fr,_,rs,q,fun t bm v H' q1 i'=>?_⟩;cases t <;> first|exact q1.elim|skip
 rename_i bb;refine⟨bb,mL i'.head,iV ⟨fun e=>?_,fun e=>?_⟩⟩
 ·exact⟨bm,Fr,k,i'.drop,q1.1 e,c⟩
 exact c _ _ _ _ (q1.2 e) (jI i'.drop fun _=>.bl)
theorem BY(ha:GE X a fa)(hb:GE X (.BoolOp .Or (b::rest) pos) fb):GE X (.BoolOp .Or (a::b::rest) pos) (fOr fa fb):=by
 refine PE.imp (Jq ha hb) ?_;rintro σ H Q ⟨env,Fr,k,rs,q,c⟩;refine⟨env,Fr,_,rs,q,fun t bm v H' q1 i'=>?_⟩;cases t <;> first|exact q1.elim|skip
 rename_i bb;refine⟨bb,mL i'.head,iV ⟨fun e=>?_,fun e=>?_⟩⟩
 ·exact c _ _ _ _ (q1.1 e) (jI i'.drop fun _=>.bl)
 exact⟨bm,Fr,k,i'.drop,q1.2 e,c⟩
noncomputable def Hj:PFs:=fun env k=>k [] env
noncomputable def FX(f:PF)(r:PFs):PFs:=fun env k=>f env fun t al=>r al fun ts bn=>k (t::ts) bn
variable{es:List OL}{fr:PFs}
theorem af:GA X [] Hj:=PA.imp lH (by rintro σ H Q ⟨env,Fr,k,rs,q,c⟩;exact c [] env [] H q rfl rs)
theorem aa(ha:GE X a fa)(hr:GA X es fr)(hs:OO (a::es) X.env=(false,O1 a X.env)::OO es X.env:=by rfl):GA X (a::es) (FX fa fr):=by refine PA.imp (j3 ha hr hs) ?_;rintro σ H Q ⟨env,Fr,k,rs,q,c⟩;refine⟨env,Fr,_,rs,q,fun t al v H1 q1 i'=>⟨al,_,_,i',q1,fun ts bn vs H2 q2 l rs2=>c _ _ _ _ q2 (by rw[g_,g_,l]) ?_⟩⟩;exact rs2.perm f'
noncomputable def Iv(fr:PFs):PF:=fun env k=>fr env fun ts al=>ts.length<=sizeLine/\k (.tup ts) al
noncomputable def JD(fr:PFs):PF:=fun env k=>fr env fun ts al=>ts.length<=sizeLine/\k (.lst true ts) al
theorem ay{x1}(h:GA X es fr):GE X (.Tuple es x1 pos) (Iv fr):=by refine PE.imp (E9 h) ?_;rintro σ H Q ⟨env,Fr,k,rs,q,c⟩;refine⟨env,Fr,_,rs,q,fun ts al vs H1 ⟨z,q1⟩ l i'=>⟨by rw[<-l];exact z,fun p H2 hp g e=>c _ _ _ _ q1 ?_⟩⟩;exact Rs.chg (Δ:=zz ts vs) (Δ':=[(.tup ts,some (.ref p))]) i' fun Γ r=>jr r l g e
theorem aW(h:GA X es fr):GE X (.List es pos) (JD fr):=by refine PE.imp (Ei h) ?_;rintro σ H Q ⟨env,Fr,k,rs,q,c⟩;refine⟨env,Fr,_,rs,q,fun ts al vs H1 ⟨z,q1⟩ l i'=>⟨by rw[<-l];exact z,fun p H2 hp g e=>c _ _ _ _ q1 ?_⟩⟩;exact Rs.chg (Δ:=zz ts vs) (Δ':=[(.lst true ts,some (.ref p))]) i' fun Γ r=>iN r l hp g e
end
open PySem PySem.Spec PyProof.Rows L2
mutual
noncomputable def dt:T->Dt
 | .int i=>.int i
 | .bl b=>.bl b
 | .str x=>.str x
 | .tup ts=>.tup (dtL ts)
 | .cst ts=>.tup (dtL ts)
 | .lst _ ts=>.lst (dtL ts)
 | _=>.non
noncomputable def dtL:List T->List Dt
 | []=>[]
 |t::r=>dt t::dtL r
end
mutual
noncomputable def isD:T->Bool
 | .tup ts=>l9 ts
 | .cst ts=>l9 ts
 | .lst _ ts=>l9 ts
 | .int _=>true
 | .bl _=>true
 | .str _=>true
 | .non=>true
 | _=>false
noncomputable def l9:List T->Bool
 | []=>true
 |t::r=>isD t&&l9 r
end
theorem yc{α:Type}(g:α->T):∀l:List α,dtL (l.map g)=l.map fun x=>dt (g x)
 | []=>rfl
 |x::r=>by rw[c_,dtL,yc g r,c_]
theorem Gy(l:List T):dtL l=l.map dt:=by have:=yc (fun x=>x) l;rw[Oa]at this;exact this
mutual
theorem Bt:∀t:T,dt (er t)=dt t
 | .tup ts=>by rw[er,dt,dt,tY ts]
 | .cst ts=>by rw[er,dt,dt,tY ts]
 | .lst _ ts=>by rw[er,dt,dt,tY ts]
 | .dK _ ts=>rfl
 | .dT _ ts=>rfl
 | .bare=>rfl
 | .any=>rfl
 | .hole _=>rfl
 | .kp _=>rfl
 | .non=>rfl
 | .bl _=>rfl
 | .int _=>rfl
 | .str _=>rfl
 | .ty _=>rfl
theorem tY:∀t:List T,dtL (erL t)=dtL t
 | []=>rfl
 |t::r=>by rw[erL,dtL,dtL,Bt t,tY r]
end
section
variable{K:OA}
theorem yA(g:Gr Hz H):(∀{t v L},RepT K Hz H t v L->isD t=true->Has K H (dt t) v)/\(∀{t v L},RepTs K Hz H t v L->l9 t=true->d9 K H (dtL t) v)/\(∀{t v L},RepKs K Hz H t v L->True)/\(∀{t v L},RepXs K Hz H t v L->True):=
 kO (P:=fun t v L=>isD t=true->Has K H (dt t) v) (Ps:=fun t v L=>l9 t=true->d9 K H (dtL t) v) (Pk:=fun t v L=>True) (Px:=fun t v L=>True)
  (fun n=>nomatch n) (fun n=>nomatch n) (fun _ _ n=>nomatch n) (fun _ n=>nomatch n) (fun _=>by show Has K H .non .non;rw[Has]) (fun _=>by rw[dt,Has]) (fun _=>by rw[dt,Has]) (fun _=>by rw[dt,Has]) (fun n=>nomatch n)
  (fun h c n=>by rw[dt,Has];exact⟨_,_,rfl,SqT.of h,c (by rw[isD]at n;exact n)⟩) (fun h c n=>by rw[dt,Has];exact⟨_,_,rfl,xO h H,c (by rw[isD]at n;exact n)⟩)
  (fun h c n=>by rw[dt,Has];exact⟨_,_,rfl,SqL.of h,c (by rw[isD]at n;exact n)⟩) (fun h c n=>by rw[dt,Has];exact⟨_,_,rfl,.inl (g _ _ h),c (by rw[isD]at n;exact n)⟩)
  (fun _ _ n=>nomatch n) (fun _ _ n=>nomatch n) (fun _ _ n=>nomatch n) (fun _ _ n=>nomatch n)
  (fun _=>by rw[dtL];exact um) (fun i j n=>by rw[l9,G']at n;rw[dtL];exact qU (i n.1) (j n.2)) trivial (fun _ _=>trivial) trivial (fun _ _=>trivial)
theorem RepT.has (g:Gr Hz H)(n:isD t=true)(h:RepT K Hz H t v L):Has K H (dt t) v:=(yA g).1 h n
theorem RepTs.has (g:Gr Hz H){t:List T}{v:List V}(n:l9 t=true)(h:RepTs K Hz H t v L):d9 K H (dtL t) v:=(yA g).2.1 h n
theorem Ej(h:isD t=true):isAny t=false:=by cases t <;> first|rfl|cases h
theorem nD(h:Rp K H ((t,some y)::Γ))(n:isD t=true):Has K H (dt t) y:=by obtain⟨Hz,L,r,g⟩:=jH h (Ej n);exact r.has g n
theorem yu(h:Rp K H (zz ts vs++Γ))(l:ts.length=vs.length)(n:l9 ts=true):d9 K H (dtL ts) vs:=by obtain⟨Hz,N,h,nd,g,d⟩:=h;obtain⟨L,M,_,h1,_⟩:=h.split;exact(h1.ud l).has g n
end
noncomputable def HM:P2
 | .int i,.int j,k=>k (.int (i+j))
 | .str x,.str y,k=>x.length+y.length<=sizeLine/\k (.str (x++y))
 | .lst _ ts,.lst _ us,k=>ts.length+us.length<=sizeLine/\k (.lst true (ts++us))
 | .tup ts,.tup us,k=>ts.length+us.length<=sizeLine/\k (.tup (ts++us))
 | _,_,_=>False
noncomputable def J6:P2
 | .int i,.int j,k=>k (.int (i-j))
 | _,_,_=>False
def Iz:P2
 | .int i,.int j,k=>wU i j/\k (.int (i*j))
 | _,_,_=>False
def Jz:P2
 | .int i,.int j,k=>DP i j/\k (.int (i/j))
 | _,_,_=>False
noncomputable def J4:P2
 | .int i,.int j,k=>0<j/\k (.int (i%j))
 | _,_,_=>False
noncomputable def Gw(p:Int->Int->Bool):P2
 | .int i,.int j,k=>k (.bl (p i j))
 | _,_,_=>False
def ltT:P2:=Gw fun i j=>decide (i<j)
def leT:P2:=Gw fun i j=>decide (i<=j)
def gtT:P2:=Gw fun i j=>decide (j<i)
def eqT:P2:=fun t u k=>isD t=true/\isD u=true/\dpt (dt t)<190/\k (.bl (eqD (dt t) (dt u)))
def neT:P2:=fun t u k=>isD t=true/\isD u=true/\dpt (dt t)<190/\k (.bl (!eqD (dt t) (dt u)))
variable {n:Nat}{o:Bool}{r':Int->Int->V}
section
variable{X:Cx}
theorem sC{C:Int->Int->Prop}{r:Int->Int->T}(h:OpR X f (rI C r'))(hr:∀i j K Hz H,RepT K Hz H (r i j) (r' i j) []):OpP X f (fun t u k=>match t,u with | .int i,.int j=>C i j/\k (r i j) | _,_=>False):=by
 refine .of h ?_;intro tx ty x y H Γ k Q rp g c;cases tx <;> cases ty <;> first|exact g.elim|skip
 rename_i i j;rw[aT rp,aT rp.tail];exact⟨i,j,rfl,rfl,g.1,c _ _ _ g.2 (cM rp.tail.tail fun Hz=>hr i j _ _ _)⟩
theorem mK{r:Int->Int->T}(h:OpR X f (rI0 r'))(hr:∀i j K Hz H,RepT K Hz H (r i j) (r' i j) []):OpP X f (fun t u k=>match t,u with | .int i,.int j=>k (r i j) | _,_=>False):=by
 refine .of h ?_;intro tx ty x y H Γ k Q rp g c;cases tx <;> cases ty <;> first|exact g.elim|skip
 rename_i i j;rw[aT rp,aT rp.tail];exact⟨i,j,rfl,rfl,c _ _ _ g (cM rp.tail.tail fun Hz=>hr i j _ _ _)⟩
theorem OpP.imp (h:OpP X f g)(k:∀tx ty k,g' tx ty k->g tx ty k):OpP X f g':=OpR.imp h (by rintro x y H Q ⟨tx,ty,Γ,kk,rp,gg,c⟩;exact⟨tx,ty,Γ,kk,rp,k _ _ _ gg,c⟩)
theorem Inv.IC {σ:L2.St}{l:Oz}(I:Inv X ac σ H s)(hH:Rd H l (.lst xs)):xs.length<=sizeLine/\∃(be:List Oy) (n:Nat),Vals xs be/\xs.length=be.length/\s.heap.get? l=some { cls:=.type "list",data:=.seq be.toArray n}:=by obtain⟨z,be,n,r,e⟩:=hH.ok I.hok;exact⟨z,be,n,r,r.length,e⟩
theorem Fu:OpR X (PD .Add) (fun x y H Q=>∃l b xs zs,x=.ref l/\y=.ref b/\Rd H l (.lst xs)/\Rd H b (.lst zs)/\xs.length+zs.length<=sizeLine/\New (.lst (xs++zs)) H Q):=by
 intro ac s σ H x y v u Q I rx ry h;obtain⟨l,b,xs,zs,rfl,rfl,hH,hB,hz,q⟩:=h;cases rx;cases ry;obtain⟨z,be,n,r,hl,e⟩:=Inv.IC I hH;obtain⟨z2,its2,n2,r2,hl2,e2⟩:=Inv.IC I hB;refine PySem.P.add_list e e2 ?_ (by rw[i_,i_];lia);have ea:be.toArray++its2.toArray=(be++its2).toArray:=by simp
 rw[ea];exact⟨.ref _,_,I.Iu (t':=s.toks) (r.append r2) (by rw[gV];omega),rfl,q.at I.fresh⟩
theorem oJ(h:Rp K H ((.lst o ts,some y)::Γ)):∃a vs,y=.ref a/\Rd H a (.lst vs)/\ts.length=vs.length/\Rp K H (zz ts vs++Γ):=by
 obtain⟨Hz,N,h,nd,g,d⟩:=h;cases h with
 |cons e1 h c=>
  rcases h with⟨z,_⟩|⟨v,e2,h⟩
  ·cases z
  cases e2;cases h
  ·rename_i a vs L h c1;rw[e1,KH,C_]at nd;exact⟨a,vs,rfl,.inl h,c1.len,Hz,_,c1.toL.app c,nd.2,g,fun b m=>d b (by rw[e1,KH];exact m_ _ m)⟩
  rename_i a vs h c1;exact⟨a,vs,rfl,g _ _ h,c1.len,Hz,_,c1.toL.app c,by rw[<-e1];exact nd,g,fun b m=>d b (by rw[e1];exact m)⟩
theorem oM(h:Rp K H ((.tup ts,some y)::Γ)):∃a vs,y=.ref a/\H a=some (.tup vs)/\ts.length=vs.length/\Rp K H (zz ts vs++Γ):=by
 obtain⟨Hz,N,h,nd,g,d⟩:=h;cases h with
 |cons e1 h c=>
  rcases h with⟨z,_⟩|⟨v,e2,h⟩
  ·cases z
  cases e2;cases h with
  |tup h c1=>exact⟨_,_,rfl,h,c1.len,Hz,_,c1.toL.app c,by rw[<-e1];exact nd,g,fun b m=>d b (by rw[e1];exact m)⟩
theorem kC{us:List T}{ws:List V}(l:ts.length=vs.length):zz (ts++us) (vs++ws)=zz ts vs++zz us ws:=by show(ts++us).zip ((vs++ws).map some)=_;rw[q_,N1 (by rw[a_];exact l)]
theorem E1:OpR X (PD .Add) (fun x y H Q=>∃a b ys,x=.ref a/\y=.ref b/\SqT X.K H a []/\SqT X.K H b ys/\Q (.ref b) H):=by
 intro ac s σ H x y v u Q I rx ry h;obtain⟨a,b,ys,rfl,rfl,ha,hb,q⟩:=h;cases rx;cases ry;obtain⟨be,r1,p1,_⟩:=I.tuple ha;obtain⟨its2,r2,p2,_⟩:=I.tuple hb;cases r1;obtain⟨⟨cls,dd,data,sl⟩,ho,hc,n,hd⟩:=id p1;obtain⟨⟨cls2,dd2,data2,sl2⟩,ho2,hc2,n2,hd2⟩:=id p2;simp only at hc hd hc2 hd2;subst hc hd hc2 hd2;exact T2 ⟨_,ho,rfl⟩ ⟨_,ho2,rfl⟩ So TF Ru Ro (Rc _ _)
  (tuple_addW0 a b _ its2.toArray n n2 dd dd2 sl sl2 (by simp)) ⟨ho,ho2,⟨.ref b,H,I,rfl,q⟩⟩
theorem aq:OpP X (PD .Add) HM:=by
 rintro ac s σ H x y v u Q I rx ry ⟨tx,ty,Γ,k,rp,g,c⟩;cases tx <;> cases ty <;> first|exact ON g|skip
 ·rename_i i j;rw[aT rp]at ry;rw[aT rp.tail]at rx;exact qe ac s σ H _ _ v u Q I rx ry ⟨i,j,rfl,rfl,c _ _ _ g (cM rp.tail.tail fun _=>.int)⟩
 ·rename_i i j;rw[jQ rp]at ry;rw[jQ rp.tail]at rx;exact wb ac s σ H _ _ v u Q I rx ry ⟨i,j,rfl,rfl,g.1,c _ _ _ g.2 (cM rp.tail.tail fun _=>.str)⟩
 ·rename_i ts us;obtain⟨b,ws,rfl,hb,lb,ge⟩:=oM rp;obtain⟨a,vs,rfl,ha,la,gl⟩:=oM (ge.perm f');have lz:vs.length+ws.length<=sizeLine:=by rw[<-la,<-lb];exact g.1
  have rp4:Rp X.K H (zz (ts++us) (vs++ws)++Γ):=by rw[kC la,o_];exact gl
  by_cases hx:vs=[]
  ·subst hx;refine E1 ac s σ H _ _ v u Q I rx ry ⟨a,b,ws,rfl,rfl,SqT.of ha,SqT.of hb,?_⟩;refine c _ _ _ g.2 (jr rp4 (by rw[gV,gV,la,lb]) .gy ?_);rw[Lr];exact hb
  refine EJ ac s σ H _ _ v u Q I rx ry ⟨a,b,vs,ws,rfl,rfl,SqT.of ha,SqT.of hb,hx,lz,fun e=>?_,fun _ p hp=>c _ _ _ g.2 (jr rp4 (by rw[gV,gV,la,lb]) (cJ hp _) aO)⟩;refine c _ _ _ g.2 (jr rp4 (by rw[gV,gV,la,lb]) .gy ?_);rw[e,J'];exact ha
 rename_i o ts o' us;obtain⟨b,ws,rfl,hb,lb,ge⟩:=oJ rp;obtain⟨a,vs,rfl,ha,la,gl⟩:=oJ (ge.perm f');have lz:vs.length+ws.length<=sizeLine:=by rw[<-la,<-lb];exact g.1
 have rp4:Rp X.K H (zz (ts++us) (vs++ws)++Γ):=by rw[kC la,o_];exact gl
 exact Fu ac s σ H _ _ v u Q I rx ry ⟨a,b,vs,ws,rfl,rfl,ha,hb,lz,fun p H' hp g' e=>c _ _ _ g.2 (iN rp4 (by rw[gV,gV,la,lb]) hp g' e)⟩
theorem aP:OpP X (PD .Sub) J6:=(mK (r:=fun i j=>.int (i-j)) HS fun _ _ _ _ _=>.int).imp fun tx ty k g=>by cases tx <;> cases ty <;> exact g
theorem bH:OpP X (PD .Mult) Iz:=(sC (r:=fun i j=>.int (i*j)) lG fun _ _ _ _ _=>.int).imp fun tx ty k g=>by cases tx <;> cases ty <;> exact g
theorem kN:OpP X (PD .FloorDiv) Jz:=(sC (r:=fun i j=>.int (i/j)) yR fun _ _ _ _ _=>.int).imp fun tx ty k g=>by cases tx <;> cases ty <;> exact g
theorem F7:OpP X (PD .Mod) J4:=(sC (r:=fun i j=>.int (i%j)) lM fun _ _ _ _ _=>.int).imp fun tx ty k g=>by cases tx <;> cases ty <;> exact g
theorem iz:OpP X (OX .Lt) ltT:=(mK (r:=fun i j=>.bl (decide (i<j))) Ju fun _ _ _ _ _=>.bl).imp fun tx ty k g=>by cases tx <;> cases ty <;> exact g
theorem Dl:OpP X (OX .LtE) leT:=(mK (r:=fun i j=>.bl (decide (i<=j))) JF fun _ _ _ _ _=>.bl).imp fun tx ty k g=>by cases tx <;> cases ty <;> exact g
theorem GH:OpP X (OX .Gt) gtT:=(mK (r:=fun i j=>.bl (decide (j<i))) Jc fun _ _ _ _ _=>.bl).imp fun tx ty k g=>by cases tx <;> cases ty <;> exact g
theorem Fx{k:Nat}{A:OP}(r:Room k A)(h:n<190):A.units+n<cLine:=by have:=r.un;lia
theorem cE{k:Nat}(hr:Room k X.A):OpP X (OX .Eq) eqT:=.of BC fun tx ty x y H Γ k Q rp ⟨d1,d2,z,g⟩ c=>
 ⟨dt tx,dt ty,nD rp.tail d1,nD rp d2,Fx hr z,c _ _ _ g (cM rp.tail.tail fun _=>.bl)⟩
theorem sG{k:Nat}(hr:Room k X.A):OpP X (OX .NotEq) neT:=.of GY fun tx ty x y H Γ k Q rp ⟨d1,d2,z,g⟩ c=>
 ⟨dt tx,dt ty,nD rp.tail d1,nD rp d2,Fx hr z,c _ _ _ g (cM rp.tail.tail fun _=>.bl)⟩
end
open PySem PySem.Spec PyProof.Rows L2
noncomputable def ug:T->Option Key
 | .int i=>some (.inl i)
 | .str x=>some (.inr x)
 | .non=>some (.inr none)
 | _=>none
def iS:List T->Option (List Key)
 | []=>some []
 |t::r=>match ug t,iS r with
  |some k,some ks=>some (k::ks)
  | _,_=>none
section
variable{κ:Type}[DecidableEq κ]
noncomputable def jl(kvs:List (κ×T))(k:κ):Option T:=(kvs.find? fun kv=>decide (kv.1=k)).map (·.2)
noncomputable def iR(kvs:List (κ×T))(k:κ)(v:T):List (κ×T):=
 if(kvs.any fun kv=>decide (kv.1=k))=true then kvs.map (fun kv=>if kv.1=k then(kv.1,v)else kv)else kvs++[(k,v)]
theorem nL:∀{ts:List (κ×T)}{vs:List (κ×V)}{q:κ}{u:T},ts.map (·.1)=vs.map (·.1)->jl ts q=some u->∃(w:V) (i:Nat),iA vs q=some w/\(ts.map (·.2))[i]?=some u/\(vs.map (·.2))[i]?=some w
 | [],vs,q,u,e,h=>by cases h
 | (k,t)::ts,[],q,u,e,h=>by cases e
 | (k,t)::ts,(k',v)::vs,q,u,e,h=>by
  rw[c_,c_,Lj]at e;have e0:k=k':=e.1;subst e0;unfold jl at h;rw[KQ]at h;unfold iA;rw[KQ];by_cases hk:k=q
  ·have hk':decide (k=q)=true:=decide_eq_true hk;rw[show decide ((k,t).1=q)=true from hk']at h;rw[show decide ((k,v).1=q)=true from hk'];cases h;exact⟨v,0,rfl,rfl,rfl⟩
  have hk':decide (k=q)=false:=decide_eq_false hk;rw[show decide ((k,t).1=q)=false from hk']at h;rw[show decide ((k,v).1=q)=false from hk'];obtain⟨w,i,h1,h2,h3⟩:=nL (ts:=ts) (vs:=vs) e.2 h;exact⟨w,i+1,h1,by simpa using h2,by simpa using h3⟩
theorem nF:∀{ts:List (κ×T)}{vs:List (κ×V)} (q:κ),ts.map (·.1)=vs.map (·.1)->(jl ts q).isSome=(iA vs q).isSome
 | [],[],q,e=>rfl
 | [],_::_,q,e=>by cases e
 | (k,t)::ts,[],q,e=>by cases e
 | (k,t)::ts,(k',v)::vs,q,e=>by
  rw[c_,c_,Lj]at e;have e0:k=k':=e.1;subst e0;have ih:=nF (ts:=ts) (vs:=vs) q e.2;unfold jl iA at ih ⊢;rw[KQ,KQ];by_cases hk:k=q
  ·have hk':decide (k=q)=true:=decide_eq_true hk;rw[show decide ((k,t).1=q)=true from hk']
   rfl
  have hk':decide (k=q)=false:=decide_eq_false hk;rw[show decide ((k,t).1=q)=false from hk'];exact ih
end
section
variable{K:OA}{H:Hp}{Γ:Fm}
theorem sP{ts:List (Key×T)}(h:Rp K H ((.dK o ts,some y)::Γ)):∃a vs,y=.ref a/\Rd H a (.dK vs)/\ts.map (·.1)=vs.map (·.1)/\Rp K H (zz (ts.map (·.2)) (vs.map (·.2))++Γ):=by
 obtain⟨Hz,N,h,nd,g,d⟩:=h;cases h with
 |cons e1 h c=>
  rcases h with⟨z,_⟩|⟨v,e2,h⟩
  ·cases z
  cases e2;cases h
  ·rename_i a vs L h c1;obtain⟨ek,c2⟩:=c1.toL;rw[e1,KH,C_]at nd;exact⟨a,vs,rfl,.inl h,ek,Hz,_,c2.toL.app c,nd.2,g,fun b m=>d b (by rw[e1,KH];exact m_ _ m)⟩
  rename_i a vs h c1;obtain⟨ek,c2⟩:=c1.toL;exact⟨a,vs,rfl,g _ _ h,ek,Hz,_,c2.toL.app c,by rw[<-e1];exact nd,g,fun b m=>d b (by rw[e1];exact m)⟩
theorem jE{ts:List (List Key×T)}(h:Rp K H ((.dT o ts,some y)::Γ)):∃a vs,y=.ref a/\Rd H a (.dT vs)/\ts.map (·.1)=vs.map (·.1)/\Rp K H (zz (ts.map (·.2)) (vs.map (·.2))++Γ):=by
 obtain⟨Hz,N,h,nd,g,d⟩:=h;cases h with
 |cons e1 h c=>
  rcases h with⟨z,_⟩|⟨v,e2,h⟩
  ·cases z
  cases e2;cases h
  ·rename_i a vs L h c1;obtain⟨ek,c2⟩:=c1.toL;rw[e1,KH,C_]at nd;exact⟨a,vs,rfl,.inl h,ek,Hz,_,c2.toL.app c,nd.2,g,fun b m=>d b (by rw[e1,KH];exact m_ _ m)⟩
  rename_i a vs h c1;obtain⟨ek,c2⟩:=c1.toL;exact⟨a,vs,rfl,g _ _ h,ek,Hz,_,c2.toL.app c,by rw[<-e1];exact nd,g,fun b m=>d b (by rw[e1];exact m)⟩
theorem tG{k:Key}(e:ug t=some k)(h:Rp K H ((t,some y)::Γ)):y=kV k:=by
 cases t <;> cases e
 ·rw[wc h];rfl
 ·rw[aT h];rfl
 rw[jQ h];rfl
theorem AX{k:Key}(e:ug t=some k)(h:RepT K Hz H t v L):v=kV k:=by
 cases t <;> cases e
 ·cases h;rfl
 ·cases h;rfl
 cases h;rfl
theorem nj{Hz:Hp}:∀{ts:List T}{ks:List Key}{vs:List V}{L:List Oz},iS ts=some ks->RepTs K Hz H ts vs L->vs=ks.map kV
 | [],ks,_,_,e,r=>by cases r;cases e;rfl
 |t::ts,ks,_,_,e,r=>by
  cases r with
  |cons _ h c=>
   rw[iS]at e;split at e
   ·rename_i k r e1 e2;cases e;rw[AX e1 h,nj e2 c]
    rfl
   cases e
theorem m8{ks:List Key}(e:iS ts=some ks)(h:Rp K H ((.tup ts,some y)::Γ)):∃b,y=.ref b/\H b=some (.tup (ks.map kV)):=by
 obtain⟨Hz,L,r,g⟩:=jH h rfl;cases r with
 |tup h1 c1=>exact⟨_,rfl,by rw[h1,nj e c1]⟩
end
def ixT:P2
 | .tup ts,.int i,k=>got (atI ts i) k
 | .cst ts,.int i,k=>got (atI ts i) k
 | .lst _ ts,.int i,k=>got (atI ts i) k
 | .str x,.int i,k=>x.length<=sizeLine/\got (atI x.cps.toList i) fun c=>k (.str ⟨#[c]⟩)
 | .dK _ kvs,y,k=>got (ug y) fun q=>got (jl kvs q) k
 | .dT _ kvs,.tup ts,k=>got (iS ts) fun q=>got (jl kvs q) k
 | _,_,_=>False
variable {kr:Nat}{pos:Pos}
section
variable{X:Cx}
theorem zt(hu:X.A.units+1<cLine):IxR X (fun x y H Q=>∃a v,x=.ref a/\nz H a y (some v)/\Q v H):=by
 intro value slice ac s σ H x y v u Q I rx ry h hs;obtain⟨a,z,rfl,g,q⟩:=h;cases rx;have hT:=oh I g;unfold Rx;refine Ox ?_;rw[S_ hT.not_modules];refine Ox (Q9 hT Sg.lookup ?_);have fin:OE (OJ X.prog X.w) X.A (RY slice false (.ref a) u) (fun r s₃=>OE (OJ X.prog X.w) X.A (Vg value (.ref a) r >>= fun _=>pure r) (EP X ac σ Q) X.xe s₃) X.xe s:=by rw[hs];refine UT (rl hu I g ry fun w' s' I' r'=>Ox (Tr (OC ⟨z,H,I',r',q⟩)))
 first
  |exact OC (Ox fin)
  |exact Ox (OC (Ox fin))
  |exact Ox fin
theorem Kw(hr:Room kr X.A):IxR X (w2 X.K ixT):=by
 rintro value slice ac s σ H x y v u Q I rx ry ⟨tx,ty,Γ,k,rp,g,c⟩ hs;have sq:∀ts i,items tx=some ts->ty=.int i->got (atI ts i) k->OE (OJ X.prog X.w) X.A (Rx value slice v u) (EP X ac σ Q) X.xe s:=fun ts i e1 e2 g=>by obtain⟨t,et,kt⟩:=aE g;subst e2;rw[aT rp]at ry;obtain⟨a,vs,rfl,hq,l,ge⟩:=aD e1 rp.tail;obtain⟨w,ew,gl⟩:=Dy l et ge;exact Ku value slice ac s σ H _ _ v u Q I rx ry ⟨_,a,vs,i,w,rfl,rfl,hq,ew,c _ _ _ kt gl⟩ hs
 cases tx with
 |tup ts=>cases ty <;> first|exact ON g|exact sq _ _ rfl rfl g
 |cst ts=>cases ty <;> first|exact ON g|exact sq _ _ rfl rfl g
 |lst o ts=>cases ty <;> first|exact ON g|exact sq _ _ rfl rfl g
 |str z=>
  cases ty <;> first|exact ON g|skip
  rename_i i;obtain⟨hz,g⟩:=g;obtain⟨t,et,kt⟩:=aE g;rw[aT rp]at ry;rw[jQ rp.tail]at rx;exact CI value slice ac s σ H _ _ v u Q I rx ry ⟨z,i,t,rfl,rfl,hz,et,c _ _ _ kt (cM rp.tail.tail fun _=>.str)⟩ hs
 |dK o kvs=>
  have g:got (ug ty) fun q=>got (jl kvs q) k:=by cases ty <;> exact g
  obtain⟨q,eq,g⟩:=aE g;obtain⟨t,et,kt⟩:=aE g;rw[tG eq rp]at ry;obtain⟨a,vs,rfl,hq,ek,ge⟩:=sP rp.tail;obtain⟨w,i,ew,e1,e2⟩:=nL ek et;exact zt (k8 hr) value slice ac s σ H _ _ v u Q I rx ry ⟨a,w,rfl,.inl ⟨vs,q,hq,rfl,ew.symm⟩,c _ _ _ kt (jF ge e1 e2)⟩ hs
 |dT o kvs=>
  cases ty <;> first|exact ON g|skip
  rename_i ts;obtain⟨q,eq,g⟩:=aE g;obtain⟨t,et,kt⟩:=aE g;obtain⟨b,rfl,hb⟩:=m8 eq rp;obtain⟨a,vs,rfl,hq,ek,ge⟩:=jE rp.tail;obtain⟨w,i,ew,e1,e2⟩:=nL ek et;exact zt (k8 hr) value slice ac s σ H _ _ v u Q I rx ry ⟨a,w,rfl,.inr ⟨vs,q,b,hq,rfl,hb,ew.symm⟩,c _ _ _ kt (jF ge e1 e2)⟩ hs
 | _=>cases ty <;> exact ON g
theorem aA{kr:Nat}{a b:OL}{fa fb:PF}{pos:Pos}(hr:Room kr X.A)(ha:GE X a fa)(hb:GE X b fb)(hs:zy b:=by intro _ _;rfl):GE X (.Subscript a b pos) (Ag ixT fa fb):=PE.imp (G1 (Kw hr) ha hb hs) zA
def AS(x:T)(ts:List T):Bool:=ts.any fun e=>eqD (dt e) (dt x)
def inT:P2:=fun x y k=>match y with
 | .dK _ kvs=>got (ug x) fun q=>k (.bl (jl kvs q).isSome)
 | .dT _ kvs=>match x with
  | .tup ts=>got (iS ts) fun q=>k (.bl (jl kvs q).isSome)
  | _=>False
 | .str b=>match x with
  | .str a=>k (.bl (!(SA b a 0 b.length 1).isEmpty))
  | _=>False
 |y=>got (items y) fun ts=>isD x=true/\l9 ts=true/\i8 (dtL ts)<180/\k (.bl (AS x ts))
def HE:P2:=fun x y k=>inT x y fun t=>match t with
 | .bl b=>k (.bl (!b))
 | _=>False
theorem Ai:OpR X (OX .NotIn) (fun x y H Q=>∃p xs d ds,y=.ref p/\SqT X.K H p xs/\Has X.K H d x/\d9 X.K H ds xs/\X.A.in1.units+i8 ds<cLine/\Q (.bl (!ds.any fun e=>eqD e d)) H):=by intro ac s σ H x y v u Q I rx ry h;obtain⟨p,xs,d,ds,rfl,hq,hd,hl,hA,q⟩:=h;cases ry;obtain⟨be,r,pl,hz⟩:=I.tuple hq;obtain⟨e,e1,_,e3⟩:=xj I (A:=X.A.in1) hA hd rx (b_ _) hl r;refine SeqAt.notIn_tupleAt e pl (fun w hw=>e1 w (by simpa using hw)) ⟨.bl _,H,I,rfl,?_⟩;rw[show be.toArray.any e=be.any e by simp,e3];exact q
theorem F5(x:T)(ts:List T):AS x ts=(dtL ts).any fun e=>eqD e (dt x):=by
 unfold AS;rw[Gy,ME]
 rfl
theorem tI(hr:Room kr X.A):OpP X (OX .NotIn) HE:=by
 rintro ac s σ H x y v u Q I rx ry ⟨tx,ty,Γ,k,rp,g,c⟩;unfold HE at g;have sq:(got (items ty) fun ts=>isD tx=true/\l9 ts=true/\i8 (dtL ts)<180/\k (.bl (!AS tx ts)))->OE (OJ X.prog X.w) X.A (OX .NotIn v u) (EP X ac σ Q) X.xe s:=fun g=>by
  obtain⟨ts,e,d1,d2,z,kt⟩:=aE g;obtain⟨a,vs,rfl,hq,l,ge⟩:=aD e rp;have fin:=c _ _ _ kt (cM (H:=H) (v:=.bl (!AS tx ts)) rp.tail.tail fun _=>.bl);rw[F5]at fin;have hA:X.A.in1.units+i8 (dtL ts)<cLine:=by have:=hr.un;show X.A.units+1+_<_;omega
  revert hq;cases nH ty with
  |true=>exact fun hq=>Ai ac s σ H _ _ v u Q I rx ry ⟨a,vs,_,_,rfl,hq,nD rp.tail d1,yu ge l d2,hA,fin⟩
  |false=>exact fun hq=>A7 ac s σ H _ _ v u Q I rx ry ⟨a,vs,_,_,rfl,hq,nD rp.tail d1,yu ge l d2,hA,fin⟩
 cases ty with
 |tup ts=>exact sq g
 |cst ts=>exact sq g
 |lst o ts=>exact sq g
 |str b=>
  cases tx <;> first|exact ON g|skip
  rename_i a;rw[jQ rp]at ry;rw[jQ rp.tail]at rx;exact tS ac s σ H _ _ v u Q I rx ry ⟨a,b,rfl,rfl,c _ _ _ g (cM rp.tail.tail fun _=>.bl)⟩
 |dK o kvs=>
  obtain⟨q,eq,g⟩:=aE g;rw[tG eq rp.tail]at rx;obtain⟨a,vs,rfl,hq,ek,ge⟩:=sP rp;cases ry;rw[nF q ek]at g;exact yB (k8 hr) I (.inl ⟨vs,q,hq,rfl,rfl⟩) rx fun s' I'=>⟨.bl _,H,I',rfl,c _ _ _ g (cM rp.tail.tail fun _=>.bl)⟩
 |dT o kvs=>
  cases tx <;> first|exact ON g|skip
  rename_i ts;obtain⟨q,eq,g⟩:=aE g;obtain⟨b,rfl,hb⟩:=m8 eq rp.tail;obtain⟨a,vs,rfl,hq,ek,ge⟩:=jE rp;cases ry;rw[nF q ek]at g;exact yB (k8 hr) I (.inr ⟨vs,q,b,hq,rfl,hb,rfl⟩) rx fun s' I'=>⟨.bl _,H,I',rfl,c _ _ _ g (cM rp.tail.tail fun _=>.bl)⟩
 | _=>exact ON g
noncomputable def fUn(g:T->(T->Prop)->Prop)(fa:PF):PF:=fun env k=>fa env fun t al=>g t fun u=>k u al
noncomputable def IY:T->(T->Prop)->Prop
 | .int i,k=>k (.int (-i))
 | _,_=>False
theorem jZ{a:OL}(ha:GE X a fa):GE X (.UnaryOp .USub a pos) (fUn IY fa):=by
 refine PE.imp (JU Hm ha) ?_;rintro σ H Q ⟨env,Fr,k,rs,q,c⟩;refine⟨env,Fr,_,rs,q,fun t al v H1 q1 i'=>?_⟩;cases t <;> first|exact ON q1|skip
 rename_i i;exact⟨i,aT i'.head,c _ _ _ _ q1 (jI i'.drop fun _=>.int)⟩
end
open PySem PySem.Spec PyProof.Rows L2
abbrev P1s:=List T->(T->Prop)->Prop
def w1s(K:OA)(g:P1s):List V->Hp->VK->Prop:=fun xs H Q=>∃ts Γ k,ts.length=xs.length/\Rp K H (zz ts xs++Γ)/\g ts k/\∀t v H',k t->Rp K H' ((t,some v)::Γ)->Q v H'
def ja(X:Cx)(f:Oy)(g:P1s):Prop:=cH X f (w1s X.K g)
noncomputable def fCl(g:P1s)(fr:PFs):PF:=fun env k=>fr env fun ts al=>g ts fun t=>k t al
section
variable{X:Cx}{e:OL}{es:List OL}{fr:PFs}{pos p:Pos}{x:Str}{g:P1s}
theorem FH:∀ σ H Q,wE X.K (fCl g fr) σ H Q->tCB (w1s X.K g) (wA X.K fr) σ H Q:=by rintro σ H Q ⟨env,Fr,k,rs,q,c⟩;refine⟨env,Fr,_,rs,q,fun ts al vs H1 q1 l i'=>?_⟩;refine⟨ts,al.zip σ++Fr,_,l,?_,q1,fun t v H' kt rp=>c _ _ _ _ kt (.of i'.1 rp)⟩;refine i'.2.perm ?_;rw[<-o_,<-o_];exact LZ.append_right _
theorem aK{id:String}(hc:ja X (.builtin id) g)(hg:Gl X x)(hm:X.mg x=none)(hv:Ql x=some (.builtin id))(ha:GA X (e::es) fr)(hn:x≠"__name__":=by decide)(hdb:(x ==("__debug__":Str))=false:=by decide)
  (he:OO (e::es) X.env=(false,O1 e X.env)::OO es X.env:=by rfl) (hpl:(QF pos (OO es X.env)).any (·.1)=false:=by rfl):GE X (.Call (.Name x p) (e::es) [] pos) (fCl g fr):=PE.imp (pL hc hg hm hv ha hn hdb he hpl) FH
theorem bD{id:String}(hc:ja X (.type id) g)(hg:Gl X x)(hm:X.mg x=none)(hv:Ql x=some (.type id))(ha:GA X (e::es) fr)(hn:x≠"__name__":=by decide)(hdb:(x ==("__debug__":Str))=false:=by decide)
  (he:OO (e::es) X.env=(false,O1 e X.env)::OO es X.env:=by rfl) (hpl:(QF pos (OO es X.env)).any (·.1)=false:=by rfl):GE X (.Call (.Name x p) (e::es) [] pos) (fCl g fr):=PE.imp (rR hc hg hm hv ha hn hdb he hpl) FH
end
variable {E Q:Oy->OB->Prop}{u:T}{w:OK}
section
variable{X:Cx}
theorem zz1(l:ts.length=xs.length)(e:ts=[t]):∃x,xs=[x]:=by
 subst e;rcases xs with _|⟨x,_|⟨y,xs⟩⟩
 ·cases l
 ·exact⟨x,rfl⟩
 cases l
theorem zz2(l:ts.length=xs.length)(e:ts=[t,u]):∃x y,xs=[x,y]:=by
 subst e;rcases xs with _|⟨x,xs⟩
 ·cases l
 obtain⟨y,rfl⟩:=zz1 (ts:=[u]) (LG l) rfl;exact⟨x,y,rfl⟩
theorem zz3{w:T}(l:ts.length=xs.length)(e:ts=[t,u,w]):∃x y z,xs=[x,y,z]:=by
 subst e;rcases xs with _|⟨x,xs⟩
 ·cases l
 obtain⟨y,z,rfl⟩:=zz2 (ts:=[u,w]) (LG l) rfl;exact⟨x,y,z,rfl⟩
theorem xC{prog:OI}(d:Oz)(nd:(d == O0)=false) :
  Ws prog w (Pn.«dict.__len__» ⟨[.ref d],[]⟩) (fun _ R s=>∃o es ep,s.heap.get? d=some o/\o.data=.dict es ep/\R (.ok (.ret (.int es.size s.toks))) {s with toks:=s.toks+1}):=
 .of_wp fun A R s ⟨o,es,ep,ho,hdat,q⟩=>by show OE _ _ (dictSize d >>= _) _ _ s;unfold dictSize;refine Ox (Ox (Pf ho hdat (OC ?_)));show OE _ _ (VI d >>= _) _ _ s;exact Ox (wpAny_pendingCount_other nd (wpAny_ret_mkInt (by rw[N_];exact q)))
theorem ET{prog:OI}{A:OP}{d:Oz}{o:Obj}{es:Array Qp}{ep:Nat}(nd:(d == O0)=false)(ho:s.heap.get? d=some o)(hc:o.ExactDict)(hdat:o.data=.dict es ep)
  (fit:(es.size:Int)<2 ^ 63) (q:∀t tk,Q (.int es.size t) {s with toks:=tk}):OE (OJ prog w) A (call (.builtin "len") [.ref d]) Q E s:=by
 have ty:s.TypeIs (.ref d) "dict":=⟨_,ho,hc.1⟩;refine QC kind_len plain_len entry_len (args_len1 _) ?_;unfold Pn.«len»;refine Ox (m:=oneArg "len" _) (OC ?_);refine Ox (m:=callSpecial? (.ref d) (P4 "__len__")) (O' (name:=P4 "__len__") ty Td
  (T5 Td ty PySem.F.entry_dict_len (PySem.F.args_dict_len_1 _) (xC d nd) ⟨o,es,ep,ho,hdat,?_⟩))
 show OE _ _ _ _ _ {s with toks:=s.toks+1};refine Ox (OS (OC (Ox (Q5 ?_))));show OE _ _ (if((es.size:Nat):Int)<0 then _ else _) _ _ _;rw[if_neg (by lia)];show OE _ _ (if((es.size:Nat):Int)>=2 ^ 63 then _ else _) _ _ _;rw[if_neg (by lia)];exact Ox (V_ (OC ⟨_,rfl,q _ _⟩))
theorem GU{σ:L2.St}{kvs:List (List Key×V)}(I:Inv X ac σ H s)(e:Rd H a (.dT kvs))(q:∀t s',Inv X ac σ H s'->Q (.int kvs.length t) s'):OE (OJ X.prog X.w) X.A (call (.builtin "len") [.ref a]) Q E s:=by
 obtain⟨z,hd,xs,rel,o,es,ep,h1,h2,h3,h4,_⟩:=oq I.hok e;have hs:es.size=kvs.length:=by have:=congrArg NO h4;rw[a_]at this;rw[<-l_,this];exact(PH rel).symm
 refine ET hd h1 h2 h3 (by rw[sizeLine_eq]at z;lia) fun t tk=>?_
 rw[hs];exact q _ _ (I.tok _)
def JI:P1s
 | [t],k=>match t with
  | .str x=>x.length<=sizeLine/\k (.int x.length)
  | .dK _ kvs=>k (.int kvs.length)
  | .dT _ kvs=>k (.int kvs.length)
  |t=>got (items t) fun ts=>k (.int ts.length)
 | _,_=>False
theorem jB:ja X (.builtin "len") JI:=by
 rintro ac s σ H xs us Q I r ⟨ts,Γ,k,l,rp,g,c⟩
 match ts,l,g with
 | [t],l,g=>
  obtain⟨x,rfl⟩:=zz1 l rfl;have rp:Rp X.K H ((t,some x)::Γ):=rp;have sq:(got (items t) fun ts=>k (.int ts.length))->OE (OJ X.prog X.w) X.A (call (.builtin "len") us) (EP X ac σ Q) X.xe s:=fun g=>by obtain⟨us',e,kt⟩:=aE g;obtain⟨a,vs,rfl,hq,l2,ge⟩:=aD e rp;rw[l2]at kt;exact AO ac s σ H _ us Q I r ⟨_,a,vs,rfl,hq,c _ _ _ kt (cM rp.tail fun _=>.int)⟩
  cases t with
  |str z=>
   rw[jQ rp]at r;exact tE ac s σ H _ us Q I r ⟨z,rfl,g.1,c _ _ _ g.2 (cM rp.tail fun _=>.int)⟩
  |dK o kvs=>
   obtain⟨a,vs,rfl,hq,ek,ge⟩:=sP rp;obtain⟨u,rfl,ru⟩:=vals1 r;cases ru;have g:k (.int kvs.length):=g;rw[fG ek]at g;exact JC I hq fun t s' I'=>⟨.int vs.length,H,I',⟨t,rfl⟩,c _ _ _ g (cM rp.tail fun _=>.int)⟩
  |dT o kvs=>
   obtain⟨a,vs,rfl,hq,ek,ge⟩:=jE rp;obtain⟨u,rfl,ru⟩:=vals1 r;cases ru;have g:k (.int kvs.length):=g;rw[fG ek]at g;exact GU I hq fun t s' I'=>⟨.int vs.length,H,I',⟨t,rfl⟩,c _ _ _ g (cM rp.tail fun _=>.int)⟩
  | _=>exact sq g
 | [],_,g=>exact ON g
 | _::_::_,_,g=>exact ON g
noncomputable def Iy:P1s
 | [.int i],k=>k (.int i.natAbs)
 | _,_=>False
theorem ng:ja X (.builtin "abs") Iy:=by
 rintro ac s σ H xs us Q I r ⟨ts,Γ,k,l,rp,g,c⟩;rcases ts with _|⟨t,_|⟨u,ts⟩⟩
 ·exact g.elim
 rotate_left
 ·cases t <;> exact g.elim
 cases t <;> try exact g.elim
 rename_i i;obtain⟨x,rfl⟩:=zz1 l rfl;have rp:Rp X.K H ((.int i,some x)::Γ):=rp;rw[aT rp]at r;refine C3 ac s σ H _ us Q I r ⟨i,rfl,?_⟩;have e:(if i<0 then -i else i)=(i.natAbs:Int):=by split <;> lia
 rw[e];exact c _ _ _ g (cM rp.tail fun _=>.int)
noncomputable def intsOf:List T->Option (List Int)
 | []=>some []
 | .int i::r=>match intsOf r with
  |some ns=>some (i::ns)
  |none=>none
 | _::_=>none
theorem jw:∀{ts:List T}{ns:List Int},intsOf ts=some ns->ts=ns.map T.int
 | [],ns,e=>by cases e;rfl
 |t::ts,ns,e=>by
  cases t <;> first|cases e|skip
  rename_i i;rw[intsOf]at e;split at e
  ·rename_i ms em;cases e;rw[c_,jw em]
  cases e
theorem jG{K:OA}{H:Hp}{Γ:Fm}:∀{ns:List Int}{vs:List V},(ns.map T.int).length=vs.length->Rp K H (zz (ns.map T.int) vs++Γ)->vs=ns.map V.int
 | [],[],_,_=>rfl
 | [],_::_,l,_=>by simp at l
 | _::_,[],l,_=>by simp at l
 |n::ns,v::vs,l,h=>by
  have h:Rp K H ((.int n,some v)::(zz (ns.map T.int) vs++Γ)):=h;rw[aT h,jG (by simpa using l) h.tail]
  rfl
def BI:P1s
 | [.int i,.int j],k=>k (.int (max i j))
 | [.int i,.int j,.int l],k=>k (.int (max (max i j) l))
 | [t],k=>got (items t) fun ts=>got (intsOf ts) fun ns=>ns≠[]/\∀r,iC ns r->k (.int r)
 | _,_=>False
def Dh:P1s
 | [.int i,.int j],k=>k (.int (min i j))
 | [.int i,.int j,.int l],k=>k (.int (min (min i j) l))
 | [t],k=>got (items t) fun ts=>got (intsOf ts) fun ns=>ns≠[]/\∀r,iD ns r->k (.int r)
 | _,_=>False
theorem iL(hc:X.calm=true):ja X (.builtin "max") BI:=by
 rintro ac s σ H xs us Q I r ⟨ts,Γ,k,l,rp,g,c⟩;unfold BI at g;split at g
 ·rename_i k i j;obtain⟨x,y,rfl⟩:=zz2 l rfl;have rp:Rp X.K H ((.int i,some x)::(.int j,some y)::Γ):=rp;rw[aT rp,aT rp.tail]at r;refine Az hc ac s σ H _ us Q I r ⟨i,j,rfl,?_⟩;have e:(if j > i then j else i)=max i j:=by split <;> lia
  rw[e];exact c _ _ _ g (cM rp.tail.tail fun _=>.int)
 ·rename_i k i j m;obtain⟨x,y,z,rfl⟩:=zz3 l rfl;have rp:Rp X.K H ((.int i,some x)::(.int j,some y)::(.int m,some z)::Γ):=rp;rw[aT rp,aT rp.tail,aT rp.tail.tail]at r;refine AD hc ac s σ H _ us Q I r ⟨i,j,m,rfl,fun w h1 h2 h3 h4=>?_⟩;have e:w=max (max i j) m:=by lia
  rw[e];exact c _ _ _ g (cM rp.tail.tail.tail fun _=>.int)
 ·rename_i k t;obtain⟨x,rfl⟩:=zz1 l rfl;have rp:Rp X.K H ((t,some x)::Γ):=rp;obtain⟨us',e,g⟩:=aE g;obtain⟨ns,en,ne,kt⟩:=aE g;have:=jw en;subst this;obtain⟨a,vs,rfl,hq,l2,ge⟩:=aD e rp;have:=jG l2 ge;subst this;revert hq;cases nH t with
  |true=>exact fun hq=>AF hc ac s σ H _ us Q I r ⟨a,ns,rfl,hq,ne,fun w hw=>c _ _ _ (kt w hw) (cM rp.tail fun _=>.int)⟩
  |false=>exact fun hq=>A6 hc ac s σ H _ us Q I r ⟨a,ns,rfl,hq,ne,fun w hw=>c _ _ _ (kt w hw) (cM rp.tail fun _=>.int)⟩
 exact ON g
theorem ig(hc:X.calm=true):ja X (.builtin "min") Dh:=by
 rintro ac s σ H xs us Q I r ⟨ts,Γ,k,l,rp,g,c⟩;unfold Dh at g;split at g
 ·rename_i k i j;obtain⟨x,y,rfl⟩:=zz2 l rfl;have rp:Rp X.K H ((.int i,some x)::(.int j,some y)::Γ):=rp;rw[aT rp,aT rp.tail]at r;refine zO hc ac s σ H _ us Q I r ⟨i,j,rfl,?_⟩;have e:(if j<i then j else i)=min i j:=by split <;> lia
  rw[e];exact c _ _ _ g (cM rp.tail.tail fun _=>.int)
 ·rename_i k i j m;obtain⟨x,y,z,rfl⟩:=zz3 l rfl;have rp:Rp X.K H ((.int i,some x)::(.int j,some y)::(.int m,some z)::Γ):=rp;rw[aT rp,aT rp.tail,aT rp.tail.tail]at r;refine An hc ac s σ H _ us Q I r ⟨i,j,m,rfl,fun w h1 h2 h3 h4=>?_⟩;have e:w=min (min i j) m:=by lia
  rw[e];exact c _ _ _ g (cM rp.tail.tail.tail fun _=>.int)
 ·rename_i k t;obtain⟨x,rfl⟩:=zz1 l rfl;have rp:Rp X.K H ((t,some x)::Γ):=rp;obtain⟨us',e,g⟩:=aE g;obtain⟨ns,en,ne,kt⟩:=aE g;have:=jw en;subst this;obtain⟨a,vs,rfl,hq,l2,ge⟩:=aD e rp;have:=jG l2 ge;subst this;revert hq;cases nH t with
  |true=>exact fun hq=>Am hc ac s σ H _ us Q I r ⟨a,ns,rfl,hq,ne,fun w hw=>c _ _ _ (kt w hw) (cM rp.tail fun _=>.int)⟩
  |false=>exact fun hq=>AE hc ac s σ H _ us Q I r ⟨a,ns,rfl,hq,ne,fun w hw=>c _ _ _ (kt w hw) (cM rp.tail fun _=>.int)⟩
 exact ON g
noncomputable def Gx:P1s
 | [.int i],k=>k (.int i)
 | [.bl b],k=>k (.int (if b then 1 else 0))
 | _,_=>False
theorem rX:ja X (.type "int") Gx:=by
 rintro ac s σ H xs us Q I r ⟨ts,Γ,k,l,rp,g,c⟩;unfold Gx at g;split at g
 ·rename_i k i;obtain⟨x,rfl⟩:=zz1 l rfl;have rp:Rp X.K H ((.int i,some x)::Γ):=rp;rw[aT rp]at r;exact qM ac s σ H _ us Q I r (.inl ⟨i,rfl,c _ _ _ g (cM rp.tail fun _=>.int)⟩)
 ·rename_i k i;obtain⟨x,rfl⟩:=zz1 l rfl;have rp:Rp X.K H ((.bl i,some x)::Γ):=rp;rw[mL rp]at r;exact qM ac s σ H _ us Q I r (.inr ⟨i,rfl,c _ _ _ g (cM rp.tail fun _=>.int)⟩)
 exact ON g
def xZ:P1s
 | [t],k=>got (items t) fun ts=>k (.lst true ts)
 | _,_=>False
theorem fR:ja X (.type "list") xZ:=by
 rintro ac s σ H xs us Q I r ⟨ts,Γ,k,l,rp,g,c⟩;unfold xZ at g;split at g
 ·rename_i k t;obtain⟨x,rfl⟩:=zz1 l rfl;have rp:Rp X.K H ((t,some x)::Γ):=rp;obtain⟨us',e,kt⟩:=aE g;obtain⟨a,vs,rfl,hq,l2,ge⟩:=aD e rp;exact vU ac s σ H _ us Q I r ⟨_,a,vs,rfl,hq,fun p H' hp g' e'=>c _ _ _ kt (iN ge l2 hp g' e')⟩
 exact ON g
noncomputable def sk:P1s
 | [.tup ts],k=>k (.tup ts)
 | [.cst ts],k=>k (.cst ts)
 | [.lst _ ts],k=>k (.tup ts)
 | _,_=>False
theorem kH:ja X (.type "tuple") sk:=by
 rintro ac s σ H xs us Q I r ⟨ts,Γ,k,l,rp,g,c⟩;unfold sk at g;split at g
 ·rename_i k ts;obtain⟨x,rfl⟩:=zz1 l rfl;have rp:Rp X.K H ((.tup ts,some x)::Γ):=rp;obtain⟨a,vs,rfl,hq,l2,ge⟩:=aD rfl rp;exact nZ ac s σ H _ us Q I r ⟨a,vs,rfl,hq,c _ _ _ g rp⟩
 ·rename_i k ts;obtain⟨x,rfl⟩:=zz1 l rfl;have rp:Rp X.K H ((.cst ts,some x)::Γ):=rp;obtain⟨a,vs,rfl,hq,l2,ge⟩:=aD rfl rp;exact nZ ac s σ H _ us Q I r ⟨a,vs,rfl,hq,c _ _ _ g rp⟩
 ·rename_i k o ts;obtain⟨x,rfl⟩:=zz1 l rfl;have rp:Rp X.K H ((.lst o ts,some x)::Γ):=rp;obtain⟨a,vs,rfl,hq,l2,ge⟩:=aD rfl rp;exact uu ac s σ H _ us Q I r ⟨a,vs,rfl,hq,fun p H' hp g' e'=>c _ _ _ g (jr ge l2 g' e')⟩
 exact ON g
noncomputable def boolsOf:List T->Option (List Bool)
 | []=>some []
 | .bl i::r=>match boolsOf r with
  |some ns=>some (i::ns)
  |none=>none
 | _::_=>none
theorem aS(ns:List Bool):boolsOf (ns.map T.bl)=some ns:=by
 induction ns with
 |nil=>rfl
 |cons n r ih=>rw[c_,boolsOf,ih]
theorem pC:∀{ts:List T}{ns:List Bool},boolsOf ts=some ns->ts=ns.map T.bl
 | [],ns,e=>by cases e;rfl
 |t::ts,ns,e=>by
  cases t <;> first|cases e|skip
  rename_i i;rw[boolsOf]at e;split at e
  ·rename_i ms em;cases e;rw[c_,pC em]
  cases e
theorem pF{K:OA}{H:Hp}{Γ:Fm}:∀{ns:List Bool}{vs:List V},(ns.map T.bl).length=vs.length->Rp K H (zz (ns.map T.bl) vs++Γ)->vs=bools ns
 | [],[],_,_=>rfl
 | [],_::_,l,_=>by simp at l
 | _::_,[],l,_=>by simp at l
 |n::ns,v::vs,l,h=>by
  have h:Rp K H ((.bl n,some v)::(zz (ns.map T.bl) vs++Γ)):=h;rw[mL h,pF (by simpa using l) h.tail]
  rfl
def HA:P1s
 | [.lst _ ts],k=>got (boolsOf ts) fun bs=>k (.bl (bs.all id))
 | _,_=>False
theorem Ak(hc:X.calm=true):ja X (.builtin "all") HA:=by
 rintro ac s σ H xs us Q I r ⟨ts,Γ,k,l,rp,g,c⟩;unfold HA at g;split at g
 ·rename_i k o ts;obtain⟨x,rfl⟩:=zz1 l rfl;have rp:Rp X.K H ((.lst o ts,some x)::Γ):=rp;obtain⟨bs,e,kt⟩:=aE g;have:=pC e;subst this;obtain⟨a,vs,rfl,hq,l2,ge⟩:=aD rfl rp;have:=pF l2 ge;subst this;exact Cc hc ac s σ H _ us Q I r ⟨a,bs,rfl,hq,c _ _ _ kt (cM rp.tail fun _=>.bl)⟩
 exact ON g
abbrev PO':=Ev->(Option Int->Ev->Prop)->Prop
def wO(K:OA)(f:PO'):TO:=fun σ H Q=>∃env Fr k,Rs K H env σ Fr/\f env k/\∀o bm H',k o bm->Rs K H' bm σ Fr->Q o H'
def GO(X:Cx)(e:Option OL)(f:PO'):Prop:=PO X e (wO X.K f)
noncomputable def J0:PO':=fun env k=>k none env
noncomputable def JG(f:PF):PO':=fun env k=>f env fun t al=>match t with
 | .int i=>k (some i) al
 | _=>False
theorem jM:GO X none J0:=by rintro ac s σ H Q I ⟨env,Fr,k,rs,q,c⟩;exact zx ac s σ H Q I (c _ _ _ q rs)
theorem iH{f:PF}(h:GE X e f):GO X (some e) (JG f):=by
 rintro ac s σ H Q I ⟨env,Fr,k,rs,q,c⟩;refine yd h ac s σ H Q I ⟨env,Fr,_,rs,q,fun t al v H1 q1 i'=>?_⟩;cases t <;> first|exact ON q1|skip
 exact⟨_,aT i'.head,c _ _ _ q1 i'.drop⟩
def mQ(ts:List T)(lo hi:Option Int):List T:=(ts.drop (HT.sIx ts.length 0 lo)).take (HT.sIx ts.length ts.length hi-HT.sIx ts.length 0 lo)
def slT:T->Option Int->Option Int->(T->Prop)->Prop
 | .lst _ ts,lo,hi,k=>k (.lst true (mQ ts lo hi))
 | .tup ts,lo,hi,k=>¬(HT.sIx ts.length 0 lo=0/\HT.sIx ts.length ts.length hi=ts.length)/\k (.tup (mQ ts lo hi))
 | .cst ts,lo,hi,k=>¬(HT.sIx ts.length 0 lo=0/\HT.sIx ts.length ts.length hi=ts.length)/\k (.tup (mQ ts lo hi))
 | _,_,_,_=>False
theorem sT:∀(ts:List T) (vs:List V) (n:Nat),zz (ts.drop n) (vs.drop n)=(zz ts vs).drop n
 |ts,vs,0=>rfl
 | [],vs,n+1=>by simp[zz]
 |t::ts,[],n+1=>by simp[zz]
 |t::ts,v::vs,n+1=>by show zz (ts.drop n) (vs.drop n)=(zz ts vs).drop n;exact sT ts vs n
theorem sU:∀(ts:List T) (vs:List V) (n:Nat),zz (ts.take n) (vs.take n)=(zz ts vs).take n
 |ts,vs,0=>by simp[zz]
 | [],vs,n+1=>by simp[zz]
 |t::ts,[],n+1=>by simp[zz]
 |t::ts,v::vs,n+1=>by show(t,some v)::zz (ts.take n) (vs.take n)=(t,some v)::(zz ts vs).take n;rw[sU ts vs n]
theorem xm(l:ts.length=vs.length)(lo hi:Option Int)(h:Rp K H (zz ts vs++Γ)):Rp K H (zz (mQ ts lo hi) (kx vs lo hi)++Γ)/\(mQ ts lo hi).length=(kx vs lo hi).length:=by
 unfold mQ kx;rw[<-l];refine⟨?_,?_⟩
 ·rw[sU,sT];have e1:=Ll (HT.sIx ts.length 0 lo) (zz ts vs);have e2:=Ll (HT.sIx ts.length ts.length hi-HT.sIx ts.length 0 lo) ((zz ts vs).drop (HT.sIx ts.length 0 lo));have h2:Rp K H ((zz ts vs).drop (HT.sIx ts.length 0 lo)++Γ):=by rw[<-e1,o_]at h;exact h.part
  rw[<-e2,o_]at h2;have h3:=h2.perm (s_ _ _ _);exact h3.part
 rw[B_,B_,KU,KU,l]
def fSl(fa:PF)(fl fh:PO'):PF:=fun env k=>fa env fun t al=>fl al fun lo bn=>fh bn fun hi dL=>slT t lo hi fun u=>k u dL
theorem iq{lo hi:Option OL}{fl fh:PO'}{p2:Pos}(he:GE X e fa)(hl:GO X lo fl)(hh:GO X hi fh):GE X (.Subscript e (.Slice lo hi none p2) pos) (fSl fa fl fh):=by
 have sl:SlR X (fun x lo hi H Q=>∃t Γ k,Rp X.K H ((t,some x)::Γ)/\slT t lo hi k/\∀u v H',k u->Rp X.K H' ((u,some v)::Γ)->Q v H'):=by
  rintro ac s σ H x v vl vu lo hi sl Q I rx hs pl pu ⟨t,Γ,k,rp,g,c⟩;cases t with
  |lst o ts=>
   obtain⟨a,vs,rfl,hq,l,ge⟩:=aD rfl rp;obtain⟨gl,l3⟩:=xm l lo hi ge;exact BQ ac s σ H _ v vl vu lo hi sl Q I rx hs pl pu ⟨a,vs,rfl,hq,fun p H' hp g' e=>c _ _ _ g (iN gl l3 hp g' e)⟩
  |tup ts=>
   obtain⟨a,vs,rfl,hq,l,ge⟩:=aD rfl rp;obtain⟨gl,l3⟩:=xm l lo hi ge;exact xP ac s σ H _ v vl vu lo hi sl Q I rx hs pl pu ⟨a,vs,rfl,hq,by rw[<-l];exact g.1,fun p H' hp g' e=>c _ _ _ g.2 (jr gl l3 g' e)⟩
  |cst ts=>
   obtain⟨a,vs,rfl,hq,l,ge⟩:=aD rfl rp;obtain⟨gl,l3⟩:=xm l lo hi ge;exact xP ac s σ H _ v vl vu lo hi sl Q I rx hs pl pu ⟨a,vs,rfl,hq,by rw[<-l];exact g.1,fun p H' hp g' e=>c _ _ _ g.2 (jr gl l3 g' e)⟩
  | _=>exact ON g
 refine PE.imp (ux sl he hl hh) ?_;rintro σ H Q ⟨env,Fr,k,rs,q,c⟩;refine⟨env,Fr,_,rs,q,fun t al v H1 q1 i'=>⟨al,_,_,i',q1,fun lo bn H2 q2 rs2=>⟨bn,_,_,rs2,q2,fun hi dL H3 q3 rs3=>?_⟩⟩⟩;exact⟨t,_,_,rs3.head,q3,fun u w H' ku rp=>c _ _ _ _ ku (.of rs3.1 rp)⟩
end
open PySem PySem.Spec PyProof.Rows L2
inductive Arg where
 |val (t:T)|bor (i:Nat)
noncomputable def pg:Arg->T
 | .val t=>t
 | .bor _=>.any
noncomputable def lend:List Arg->Ev->List T×Ev
 | [],env=>([],env)
 | .val t::r,env=>(t::(lend r env).1,(lend r env).2)
 | .bor i::r,env=>match env[i]? with
  |some t=>(t::(lend r (env.set i .any)).1,(lend r (env.set i .any)).2)
  |none=>(.any::(lend r env).1,(lend r env).2)
noncomputable def back:List Arg->List T->Ev->Ev
 | .bor i::r,t::ts,env=>back r ts (env.set i t)
 | .val _::r,_::ts,env=>back r ts env
 | _,_,env=>env
noncomputable def lR:List Arg->List (Option V)->L2.St->Prop
 | [],[],_=>True
 | .val _::r,_::xs,σ=>lR r xs σ
 | .bor i::r,x::xs,σ=>(σ[i]?=some x\/σ.length<=i)/\lR r xs σ
 | _,_,_=>False
section
variable{K:OA}{H:Hp}{σ:L2.St}
theorem m5:∀{as:List Arg}{xs:List (Option V)}{env:Ev}{Fr:Fm},lR as xs σ->Rs K H env σ ((as.map pg).zip xs++Fr)->Rs K H (lend as env).2 σ ((lend as env).1.zip xs++Fr)
 | [],[],env,Fr,_,h=>h
 | [],_::_,env,Fr,o,_=>o.elim
 | .val t::r,[],env,Fr,o,_=>o.elim
 | .bor i::r,[],env,Fr,o,_=>o.elim
 | .val t::r,x::xs,env,Fr,o,h=>by have h:Rs K H env σ ((t,x)::((r.map pg).zip xs++Fr)):=h;have h2:Rs K H env σ ((r.map pg).zip xs++((t,x)::Fr)):=h.perm f'.symm;exact(m5 (as:=r) o h2).perm f'
 | .bor i::r,x::xs,env,Fr,o,h=>by
  have h:Rs K H env σ ((.any,x)::((r.map pg).zip xs++Fr)):=h;have h:=h.drop;rw[lend];split
  ·rename_i t e;obtain⟨y,ey,h2⟩:=h.slot e;have o1:σ[i]?=some x:=by
    rcases o.1 with z|z
    ·exact z
    have:=(f_.mp ey).1;lia
   rw[o1]at ey;cases ey;have h3:Rs K H (env.set i .any) σ ((r.map pg).zip xs++((t,x)::Fr)):=h2.perm f'.symm;exact(m5 (as:=r) o.2 h3).perm f'
  have h3:Rs K H env σ ((r.map pg).zip xs++((.any,x)::Fr)):=(Rs.of h.1 (k7 (x:=x) h.2)).perm f'.symm;exact(m5 (as:=r) o.2 h3).perm f'
theorem mP:∀{as:List Arg}{xs:List (Option V)}{ts:List T}{env:Ev}{Fr:Fm},lR as xs σ->Rs K H env σ (ts.zip xs++Fr)->Rs K H (back as ts env) σ Fr
 | [],xs,ts,env,Fr,_,h=>by
  have:back [] ts env=env:=by cases ts <;> rfl
  rw[this];exact⟨h.1,(h.2.perm (s_ _ _ _)).part⟩
 |a::r,xs,[],env,Fr,_,h=>by
  have:back (a::r) [] env=env:=by cases a <;> rfl
  rw[this];exact h
 | .val t::r,[],u::ts,env,Fr,o,_=>o.elim
 | .bor i::r,[],u::ts,env,Fr,o,_=>o.elim
 | .val t::r,x::xs,u::ts,env,Fr,o,h=>by have h:Rs K H env σ ((u,x)::(ts.zip xs++Fr)):=h;exact mP (as:=r) o h.drop
 | .bor i::r,x::xs,u::ts,env,Fr,o,h=>by
  have h:Rs K H env σ ((u,x)::(ts.zip xs++Fr)):=h;rw[back];by_cases hi:i<env.length
  ·have o1:σ[i]?=some x:=by
    rcases o.1 with z|z
    ·exact z
    have:=h.1;lia
   exact mP (as:=r) o.2 (h.ni hi o1)
  have e:env.set i u=env:=Mj (by lia);rw[e];exact mP (as:=r) o.2 h.drop
theorem Rs.put (h:Rs K H env σ ((t,some v)::Fr)):Rs K H (env.set i t) (σ.set i (some v)) Fr:=by
 by_cases hi:i<env.length
 ·exact h.store hi
 rw[Mj (by lia),Mj (by rw[<-h.1];lia)];exact h.drop
end
abbrev PAs:=Ev->(List Arg->Ev->Prop)->Prop
def wR(K:OA)(f:PAs):TA:=fun σ H Q=>∃env Fr k,Rs K H env σ Fr/\f env k/\∀as bm vs H',k as bm->as.length=vs.length->lR as (vs.map some) σ->Rs K H' bm σ ((as.map pg).zip (vs.map some)++Fr)->Q vs H'
def GR(X:Cx)(es:List OL)(f:PAs):Prop:=PA X es (wR X.K f)
noncomputable def IX:PAs:=fun env k=>k [] env
noncomputable def Jl(f:PF)(r:PAs):PAs:=fun env k=>f env fun t al=>r al fun as bn=>k (.val t::as) bn
def Ic(i:Nat)(r:PAs):PAs:=fun env k=>(match env[i]? with
 |some t=>isAny t=false
 |none=>False)/\r env fun as bn=>k (.bor i::as) bn
section
variable{X:Cx}{e:OL}{es:List OL}{f:PF}{fr:PAs}
theorem aw:GR X [] IX:=PA.imp lH (by rintro σ H Q ⟨env,Fr,k,rs,q,c⟩;exact c [] env [] H q rfl trivial rs)
theorem ai(he:GE X e f)(hr:GR X es fr)(hs:OO (e::es) X.env=(false,O1 e X.env)::OO es X.env:=by rfl):GR X (e::es) (Jl f fr):=by refine PA.imp (j3 he hr hs) ?_;rintro σ H Q ⟨env,Fr,k,rs,q,c⟩;refine⟨env,Fr,_,rs,q,fun t al v H1 q1 i'=>⟨al,_,_,i',q1,fun as bn vs H2 q2 l ao rs2=>c _ _ _ _ q2 (by rw[g_,g_,l]) ao ?_⟩⟩;exact rs2.perm f'
theorem aH(i:Nat){x:Str}(hr:GR X es fr)(hN:X.N[i]?=some x:=by rfl)(hv:Vis X.env.scope x:=by first|exact d_ rfl|exact j_ (d_ rfl)|exact j_ (j_ rfl))(hd:(x ==("__debug__":Str))=false:=by decide)(hcd:(x ==("__classdict__":Str))=false:=by decide)
  (hs:OO (.Name x pos::es) X.env=(false,O1 (.Name x pos) X.env)::OO es X.env:=by rfl):GR X (.Name x pos::es) (Ic i fr):=by
 refine PA.imp (j3 (jL hN hv hd hcd) hr hs) ?_;rintro σ H Q ⟨env,Fr,k,rs,⟨na,q⟩,c⟩;split at na
 ·rename_i t e;obtain⟨y,ey,rs2⟩:=rs.slot e;obtain⟨v,rfl⟩:=iP rs2 na;refine⟨v,ey,env,Fr,_,rs,q,fun as bn vs H2 q2 l ao rs2=>c _ _ _ _ q2 (by rw[g_,g_,l]) ⟨.inl ey,ao⟩ ?_⟩;exact .of rs2.1 (k7 rs2.2)
 exact na.elim
end
abbrev FP:=List T->(T->List T->Prop)->Prop
def aI(K:OA)(n:Nat)(P:FP):Sp:=fun vs H Q _=>∃ts Fr k,ts.length=vs.length/\vs.length=n/\Rp K H (zz ts vs++Fr)/\P ts k/\∀t ts' v H',k t ts'->Rp K H' ((t,some v)::(zz ts' vs++Fr))->Q v H'
noncomputable def IA(P:FP)(ts:List T)(k:T->List T->Prop):Prop:=P ts k
def Gn(n:Nat)(P:FP)(fr:PAs):PF:=fun env k=>fr env fun as al=>as.length=n/\IA P (lend as al).1 fun t ts'=>k t (back as ts' (lend as al).2)
variable {P:FP}{ps:List Str}
section
variable{X:Cx}
theorem kh:∀(as:List Arg) (env:Ev),(lend as env).1.length=as.length
 | [],env=>rfl
 | .val t::r,env=>by rw[lend,g_,g_,kh r]
 | .bor i::r,env=>by
  rw[lend];split
  ·rw[g_,g_,kh r]
  rw[g_,g_,kh r]
theorem EZ{fr:PAs}:∀ σ H Q,wE X.K (Gn n P fr) σ H Q->CZ (aI X.K n P) [] E0 (wR X.K fr) σ H Q:=by
 rintro σ H Q ⟨env,Fr,k,rs,q,c⟩;refine⟨env,Fr,_,rs,q,fun as al vs H1 ⟨hn,q1⟩ l ao i'=>?_⟩;show aI X.K n P (vs++[]) H1 Q E0;rw[J'];have rs2:=m5 ao i';refine⟨(lend as al).1,(lend as al).2.zip σ++Fr,_,by rw[kh,l],by rw[<-l];exact hn,?_,q1,fun t ts' v H' kt rp=>c _ _ _ _ kt ?_⟩
 ·exact rs2.2.perm (s_ _ _ _)
 have h3:Rs X.K H' (lend as al).2 σ (zz ts' vs++((t,some v)::Fr)):=⟨rs2.1,rp.perm (by refine u_ ?_ (s_ _ _ _);refine u_ f'.symm ?_;exact L0 _ f'.symm)⟩
 exact mP ao h3
theorem av{k:Nat}{x:Str}{fr:PAs}{p:Pos}(D:Cal X.prog X.w X.K X.mg X.base j x ps (aI X.K n P))(hr:Room k X.A)(hg:Gl X x)(ha:GR X (e::es) fr)(hjk:j<=k:=by omega)(hdb:(x ==("__debug__":Str))=false:=by decide)
  (he:OO (e::es) X.env=(false,O1 e X.env)::OO es X.env:=by rfl) (hpl:(QF pos (OO es X.env)).any (·.1)=false:=by rfl):GE X (.Call (.Name x p) (e::es) [] pos) (Gn n P fr):=PE.imp (Hl D hr hg ha hjk hdb he hpl) EZ
end
structure PEn where
 nx:Ev->Prop
 rt:T->Ev->Prop
 bk:Ev->Prop:=fun _=>False
 ct:Ev->Prop:=fun _=>False
abbrev PSt:=PEn->Ev->Prop
noncomputable def Kept(κ:Nat->Bool)(σ f8:L2.St):Prop:=f8.length=σ.length/\∀j,κ j=true->f8[j]?=σ[j]?
variable {κ:Nat->Bool}
theorem Kept.refl {σ:L2.St}:Kept κ σ σ:=⟨rfl,fun _ _=>rfl⟩
variable {f8:L2.St}
theorem Kept.trans {σ σ'':L2.St}(a:Kept κ σ f8)(b:Kept κ f8 σ''):Kept κ σ σ'':=⟨b.1.trans a.1,fun j h=>(b.2 j h).trans (a.2 j h)⟩
theorem Kept.set {σ:L2.St}(h:κ i=false):Kept κ σ (σ.set i x):=⟨KG,fun j hj=>by
 by_cases e:i=j
 ·subst e;rw[h]at hj;cases hj
 rw[MA e]⟩
structure EndOk (K:OA) (κ:Nat->Bool) (σ:L2.St) (Fr:Fm) (pe:PEn) (D:Ends):Prop where
 nx:∀bm f8 H',pe.nx bm->Rs K H' bm f8 Fr->Kept κ σ f8->D.nx f8 H'
 rt:∀t bm v f8 H',pe.rt t bm->Rs K H' bm f8 ((t,some v)::Fr)->Kept κ σ f8->D.rt v H'
 bk:∀bm f8 H',pe.bk bm->Rs K H' bm f8 Fr->Kept κ σ f8->D.bk f8 H'
 ct:∀bm f8 H',pe.ct bm->Rs K H' bm f8 Fr->Kept κ σ f8->D.ct f8 H'
variable {pe:PEn}
theorem EndOk.later {σ:L2.St}{D:Ends}(h:EndOk K κ σ Fr pe D)(k:Kept κ σ f8):EndOk K κ f8 Fr pe D:=
 ⟨fun a b c p q r=>h.nx a b c p q (k.trans r),fun a b c d e p q r=>h.rt a b c d e p q (k.trans r),fun a b c p q r=>h.bk a b c p q (k.trans r),fun a b c p q r=>h.ct a b c p q (k.trans r)⟩
def wS(K:OA)(κ:Nat->Bool)(f:PSt):TS:=fun D σ H=>∃env Fr pe,Rs K H env σ Fr/\f pe env/\EndOk K κ σ Fr pe D
def GS(κ:Nat->Bool)(X:Cx)(st:OY)(f:PSt):Prop:=PS X st (wS X.K κ f)
def GSs(κ:Nat->Bool)(X:Cx)(sts:List OY)(f:PSt):Prop:=PSs X sts (wS X.K κ f)
variable {st:OY}
theorem PS.imp {t t':TS}(h:PS X st t)(k:∀D σ H,t' D σ H->t D σ H):PS X st t':=fun ac s σ H D I q=>h ac s σ H D I (k _ _ _ q)
theorem PSs.imp {st:List OY}{t t':TS}(h:PSs X st t)(k:∀D σ H,t' D σ H->t D σ H):PSs X st t':=fun ac s σ H D I q=>h ac s σ H D I (k _ _ _ q)
noncomputable def FZ:PSt:=fun pe env=>pe.nx env
noncomputable def Jh(f g:PSt):PSt:=fun pe env=>f {pe with nx:=g pe} env
variable {c:OL}{tc:PB}
section
variable{X:Cx}{κ:Nat->Bool}{pos:Pos}{st:OY}{rest:List OY}{f g:PSt}{e:OL}{fe:PF}
theorem ba:GSs κ X [] FZ:=PSs.imp t9 (by rintro D σ H ⟨env,Fr,pe,rs,q,c⟩;exact c.nx _ _ _ q rs .refl)
theorem ah(h1:GS κ X st f)(h2:GSs κ X rest g):GSs κ X (st::rest) (Jh f g):=by refine PSs.imp (dw h1 h2) ?_;rintro D σ H ⟨env,Fr,pe,rs,q,c⟩;refine⟨env,Fr,_,rs,q,⟨fun bm f8 H' q1 i' k1=>⟨bm,Fr,pe,i',q1,c.later k1⟩,c.rt,c.bk,c.ct⟩⟩
theorem aj(h1:GS κ X st f):GSs κ X [st] f:=ml h1
noncomputable def FI(fe:PF):PSt:=fun pe env=>fe env fun _ al=>pe.nx al
theorem iE(he:GE X e fe)(hs:Ra e none pos.line X.env=pure false:=by rfl):GS κ X (.Expr e pos) (FI fe):=by refine PS.imp (Ec he hs) ?_;rintro D σ H ⟨env,Fr,pe,rs,q,c⟩;exact⟨env,Fr,_,rs,q,fun t bm v H' q1 i'=>c.nx _ _ _ q1 i'.drop .refl⟩
noncomputable def JN(fe:PF):PSt:=fun pe env=>fe env fun t al=>pe.rt t al
theorem aM(he:GE X e fe):GS κ X (.Return (some e) pos) (JN fe):=by refine PS.imp (sj he) ?_;rintro D σ H ⟨env,Fr,pe,rs,q,c⟩;exact⟨env,Fr,_,rs,q,fun t bm v H' q1 i'=>c.rt _ _ _ _ _ q1 i' .refl⟩
def sIf(tc:PB)(f g:PSt):PSt:=fun pe env=>tc env fun b al=>cnd b (f pe al) (g pe al)
theorem dv{a b:List OY}(hc:GT X c tc)(ha:GSs κ X a f)(hb:GSs κ X b g):GS κ X (.If c a b pos) (sIf tc f g):=by refine PS.imp (BN hc ha hb) ?_;rintro D σ H ⟨env,Fr,pe,rs,q,c⟩;refine⟨env,Fr,_,rs,q,fun b bm H' q1 i'=>iV ⟨fun h=>⟨bm,Fr,pe,i',q1.1 h,c⟩,fun h=>⟨bm,Fr,pe,i',q1.2 h,c⟩⟩⟩
noncomputable def EG(i:Nat)(fe:PF):PSt:=fun pe env=>fe env fun t al=>pe.nx (al.set i t)
theorem ax{i:Nat}{x:Str}{pos':Pos}(hN:X.N.Nodup)(hi:X.N[i]?=some x)(hx:Loc X.env.scope x)(hκ:κ i=false)(he:GE X e fe)(hs:Ra e (some (.Name x pos')) pos.line X.env=pure false:=by rfl)(hf:X.fn x=true\/X.env.scope.names.lookup x=some .local:=by first|exact .inl rfl|exact .inr rfl|assumption) :
  GS κ X (.Assign [.Name x pos'] e pos) (EG i fe):=by
 refine PS.imp (jY hN hi hx he hs hf) ?_;rintro D σ H ⟨env,Fr,pe,rs,q,c⟩;exact⟨env,Fr,_,rs,q,fun t bm v H' q1 i'=>c.nx _ _ _ q1 i'.put (.set hκ)⟩
abbrev PG':=T->Ev->(Ev->Prop)->Prop
abbrev oB:=List T->Ev->(Ev->Prop)->Prop
def wG(K:OA)(κ:Nat->Bool)(f:PG'):TG:=fun v σ H Q=>∃t env Fr k,Rs K H env σ ((t,some v)::Fr)/\f t env k/\∀bm f8 H',k bm->Rs K H' bm f8 Fr->Kept κ σ f8->Q f8 H'
def wGs(K:OA)(κ:Nat->Bool)(f:oB):TGs:=fun vs σ H Q=>∃ts env Fr k,ts.length=vs.length/\Rs K H env σ (zz ts vs++Fr)/\f ts env k/\∀bm f8 H',k bm->Rs K H' bm f8 Fr->Kept κ σ f8->Q f8 H'
def GG(κ:Nat->Bool)(X:Cx)(tg:OL)(f:PG'):Prop:=PG X tg (wG X.K κ f)
def GGs(κ:Nat->Bool)(X:Cx)(tgs:List OL)(f:oB):Prop:=PGs X tgs (wGs X.K κ f)
noncomputable def gN(i:Nat):PG':=fun t env k=>k (env.set i t)
theorem au{i:Nat}{x:Str}(hN:X.N.Nodup)(hi:X.N[i]?=some x)(hx:Loc X.env.scope x)(hκ:κ i=false)(hf:X.fn x=true\/X.env.scope.names.lookup x=some .local:=by first|exact .inl rfl|exact .inr rfl|assumption):GG κ X (.Name x pos) (gN i):=
 fun ac s σ H v u Q I r ⟨t,env,Fr,k,rs,q,c⟩=>ye hN hi hx hf ac s σ H v u Q I r (c _ _ _ q rs.put (.set hκ))
noncomputable def FR:oB:=fun ts env k=>ts=[]/\k env
noncomputable def CD(f:PG')(r:oB):oB:=fun ts env k=>match ts with
 |t::ts=>f t env fun al=>r ts al k
 | []=>False
noncomputable def gTp(n:Nat)(f:oB):PG':=fun t env k=>match t with
 | .tup ts=>ts.length=n/\f ts env k
 | .cst ts=>ts.length=n/\f ts env k
 | _=>False
end
open PySem PySem.Spec PyProof.Rows L2
variable {body:List OY}{fb:PSt}{iter:OL}
section
variable{X:Cx}{κ:Nat->Bool}{pos:Pos}{e tg:OL}{es:List OL}{fe:PF}{g:PG'}{gs:oB}
theorem du:GGs κ X [] FR:=by
 rintro ac s σ H vs us Q I r ⟨ts,env,Fr,k,l,rs,⟨e,q⟩,c⟩;subst e;have:vs=[]:=by cases vs with|nil=>rfl|cons _ _=>cases l
 subst this;exact xN ac s σ H [] us Q I r ⟨rfl,c _ _ _ q rs .refl⟩
theorem aC(h1:GG κ X e g)(h2:GGs κ X es gs)(hs:(Po (e::es) X.env).map (·.2)=Rb e X.env::(Po es X.env).map (·.2):=by rfl):GGs κ X (e::es) (CD g gs):=by
 rintro ac s σ H vs us Q I r ⟨ts,env,Fr,k,l,rs,q,c⟩;cases ts with
 |nil=>exact ON q
 |cons t ts=>
  cases vs with
  |nil=>cases l
  |cons v vs=>
   have q:g t env fun al=>gs ts al k:=q;refine pI h1 h2 hs ac s σ H (v::vs) us Q I r ⟨v,vs,rfl,t,env,zz ts vs++Fr,_,rs,q,fun al σ1 H1 q1 i' k1=>?_⟩;exact⟨ts,al,Fr,k,by simpa using l,i',q1,fun bn σ2 H2 q2 rs2 k2=>c _ _ _ q2 rs2 (k1.trans k2)⟩
theorem fM{x1 n:Nat}(hc:X.calm=true)(h:GGs κ X es gs)(hn:(Po es X.env).length=n:=by rfl)(hst:(Po es X.env).findIdx? (·.1)=none:=by rfl):GG κ X (.Tuple es x1 pos) (gTp n gs):=by
 rintro ac s σ H v u Q I r ⟨t,env,Fr,k,rs,q,c⟩;have go:∀ts,items t=some ts->nH t=true->ts.length=n->gs ts env k->OE (OJ X.prog X.w) X.A (Rb (.Tuple es x1 pos) X.env u) (fun _ s'=>∃ f8 H',Inv X ac f8 H' s'/\Q f8 H') X.xe s:=fun ts e1 e2 e3 q=>by obtain⟨a,vs,rfl,hq,l,rp⟩:=aD e1 rs.head;rw[e2]at hq;refine Bx hc h hn hst ac s σ H _ u Q I r ⟨a,vs,rfl,hq,by rw[<-l];exact e3,ts,env,Fr,k,l,⟨rs.1,?_⟩,q,c⟩;exact rp.perm (s_ _ _ _)
 cases t with
 |tup ts=>exact go ts rfl rfl q.1 q.2
 |cst ts=>exact go ts rfl rfl q.1 q.2
 | _=>exact ON q
noncomputable def Ji(fe:PF)(g:PG'):PSt:=fun pe env=>fe env fun t al=>g t al pe.nx
theorem lE(he:GE X e fe)(hg:GG κ X tg g)(hs:R5 [tg] e pos.line X.env=pure false:=by rfl)(hw:R6 [tg] e X.env=pure none:=by rfl)(h1:(Po [tg] X.env).map (·.2)=[Rb tg X.env]:=by rfl) :
  GS κ X (.Assign [tg] e pos) (Ji fe g):=by
 refine PS.imp (B8 he hg hs hw h1) ?_;rintro D σ H ⟨env,Fr,pe,rs,q,c⟩;exact⟨env,Fr,_,rs,q,fun t bm v H' q1 i'=>⟨t,bm,Fr,_,i',q1,fun bn σ2 H2 q2 rs2 k2=>c.nx _ _ _ q2 rs2 k2⟩⟩
noncomputable def Jj(i j:Nat)(fr:PFs):PSt:=fun pe env=>fr env fun ts al=>match ts with
 | [t,u]=>pe.nx ((al.set i t).set j u)
 | _=>False
theorem mY{x y:Str}{a b:OL}{fr:PFs}{px py pt:Pos}{kt k2 pt2}(hc:X.calm=true)(hN:X.N.Nodup)(hi:X.N[i]?=some x)(hj:X.N[j]?=some y)(ld:i≠j)
  (hx:X.env.scope.names.lookup x=some .local) (hy:X.env.scope.names.lookup y=some .local) (hκi:κ i=false) (hκj:κ j=false) (ha:GA X [a,b] fr)
  (hw:R6 [.Tuple [.Name x px,.Name y py] kt pt] (.Tuple [a,b] k2 pt2) X.env=pure (some [x,y])) (hs:R5 [.Tuple [.Name x px,.Name y py] kt pt] (.Tuple [a,b] k2 pt2) pos.line X.env=pure false:=by rfl) :
  GS κ X (.Assign [.Tuple [.Name x px,.Name y py] kt pt] (.Tuple [a,b] k2 pt2) pos) (Jj i j fr):=by
 refine PS.imp (Hr hc hN hi hj ld hx hy ha hw hs) ?_;rintro D σ H ⟨env,Fr,pe,rs,q,c⟩;refine⟨env,Fr,_,rs,q,fun ts al vs H1 q1 l i'=>?_⟩;rcases ts with _|⟨t,_|⟨u,_|⟨t3,ts⟩⟩⟩
 ·exact q1.elim
 ·exact q1.elim
 ·obtain⟨v,w,rfl⟩:=zz2 l rfl;refine⟨v,w,rfl,c.nx _ _ _ q1 ?_ ((Kept.set hκi).trans (Kept.set hκj))⟩;have r1:Rs X.K H1 al σ ((t,some v)::(u,some w)::Fr):=i';exact Rs.put (Rs.put r1)
 exact q1.elim
def wy(tc:PB)(fb:PSt)(pe:PEn)(env:Ev):Prop:=∃W:Nat->Ev->Prop,(∃m,W m env)/\∀m env,W m env->tc env fun b al=>cnd b (fb {pe with nx:=fun e=>∃m',m'<m/\W m' e,ct:=fun e=>∃m',m'<m/\W m' e,bk:=pe.nx} al) (pe.nx al)
def C5(tc:PB)(fb:PSt):PSt:=fun pe env=>wy tc fb pe env
theorem Co(hp:TY (OJ X.prog X.w) X.A X.env X.xe)(hc:GT X c tc)(hb:GSs κ X body fb):GS κ X (.While c body [] pos) (C5 tc fb):=by
 refine PS.imp (B6 hp hc hb) ?_;rintro D σ H ⟨env,Fr,pe,rs,⟨W,⟨m0,w0⟩,wt⟩,c⟩;refine⟨fun m f8 H'=>∃bm,W m bm/\Rs X.K H' bm f8 Fr/\Kept κ σ f8,⟨m0,env,w0,rs,.refl⟩,?_⟩;rintro m σ1 H1 ⟨al,w1,i',k1⟩;refine⟨al,Fr,_,i',wt m al w1,fun b bn H2 q2 rs2=>iV ⟨fun h=>?_,fun h=>c.nx _ _ _ (q2.2 h) rs2 k1⟩⟩;refine⟨fun f8 H'=>∃m' bm,m'<m/\W m' bm/\Rs X.K H' bm f8 Fr/\Kept κ σ f8,fun f8 H' ⟨m',bm,hm,w',r',k'⟩=>⟨m',hm,bm,w',r',k'⟩,bn,Fr,_,rs2,q2.1 h,⟨?_,?_,?_,?_⟩⟩
 ·exact fun bm f8 H' ⟨m',hm,w'⟩ r' k'=>⟨m',bm,hm,w',r',k1.trans k'⟩
 ·exact fun t bm v f8 H' p r' k'=>c.rt _ _ _ _ _ p r' (k1.trans k')
 ·exact fun bm f8 H' p r' k'=>c.nx _ _ _ p r' (k1.trans k')
 exact fun bm f8 H' ⟨m',hm,w'⟩ r' k'=>⟨m',bm,hm,w',r',k1.trans k'⟩
structure ItOk (K:OA) (J:It) (be:List T) (Fg:Fm):Prop where
 turn:∀i t H Γ,be[i]?=some t->Rp K H (Fg++Γ)->J.go i H/\∀x H',J.yld i H x H'->Rp K H' ((t,some x)::(Fg++Γ))
 stop:∀H Γ,Rp K H (Fg++Γ)->J.stop be.length H
abbrev PIt:=Ev->(List T->Ev->Prop)->Prop
def wI(K:OA)(f:PIt):TI:=fun σ H R=>∃env Fr k,Rs K H env σ Fr/\f env k/\∀be bm J Fg H',k be bm->Rs K H' bm σ (Fg++Fr)->ItOk K J be Fg->R J H'
def GI(X:Cx)(tg iter:OL)(f:PIt):Prop:=PI X tg iter (wI X.K f)
noncomputable def forL(be:List T)(g:PG')(fb:PSt)(pe:PEn)(al:Ev):Prop:=∃W:Nat->Ev->Prop,W 0 al/\(∀i t env,W i env->be[i]?=some t->g t env fun bn=>fb {pe with nx:=W (i+1),ct:=W (i+1),bk:=pe.nx} bn)/\∀env,W be.length env->pe.nx env
def JB(fi:PIt)(g:PG')(fb:PSt):PSt:=fun pe env=>fi env fun be al=>forL be g fb pe al
theorem pO{σ:L2.St}{Fg:Fm}(h:Rs K H env σ (Fg++Fr)):Rs K H env σ Fr:=⟨h.1,(h.2.perm (s_ _ _ _)).part⟩
theorem bB{fi:PIt}{g:PG'}(hp:TY (OJ X.prog X.w) X.A X.env X.xe)(hc:X.calm=true)(hi:GI X tg iter fi)(hg:GG κ X tg g)(hb:GSs κ X body fb)(hs:∀x,Pw iter X.env x=pure x:=by intro _;rfl):GS κ X (.For tg iter body [] pos) (JB fi g fb):=by
 refine PS.imp (Gz hp hc hi hg hb hs) ?_;rintro D σ H ⟨env,Fr,pe,rs,q,c⟩;refine⟨env,Fr,_,rs,q,?_⟩;rintro be al J Fg H1 ⟨W,w0,wt,we⟩ i' ok;refine⟨fun i m f8 H'=>∃bm,W i bm/\Rs X.K H' bm f8 (Fg++Fr)/\Kept κ σ f8/\m+i=be.length,⟨be.length,al,w0,i',.refl,rfl⟩,?_⟩;rintro i m σ1 H2 ⟨bn,w2,rs2,k2,hm⟩;have ge:Rp X.K H2 (Fg++(bn.zip σ1++Fr)):=rs2.2.perm (s_ _ _ _);by_cases lf:i<be.length
 ·have ei:be[i]?=some be[i]:=e_ lf;obtain⟨hgo,hy⟩:=ok.turn i be[i] H2 _ ei ge;refine .inr ⟨hgo,fun f8 H'=>∃bm,W (i+1) bm/\Rs X.K H' bm f8 (Fg++Fr)/\Kept κ σ f8,fun f8 H' ⟨bm,w',r',k'⟩=>⟨m-1,by lia,bm,w',r',k',by lia⟩,fun x H' hx=>?_⟩;have gl:=hy x H' hx;have rs3:Rs X.K H' bn σ1 ((be[i],some x)::(Fg++Fr)):=.of rs2.1 (gl.perm (.cons _ (s_ _ _ _)));refine⟨be[i],bn,Fg++Fr,_,rs3,wt i be[i] bn w2 ei,fun dL σ3 H3 q3 rs4 k4=>?_⟩;refine⟨dL,Fg++Fr,_,rs4,q3,⟨?_,?_,?_,?_⟩⟩
  ·exact fun bm f8 H' w' r' k'=>⟨bm,w',r',k2.trans (k4.trans k')⟩
  ·exact fun t bm v f8 H' p r' k'=>c.rt _ _ _ _ _ p (pO (Fg:=Fg) (r'.perm f'.symm)) (k2.trans (k4.trans k'))
  ·exact fun bm f8 H' p r' k'=>c.nx _ _ _ p (pO r') (k2.trans (k4.trans k'))
  exact fun bm f8 H' w' r' k'=>⟨bm,w',r',k2.trans (k4.trans k')⟩
 have:i=be.length:=by lia
 subst this;exact .inl ⟨ok.stop H2 _ ge,c.nx _ _ _ (we bn w2) (pO rs2) k2⟩
end
variable {as:List T}
section
variable{X:Cx}{pos:Pos}{e tg:OL}{fe:PF}
def Jf(fe:PF):PIt:=fun env k=>fe env fun t al=>got (items t) fun ts=>k (erL ts) al
theorem Gh(e:items t=some ts)(n:aU t=true):ItOk K (Its K (nH t) a) ts [(t,some (.ref a))] where
 turn:=fun i u H Γ ei rp=>by obtain⟨a',vs,ea,hq,l,ge⟩:=aD e (kc rp n);cases ea;obtain⟨w,ew⟩:=nW l ei;refine⟨GQ hq rfl i H .gy (by have:=(f_.mp ew).1;exact this),fun x H' hy=>?_⟩;obtain⟨rfl,hx⟩:=DN hq .gy hy;rw[ew]at hx;cases hx;exact jF ge ei ew
 stop:=fun H Γ rp=>by obtain⟨a',vs,ea,hq,l,ge⟩:=aD e rp;cases ea;exact BW hq l.symm H .gy
theorem md(e:items t=some ts):items (er t)=some (erL ts)/\nH (er t)=nH t:=by cases t <;> cases e <;> exact⟨rfl,rfl⟩
theorem aX(h:GE X e fe):GI X tg e (Jf fe):=by rintro ac s σ H R I ⟨env,Fr,k,rs,q,c⟩;refine I0 h ac s σ H R I ⟨env,Fr,_,rs,q,fun t al v H1 q1 i'=>?_⟩;obtain⟨ts,e1,kt⟩:=aE q1;have rf:Rp X.K H1 ((er t,some v)::(al.zip σ++Fr)):=lN i'.head;obtain⟨e2,e3⟩:=md e1;obtain⟨a,vs,rfl,hq,l,ge⟩:=aD e2 rf;exact⟨nH (er t),a,vs,rfl,hq,c _ _ _ _ _ kt (Rs.of (Fr:=Fr) i'.1 rf) (Gh e2 (aL t))⟩
noncomputable def nM(lo:Int)(n:Nat):List T:=(A' n).map fun(i:Nat)=>.int (lo+(i:Int))
theorem Bj(lo:Int)(n:Nat):ItOk K (Itr lo n) (nM lo n) [] where
 turn:=fun i t H Γ ei rp=>by
  unfold nM at ei;rw[p_]at ei;have hi:i<n:=by
   cases h:(A' n)[i]? with
   |none=>rw[h]at ei;cases ei
   |some j=>
    have:=(f_.mp h).1;simpa using this
  rw[LN hi]at ei;cases ei;refine⟨hi,fun x H' ⟨e1,e2⟩=>?_⟩;subst e1;subst e2;exact cM rp fun _=>.int
 stop:=fun H Γ rp=>by show n<=_;unfold nM;rw[a_,K_];exact b_ _
def iR1(fr:PFs):PIt:=fun env k=>fr env fun ts al=>match ts with
 | [.int j]=>(-(2 ^ 62)<=j/\j<2 ^ 62)/\k (nM 0 j.toNat) al
 | _=>False
def iR2(fr:PFs):PIt:=fun env k=>fr env fun ts al=>match ts with
 | [.int i,.int j]=>(-(2 ^ 62)<=i/\i<2 ^ 62/\-(2 ^ 62)<=j/\j<2 ^ 62)/\k (nM i (j-i).toNat) al
 | _=>False
variable{a b c:OL}{fr:PFs}{p:Pos}
theorem fJ(hg:Gl X "range")(hm:X.mg "range"=none)(ha:GA X [a] fr)(hs:OO [a] X.env=[(false,O1 a X.env)]:=by rfl):GI X tg (.Call (.Name "range" p) [a] [] pos) (iR1 fr):=by
 rintro ac s σ H R I ⟨env,Fr,k,rs,q,c⟩;refine Af hg hm ha hs ac s σ H R I ⟨env,Fr,_,rs,q,fun ts al vs H1 q1 l i'=>?_⟩;rcases ts with _|⟨t,_|⟨t2,ts⟩⟩
 ·exact q1.elim
 ·cases t <;> first|exact q1.elim|skip
  rename_i j;rcases vs with _|⟨v,_|⟨v2,vs⟩⟩
  ·cases l
  ·have i':Rs X.K H1 al σ ((.int j,some v)::Fr):=i';rw[aT i'.head];exact⟨j,rfl,q1.1.1,q1.1.2,c _ _ _ [] _ q1.2 i'.drop (Bj 0 _)⟩
  cases l
 cases t <;> exact q1.elim
theorem i9(hg:Gl X "range")(hm:X.mg "range"=none)(ha:GA X [a,b] fr)(hs:OO [a,b] X.env=[(false,O1 a X.env),(false,O1 b X.env)]:=by rfl)(hs2:OO [b] X.env=[(false,O1 b X.env)]:=by rfl):GI X tg (.Call (.Name "range" p) [a,b] [] pos) (iR2 fr):=by
 rintro ac s σ H R I ⟨env,Fr,k,rs,q,c⟩;refine A8 hg hm ha hs hs2 ac s σ H R I ⟨env,Fr,_,rs,q,fun ts al vs H1 q1 l i'=>?_⟩;rcases ts with _|⟨t,_|⟨u,_|⟨t3,ts⟩⟩⟩
 ·exact q1.elim
 ·cases t <;> exact q1.elim
 ·cases t <;> try exact q1.elim
  cases u <;> try exact q1.elim
  rename_i i j;obtain⟨v,w,rfl⟩:=zz2 l rfl;have i':Rs X.K H1 al σ ((.int i,some v)::(.int j,some w)::Fr):=i';rw[aT i'.head,aT i'.drop.head];exact⟨i,j,rfl,q1.1,c _ _ _ [] _ q1.2 i'.drop.drop (Bj i _)⟩
 cases t <;> try exact q1.elim
 cases u <;> exact q1.elim
def iZp(fr:PFs):PIt:=fun env k=>fr env fun ts al=>match ts with
 | [t,u]=>got (items t) fun as=>got (items u) fun bs=>k (((erL as).zip (erL bs)).map fun p=>.tup [p.1,p.2]) al
 | _=>False
theorem Be{x:V}{p:Oz}(h:Rp K H ((t,some x)::(u,some y)::Γ))(s:dm H H')(e:H' p=some (.tup [x,y])):Rp K H' ((.tup [t,u],some (.ref p))::Γ):=
 jr (ts:=[t,u]) (vs:=[x,y]) h rfl s e
theorem HN{bs:List T}{a b:Oz}(e1:items t=some as)(e2:items u=some bs)(n1:aU t=true)(n2:aU u=true) :
  ItOk K (Itz K (nH t) a (nH u) b) ((as.zip bs).map fun p=>.tup [p.1,p.2]) [(t,some (.ref a)),(u,some (.ref b))] where
 turn:=fun i w H Γ ei rp=>by
  rw[p_]at ei;cases hz:(as.zip bs)[i]? with
  |none=>rw[hz]at ei;cases ei
  |some q=>
   rw[hz]at ei;cases ei;obtain⟨q1,q2⟩:=q;rw[List.getElem?_zip_eq_some]at hz;have rp0:Rp K H ((t,some (.ref a))::(u,some (.ref b))::Γ):=rp;have rpd:=kc rp0 n1;have rpe:Rp K H ((u,some (.ref b))::(t,some (.ref a))::(t,some (.ref a))::Γ):=rpd.perm (by refine u_ ?_ (LB _ _ _);exact .cons _ (.swap _ _ _))
   have rpf:=kc rpe n2;obtain⟨b',ws,eb,hb,lb,rpg⟩:=aD e2 rpf;cases eb;obtain⟨y,ey⟩:=nW lb hz.2;have rph:=jF rpg hz.2 ey;have rpi:Rp K H ((t,some (.ref a))::(q2,some y)::(t,some (.ref a))::(u,some (.ref b))::Γ):=rph.perm (by refine u_ ?_ (LB _ _ _);refine .cons _ ?_;refine u_ (LB _ _ _) ?_;exact .cons _ (LB _ _ _))
   obtain⟨a',vs,ea,ha,la,rpj⟩:=aD e1 rpi;cases ea;obtain⟨x,ex⟩:=nW la hz.1;have rpk:=jF rpj hz.1 ex;refine⟨⟨vs,ws,x,y,ha,hb,ex,ey⟩,fun v H' hy=>?_⟩;obtain⟨p,x',y',hp,ev,eH,h1,h2⟩:=hy;have ex':=h1 vs ha;have ey':=h2 ws hb;rw[ex]at ex';rw[ey]at ey';cases ex';cases ey';subst ev;subst eH;exact Be rpk (cJ hp _) aO
 stop:=fun H Γ rp=>by have rp0:Rp K H ((t,some (.ref a))::(u,some (.ref b))::Γ):=rp;obtain⟨a',vs,ea,ha,la,_⟩:=aD e1 rp0;obtain⟨b',ws,eb,hb,lb,_⟩:=aD e2 rp0.tail;cases ea;cases eb;refine⟨vs,ws,ha,hb,?_⟩;rw[a_,List.length_zip,la,lb];lia
theorem G8{x1:Nat}{tp:Pos}(hg:Gl X "zip")(hm:X.mg "zip"=none)(ha:GA X [a,b] fr)(hs:OO [a,b] X.env=[(false,O1 a X.env),(false,O1 b X.env)]:=by rfl)(hs2:OO [b] X.env=[(false,O1 b X.env)]:=by rfl) :
  GI X (.Tuple es x1 tp) (.Call (.Name "zip" p) [a,b] [] pos) (iZp fr):=by
 rintro ac s σ H R I ⟨env,Fr,k,rs,q,c⟩;refine Ht hg hm ha hs hs2 ac s σ H R I ⟨env,Fr,_,rs,q,fun ts al vs H1 q1 l i'=>?_⟩;rcases ts with _|⟨t,_|⟨u,_|⟨t3,ts⟩⟩⟩ <;> try exact q1.elim
 obtain⟨v,w,rfl⟩:=zz2 l rfl;obtain⟨as,ea,q2⟩:=aE q1;obtain⟨bs,eb,kt⟩:=aE q2;have i':Rs X.K H1 al σ ((t,some v)::(u,some w)::Fr):=i';have r2:Rs X.K H1 al σ ((er t,some v)::(u,some w)::Fr):=.of i'.1 (lN i'.head);have r3:Rs X.K H1 al σ ((er u,some w)::(er t,some v)::Fr):=.of i'.1 (lN (r2.perm (.swap _ _ _)).head);have r4:=r3.perm (.swap _ _ _);obtain⟨e1,_⟩:=md ea;obtain⟨e2,_⟩:=md eb;obtain⟨a',xs,rfl,hq,l1,_⟩:=aD e1 r4.head;obtain⟨b',ys,rfl,hq2,l2,_⟩:=aD e2 r3.head;exact⟨_,a',_,b',rfl,⟨xs,hq⟩,⟨ys,hq2⟩,c _ _ _ [(er t,_),(er u,_)] _ kt r4 (HN e1 e2 (aL t) (aL u))⟩
def iEn(fr:PFs):PIt:=fun env k=>fr env fun ts al=>match ts with
 | [t]=>got (items t) fun as=>k ((A' as.length).zipWith (fun(i:Nat) (x:T)=>T.tup [.int (i:Int),x]) (erL as)) al
 | _=>False
theorem Ib{a:Oz}(e1:items t=some as)(n1:aU t=true) :
  ItOk K (Ite K (nH t) a) ((A' as.length).zipWith (fun(i:Nat) (x:T)=>T.tup [.int (i:Int),x]) as) [(t,some (.ref a))] where
 turn:=fun i w H Γ ei rp=>by
  have rp0:Rp K H ((t,some (.ref a))::Γ):=rp;rw[Nm]at ei;cases h1:(A' as.length)[i]? with
  |none=>rw[h1]at ei;cases ei
  |some j=>
   cases h2:as[i]? with
   |none=>rw[h1,h2]at ei;cases ei
   |some u=>
    rw[h1,h2]at ei;cases ei;have hi:i<as.length:=(f_.mp h2).1;rw[LN hi]at h1;cases h1;obtain⟨a',vs,ea,ha,la,ge⟩:=aD e1 (kc rp0 n1);cases ea;obtain⟨x,ex⟩:=nW la h2;have gl:=jF ge h2 ex;refine⟨⟨vs,x,ha,ex⟩,fun v H' hy=>?_⟩;obtain⟨p,x',hp,ev,eH,h3⟩:=hy;have ex':=h3 vs ha;rw[ex]at ex';cases ex';subst ev;subst eH;exact Be (cM gl fun _=>.int) (cJ hp _) aO
 stop:=fun H Γ rp=>by have rp0:Rp K H ((t,some (.ref a))::Γ):=rp;obtain⟨a',vs,ea,ha,la,_⟩:=aD e1 rp0;cases ea;refine⟨vs,ha,?_⟩;rw[Nz,K_,la,M5]
theorem yy{x1:Nat}{tp:Pos}(hg:Gl X "enumerate")(hm:X.mg "enumerate"=none)(ha:GA X [a] fr)(hs:OO [a] X.env=[(false,O1 a X.env)]:=by rfl) :
  GI X (.Tuple es x1 tp) (.Call (.Name "enumerate" p) [a] [] pos) (iEn fr):=by
 rintro ac s σ H R I ⟨env,Fr,k,rs,q,c⟩;refine EN hg hm ha hs ac s σ H R I ⟨env,Fr,_,rs,q,fun ts al vs H1 q1 l i'=>?_⟩;rcases ts with _|⟨t,_|⟨t2,ts⟩⟩
 ·exact q1.elim
 ·obtain⟨v,rfl⟩:=zz1 l rfl;obtain⟨as,ea,kt⟩:=aE q1;have i':Rs X.K H1 al σ ((t,some v)::Fr):=i';have r2:Rs X.K H1 al σ ((er t,some v)::Fr):=.of i'.1 (lN i'.head);obtain⟨e1,_⟩:=md ea;obtain⟨a',xs,rfl,hq,l1,_⟩:=aD e1 r2.head;rw[<-oI as]at kt;exact⟨_,a',rfl,⟨xs,hq⟩,c _ _ _ [(er t,_)] _ kt r2 (Ib e1 (aL t))⟩
 exact q1.elim
end
open PySem PySem.Spec PyProof.Rows L2
noncomputable def frA(fr:List (Option Nat)):List Arg:=fr.map fun o=>match o with
 |some j=>.bor j
 |none=>.val .any
noncomputable def κc(fr:List (Option Nat))(j:Nat):Bool:=match fr[j]? with
 |some (some _)=>true
 | _=>false
theorem jN:∀(fr:List (Option Nat)) (σ:L2.St),lR (frA fr) (fS fr σ) σ
 | [],σ=>trivial
 |none::r,σ=>jN r σ
 |some j::r,σ=>by
  refine⟨?_,jN r σ⟩;by_cases h:j<σ.length
  ·refine .inl ?_;show σ[j]?=some ((σ[j]?).join);rw[e_ h]
   rfl
  exact .inr (by lia)
theorem lC:∀(fr:List (Option Nat)) (τ τ':List (Option V)) (σ:L2.St),τ'.length=τ.length->(∀j,κc fr j=true->τ'[j]?=τ[j]?)->lR (frA fr) τ σ->lR (frA fr) τ' σ
 | [],[],τ',σ,l,_,_=>by
  have:τ'=[]:=by cases τ' with|nil=>rfl|cons _ _=>cases l
  subst this
  trivial
 | [],_::_,_,_,_,_,o=>o.elim
 |none::r,[],_,_,_,_,o=>o.elim
 |some j::r,[],_,_,_,_,o=>o.elim
 |none::r,x::τ,[],σ,l,_,_=>by cases l
 |some j::r,x::τ,[],σ,l,_,_=>by cases l
 |none::r,x::τ,y::τ',σ,l,k,o=>lC r τ τ' σ (by simpa using l) (fun j hj=>by simpa using k (j+1) hj) o
 |some i::r,x::τ,y::τ',σ,l,k,o=>by
  have e:y=x:=by have:=k 0 rfl;simpa using this
  subst e;exact⟨o.1,lC r τ τ' σ (by simpa using l) (fun j hj=>by simpa using k (j+1) hj) o.2⟩
def FK(fr:List (Option Nat))(be:List T)(g:PG')(ft:PB)(fe:PF)(al:Ev)(k:T->Ev->Prop):Prop:=be.length<sizeLine/\∃W:Nat->List T->Ev->Prop,W 0 [] (lend (frA fr) al).1/\
 (∀i t acc ie,W i acc ie->be[i]?=some t->g t ie fun ie2=>ft ie2 fun b ie3=>cnd b (fe ie3 fun u ie4=>W (i+1) (acc++[u]) ie4) (W (i+1) acc ie3))/\
 ∀acc ie,W be.length acc ie->k (.lst true acc) (back (frA fr) ie (lend (frA fr) al).2)
def uK(fr:List (Option Nat))(fi:PIt)(g:PG')(ft:PB)(fe:PF):PF:=fun env k=>fi env fun be al=>FK fr be g ft fe al k
theorem tW:∀fr:List (Option Nat),(frA fr).map pg=fr.map fun _=>T.any
 | []=>rfl
 |none::r=>by show T.any::(frA r).map pg=T.any::r.map fun _=>T.any;rw[tW r]
 |some j::r=>by show T.any::(frA r).map pg=T.any::r.map fun _=>T.any;rw[tW r]
theorem xT{K:OA}{H:Hp}{Γ:Fm}:∀(fr:List (Option Nat)) (xs:List (Option V)),Rp K H Γ->Rp K H ((fr.map fun _=>T.any).zip xs++Γ)
 | [],xs,h=>h
 | _::r,[],h=>h
 | _::r,x::xs,h=>k7 (xT r xs h)
theorem EE(fr:List (Option Nat)):(frA fr).length=fr.length:=by unfold frA;rw[a_]
theorem wJ(fr:List (Option Nat))(σ:L2.St):(fS fr σ).length=fr.length:=by unfold fS;rw[a_]
variable {fe:PF}{fi:PIt}{fr:List (Option Nat)}{ft:PB}
theorem wH{g:PG'}:∀ σ H Q,wE K (uK fr fi g ft fe) σ H Q->zD (wI K fi) fr (fun _ _ _=>wG K (κc fr) g) (fun _ _ _=>wB K ft) (fun _ _ _=>wE K fe) σ H Q:=by
 rintro σ H Q ⟨env,Fr,k,rs,q,c⟩;refine⟨env,Fr,_,rs,q,?_⟩;rintro be al J Fg H1 ⟨hz,W,w0,wt,we⟩ i' ok;intro p hp s3 H3' fp;have l0:Rs K H1 al σ (((frA fr).map pg).zip (fS fr σ)++(Fg++Fr)):=⟨i'.1,by refine Rp.perm ?_ (s_ _ _ _);rw[tW];exact xT fr _ i'.2⟩
 have l1:=m5 (jN fr σ) l0;obtain⟨ie0,ou,e0⟩:∃ie0 ou,lend (frA fr) al=(ie0,ou):=⟨_,_,rfl⟩;have lie:ie0.length=(fS fr σ).length:=by have:=kh (frA fr) al;rw[e0,EE]at this;rw[wJ];exact this
 rw[e0]at l1 w0;have rp0:Rp K (upd H1 p (.lst [])) ((.lst true [],some (.ref p))::(ie0.zip (fS fr σ)++(Fg++(ou.zip σ++Fr)))):=by refine iN (ts:=[]) (vs:=[]) (l1.2.perm ?_) rfl hp (cJ hp _) aO;show Nc (ou.zip σ++(ie0.zip (fS fr σ)++(Fg++Fr))) (ie0.zip (fS fr σ)++(Fg++(ou.zip σ++Fr)));exact(s_ _ _ _).trans ((s_ _ _ _).append_left _)
 refine⟨fun i m f8 H'=>∃acc ie,W i acc ie/\Rs K H' ie f8 ((.lst true acc,some (.ref p))::(Fg++(ou.zip σ++Fr)))/\Kept (κc fr) (fS fr σ) f8/\m+i=be.length/\acc.length<=i,⟨be.length,[],ie0,w0,.of lie rp0,.refl,rfl,b_ _⟩,?_⟩;rintro i m σ1 H2 ⟨acc,ie,w2,rs2,k2,hm,ha⟩;have ge:Rp K H2 (Fg++((.lst true acc,some (.ref p))::(ie.zip σ1++(ou.zip σ++Fr)))):=by refine rs2.head.perm ?_;refine u_ ?_ f'.symm;exact .cons _ (s_ _ _ _)
 by_cases lf:i<be.length
 ·have ei:be[i]?=some be[i]:=e_ lf;obtain⟨hgo,hy⟩:=ok.turn i be[i] H2 _ ei ge;refine .inr ⟨hgo,fun x H' hx=>?_⟩;have gl:=hy x H' hx;have rs3:Rs K H' ie σ1 ((be[i],some x)::((.lst true acc,some (.ref p))::(Fg++(ou.zip σ++Fr)))):=.of rs2.1 (gl.perm (.cons _ (by refine f'.trans ?_;refine u_ ?_ f'.symm;exact .cons _ (s_ _ _ _))))
  refine⟨be[i],ie,_,_,rs3,wt i be[i] acc ie w2 ei,fun ie3 σ3 H3 q3 rs4 k4=>?_⟩;refine⟨ie3,_,_,rs4,q3,fun b ie4 H4 q4 rs5=>iV ⟨fun hb=>?_,fun hb=>?_⟩⟩
  ·refine⟨ie4,_,_,rs5,q4.1 hb,fun u ie5 v H5 q5 rs6=>?_⟩;have r7:=rs6.perm (.swap _ _ _);obtain⟨a',ys,ea,hys,ly,r8⟩:=gW r7.head;cases ea;refine⟨ys,hys,by rw[<-ly];exact Lb ha (M3 lf hz),m-1,by lia,acc++[u],ie5,q5,.of r7.1 ?_,k2.trans k4,by lia,by rw[gV];simp;omega⟩;refine iu (ts:=acc++[u]) (vs:=ys++[v]) (r8.perm (.cons _ ?_)) (by rw[gV,gV,ly];rfl) Put.up;rw[kC ly,o_];refine L0 _ ?_;exact f'
  exact⟨m-1,by lia,acc,ie4,q4.2 hb,rs5,k2.trans k4,by lia,by lia⟩
 have:i=be.length:=by lia
 subst this;refine .inl ⟨ok.stop H2 _ ge,c _ _ _ _ (we acc ie w2) ?_⟩;rw[e0];have ao:lR (frA fr) σ1 σ:=lC fr (fS fr σ) σ1 σ k2.1 k2.2 (jN fr σ);refine mP ao (env:=ou) ⟨l1.1,?_⟩;refine ge.part.perm ?_;refine u_ ?_ (s_ _ _ _);refine u_ f'.symm ?_;exact L0 _ f'.symm
def GTs(X:Cx)(ifs:List OL)(f:PB):Prop:=PTs X ifs (wB X.K f)
noncomputable def lK:PB:=fun env k=>k true env
theorem bI{X:Cx}:GTs X [] lK:=by rintro ac s σ H Q I ⟨env,Fr,k,rs,q,c⟩;exact DG ac s σ H Q I (c _ _ _ q rs)
theorem kL{f:PB}(h:GT X c f):GTs X [c] f:=Eu h
theorem bT{X:Cx}{N ps:List Str}{esc:PC}(S:FnScope N ps esc)(N':List Str)(fr:List (Option Nat))(nd:N'.Nodup){elt target iter:OL}{ifs:List OL}{sc:PC}{pos:Pos}{fi:PIt}{g:PG'}{ft:PB}{fe:PF}(C:kG N esc sc N' fr=true)
  (hi:GI X target iter fi) (hg:∀s3 H3 fp,GG (κc fr) (bf X N' sc s3 H3 fp) target g) (ht:∀s3 H3 fp,GTs (bf X N' sc s3 H3 fp) ifs ft) (he:∀s3 H3 fp,GE (bf X N' sc s3 H3 fp) elt fe)
  (hc:X.calm=true:=by rfl) (hN:X.N=N:=by rfl) (hS:X.env.scope=esc:=by rfl) (hs:∀x,Pw iter X.env x=pure x:=by intro _;rfl):GE X (.ListComp elt [⟨target,iter,ifs,0⟩] sc pos) (uK fr fi g ft fe):=
 PE.imp (BJ S N' fr nd C hi hg ht he hc hN hS hs) wH
variable {N:List Str}{ifs:List OL}{lw:Pos}{target:OL}
theorem yF{esc:PC}(S:FnScope N ps esc){x:Str}{pos':Pos}(N':List Str)(fr:List (Option Nat))(nd:N'.Nodup){elt:OL}{sc:PC}{g:PG'}(C:kG N esc sc N' fr=true)
  (hi:X.N[i]?=some x) (hx:Loc X.env.scope x) (hκ:κ i=false) (hit:GI X target iter fi) (hg:∀s3 H3 fp,GG (κc fr) (bf X N' sc s3 H3 fp) target g) (ht:∀s3 H3 fp,GTs (bf X N' sc s3 H3 fp) ifs ft) (he:∀s3 H3 fp,GE (bf X N' sc s3 H3 fp) elt fe)
  (hsw:Ra (.ListComp elt [⟨target,iter,ifs,0⟩] sc lw) (some (.Name x pos')) pos.line X.env=pure true) (hf:X.fn x=true:=by rfl)
  (hc:X.calm=true:=by rfl) (hN:X.N=N:=by rfl) (hS:X.env.scope=esc:=by rfl) (hs:∀x,Pw iter X.env x=pure x:=by intro _;rfl):GS κ X (.Assign [.Name x pos'] (.ListComp elt [⟨target,iter,ifs,0⟩] sc lw) pos) (EG i (uK fr fi g ft fe)):=by
 refine PS.imp (y6 S N' fr nd C hi hx hit hg ht he hsw hf hc hN hS hs) ?_;rintro D σ H ⟨env,Fr,pe,rs,q,c⟩;exact wH σ H _ ⟨env,Fr,_,rs,q,fun t bm v H' q1 i'=>c.nx _ _ _ q1 i'.put (.set hκ)⟩
abbrev PM:=T->List T->(T->T->Prop)->Prop
def MtP(X:Cx)(id:String)(m:PM):Prop:=MtM X id (fun x xs H Q=>∃t ts Γ k,ts.length=xs.length/\Rp X.K H ((t,some x)::(zz ts xs++Γ))/\m t ts k/\∀t' r v H',k t' r->Rp X.K H' ((r,some v)::(t',some x)::Γ)->Q v H')
noncomputable def isL:T->Bool
 | .lst _ _=>true
 | _=>false
def yI(i:Nat)(m:PM)(fr:PFs):PF:=fun env k=>got (env[i]?) fun t0=>isL t0=true/\fr env fun ts al=>got (al[i]?) fun t=>m t ts fun t' r=>k r (al.set i t')
variable {xp:Pos}
section
variable{X:Cx}{e o:OL}{es:List OL}{fr:PFs}{fe:PF}{m:PM}{name:Str}{id:String}{apos lv pos:Pos}
theorem DJ(h:isL t=true)(rp:Rp X.K H ((t,some v)::Γ)):tyV X.K "list" v H:=by
 cases t <;> first|cases h|skip
 obtain⟨a,vs,rfl,hq,l,_⟩:=oJ rp;exact .inl ⟨rfl,vs,.inl hq⟩
theorem DI(h:isL t=true):isAny t=false:=by cases t <;> first|rfl|cases h
theorem Fv:∀ σ H Q,wE X.K (yI i m fr) σ H Q->tBM X.K "list" (fun x xs H Q=>∃t ts Γ k,ts.length=xs.length/\Rp X.K H ((t,some x)::(zz ts xs++Γ))/\m t ts k/\∀t' r v H',k t' r->Rp X.K H' ((r,some v)::(t',some x)::Γ)->Q v H') (HF i) (wA X.K fr) σ H Q:=by
 rintro σ H Q ⟨env,Fr,k,rs,q,c⟩;obtain⟨t0,e0,hl,q⟩:=aE q;obtain⟨y,ey,rs2⟩:=rs.slot e0;obtain⟨v,rfl⟩:=iP rs2 (DI hl);refine⟨v,ey,DJ hl rs2.head,env,Fr,_,rs,q,fun ts al vs H1 q1 l i'=>?_⟩;obtain⟨t,et,q1⟩:=aE q1;obtain⟨y',ey',rs3⟩:=i'.slot et;rw[ey]at ey';cases ey';have hi:i<al.length:=(f_.mp et).1;refine⟨t,ts,(al.set i .any).zip σ++Fr,_,l,?_,q1,fun t' r w H' kt rp=>c _ _ _ _ kt ?_⟩
 ·refine rs3.head.perm (.cons _ ?_);exact s_ _ _ _
 have r4:Rs X.K H' (al.set i .any) σ ((t',some v)::(r,some w)::Fr):=.of rs3.1 (rp.perm (by refine u_ (.swap _ _ _) ?_;exact .cons _ f'.symm))
 have r5:=Rs.ni (i:=i) r4 (by rw[KG];exact hi) ey;rw[MD]at r5;exact r5
theorem kM(i:Nat){x:Str}(slot:VM "list" name id)(hty:VN (.builtin id)=pure (.type "method_descriptor"))(hm:MtP X id m)(ha:GA X (e::es) fr)(hN:X.N[i]?=some x:=by rfl)(hv:Vis X.env.scope x:=by first|exact d_ rfl|exact j_ (d_ rfl)|exact j_ (j_ rfl))(hd:(x ==("__debug__":Str))=false:=by decide)(hcd:(x ==("__classdict__":Str))=false:=by decide)
  (hbase:Ry (.Name x xp) name X.env (O1 (.Name x xp) X.env)=O1 (.Name x xp) X.env:=by rfl)
  (hfew:((QF lv (OO (e::es) X.env)).all (fun x=>!x.1)&&(VO lv (Uo [] X.env)).all (fun x=>x.1.isSome)&&decide ((e::es).length+([]:List S9).length+(if([]:List S9).isEmpty then 0 else 1)<30))=true:=by rfl)
  (hline:(apos.endLine == lv.line)=true:=by rfl) (hs:OO (e::es) X.env=(false,O1 e X.env)::OO es X.env:=by rfl) (hplain:(QF lv (OO es X.env)).any (·.1)=false:=by rfl) :
  GE X (.Call (.Attribute (.Name x xp) name apos) (e::es) [] lv) (yI i m fr):=PE.imp (Jk SE slot hty hm (jL hN hv hd hcd) ha hbase hfew hline hs hplain) Fv
theorem CL(i:Nat){x:Str}(slot:VM "list" name id)(hty:VN (.builtin id)=pure (.type "method_descriptor"))(hm:MtP X id m)(hN:X.N[i]?=some x:=by rfl)(hv:Vis X.env.scope x:=by first|exact d_ rfl|exact j_ (d_ rfl)|exact j_ (j_ rfl))(hd:(x ==("__debug__":Str))=false:=by decide)(hcd:(x ==("__classdict__":Str))=false:=by decide)
  (hbase:Ry (.Name x xp) name X.env (O1 (.Name x xp) X.env)=O1 (.Name x xp) X.env:=by rfl) (hline:(apos.endLine == lv.line)=true:=by rfl) :
  GE X (.Call (.Attribute (.Name x xp) name apos) [] [] lv) (yI i m Hj):=by
 refine PE.imp (Gp SE slot hty hm (jL hN hv hd hcd) hbase hline) fun σ H Q h=>?_;obtain⟨v,ev,ty,env,Fr,k,rs,q,c⟩:=Fv σ H Q h;exact⟨v,ev,ty,c [] env [] H q rfl rs⟩
noncomputable def sX:PM
 | .lst true ts,[t],k=>ts.length<sizeLine/\k (.lst true (ts++[t])) .non
 | _,_,_=>False
noncomputable def tZ:PM
 | .lst true ts,[.lst true us],k=>ts.length+us.length<=sizeLine/\k (.lst true (ts++us)) .non
 | _,_,_=>False
noncomputable def oQ:PM
 | .lst true ts,[],k=>k (.lst true ts.reverse) .non
 | _,_,_=>False
noncomputable def sM:PM
 | .lst true ts,[.int i,t],k=>(0<=i/\i<=(ts.length:Int)/\ts.length<2 ^ 20)/\k (.lst true (ts.take i.toNat++t::ts.drop i.toNat)) .non
 | _,_,_=>False
theorem lA:MtP X "list.append" sX:=by
 rintro ac s σ H x xs v us Q I rx r ⟨t,ts,Γ,k,l,rp,g,c⟩;unfold sX at g;split at g
 ·rename_i k ts t;obtain⟨y,rfl⟩:=zz1 l rfl;obtain⟨a,vs,ea,ha,la,ge⟩:=gW rp;cases ea;refine wQ ac s σ H _ _ v us Q I rx r ⟨a,vs,y,rfl,rfl,ha,by rw[<-la];exact g.1,fun H' hp=>c _ _ _ _ g.2 (cM ?_ fun _=>.non)⟩;refine iu (ts:=ts++[t]) (vs:=vs++[y]) ?_ (by rw[gV,gV,la];rfl) hp;rw[kC la,o_];exact ge
 exact ON g
theorem xG:MtP X "list.extend" tZ:=by
 rintro ac s σ H x xs v us Q I rx r ⟨t,ts,Γ,k,l,rp,g,c⟩;unfold tZ at g;split at g
 ·rename_i k ts us';obtain⟨y,rfl⟩:=zz1 l rfl;obtain⟨a,vs,ea,ha,la,ge⟩:=gW rp;cases ea;have gl:Rp X.K H ((.lst true us',some y)::(.bare,some (.ref a))::(zz ts vs++Γ)):=ge.perm (by refine u_ (.cons _ f') ?_;exact .swap _ _ _)
  obtain⟨b,ws,eb,hb,lb,rp4⟩:=gW gl;cases eb;have rp5:Rp X.K H ((.bare,some (.ref a))::(zz (ts++us') (vs++ws)++Γ)):=by rw[kC la,o_];refine rp4.tail.perm ?_;refine f'.trans (.cons _ ?_);exact s_ _ _ _
  exact wo ac s σ H _ _ v us Q I rx r ⟨a,b,vs,ws,rfl,rfl,ha,hb,by rw[<-la,<-lb];exact g.1,fun H' hp=>c _ _ _ _ g.2 (cM (iu rp5 (by rw[gV,gV,la,lb]) hp) fun _=>.non)⟩
 exact ON g
theorem wj:∀{ts:List T}{vs:List V},ts.length=vs.length->zz ts.reverse vs.reverse=(zz ts vs).reverse
 | [],[],_=>rfl
 | [],_::_,l=>by cases l
 | _::_,[],l=>by cases l
 |t::ts,v::vs,l=>by
  have l':ts.length=vs.length:=by simpa using l
  rw[Li,Li,kC (by rw[KO,KO];exact l'),wj l'];show _=((t,some v)::zz ts vs).reverse;rw[Li]
  rfl
theorem uw:MtP X "list.reverse" oQ:=by
 rintro ac s σ H x xs v us Q I rx r ⟨t,ts,Γ,k,l,rp,g,c⟩;unfold oQ at g;split at g
 ·rename_i k ts;have:xs=[]:=by cases xs with|nil=>rfl|cons _ _=>cases l
  subst this;obtain⟨a,vs,ea,ha,la,ge⟩:=gW rp;cases ea;refine x6 ac s σ H _ _ v us Q I rx r ⟨a,vs,rfl,rfl,ha,c _ _ _ _ g (cM (iu (ts:=ts.reverse) (vs:=vs.reverse) (ge.perm (.cons _ ?_)) (by rw[KO,KO,la]) Put.up) fun _=>.non)⟩;rw[wj la];exact(MX _).symm.append_right _
 exact ON g
theorem vT:MtP X "list.insert" sM:=by
 rintro ac s σ H x xs v us Q I rx r ⟨t,ts,Γ,k,l,rp,g,c⟩;unfold sM at g;split at g
 ·rename_i k ts i t;obtain⟨y,z,rfl⟩:=zz2 l rfl;obtain⟨a,vs,ea,ha,la,ge⟩:=gW rp;cases ea;have hy:y=.int i:=aT (ge.perm ((s_ _ _ _).cons _ |>.trans (.swap _ _ _)));subst hy;refine xg ac s σ H _ _ v us Q I rx r ⟨a,vs,i,z,rfl,rfl,ha,g.1.1,by rw[<-la];exact g.1.2.1,by rw[<-la];exact g.1.2.2,fun H' hp=>c _ _ _ _ g.2 (cM ?_ fun _=>.non)⟩;refine iu (ts:=ts.take i.toNat++t::ts.drop i.toNat) (vs:=vs.take i.toNat++z::vs.drop i.toNat) ?_ (by simp[la]) hp;rw[kC (by rw[B_,B_,la])];have gl:Rp X.K H ((.bare,some (.ref a))::(zz ts vs++((t,some z)::Γ))):=by
   have:Rp X.K H ((.int i,some (.int i))::((.bare,some (.ref a))::(zz ts vs++((t,some z)::Γ)))):=ge.perm (by refine u_ (.cons _ f') ?_;exact .swap _ _ _)
   exact this.tail
  refine gl.perm (.cons _ ?_);show Nc (zz ts vs++((t,some z)::Γ)) ((zz (ts.take i.toNat) (vs.take i.toNat)++((t,some z)::zz (ts.drop i.toNat) (vs.drop i.toNat)))++Γ);rw[sU,sT];refine f'.trans ?_;rw[o_];refine u_ ?_ f'.symm;refine Ml _ ?_;show Nc (zz ts vs++Γ) (List.take i.toNat (zz ts vs)++(List.drop i.toNat (zz ts vs)++Γ));rw[<-o_,Ll]
 exact ON g
end
noncomputable def outs(ms:List Bool)(env:Ev):List T:=ms.zipWith (fun b t=>if b then t else .any) env
noncomputable def κm(ms:List Bool)(j:Nat):Bool:=match ms[j]? with
 |some b=>b
 |none=>false
theorem lU{K:OA}{H:Hp}{Γ:Fm}:∀{ms:List Bool}{env:Ev}{σ:L2.St}{vs:List V},ms.length=vs.length->(∀j,κm ms j=true->σ[j]?=(vs[j]?).map some)->Rp K H (env.zip σ++Γ)->Rp K H (zz (outs ms env) vs++Γ)
 | [],env,σ,vs,l,k,h=>h.part
 | _::_,_,_,[],l,_,_=>by cases l
 |m::ms,[],σ,v::vs,l,k,h=>h
 |m::ms,t::env,[],v::vs,l,k,h=>by
  have ih:=lU (ms:=ms) (env:=env) (σ:=[]) (vs:=vs) (by simpa using l) (fun j hj=>by have:=k (j+1) hj;simpa using this) (by simpa using h)
  cases m with
  |true=>have:=k 0 rfl;simp at this
  |false=>exact k7 ih
 |m::ms,t::env,x::σ,v::vs,l,k,h=>by
  have h:Rp K H ((t,x)::(env.zip σ++Γ)):=h;have ks:∀j,κm ms j=true->σ[j]?=(vs[j]?).map some:=fun j hj=>by have:=k (j+1) hj;simpa using this
  cases m with
  |true=>
   have e:x=some v:=by have:=k 0 rfl;simpa using this
   subst e;have h2:Rp K H (env.zip σ++((t,some v)::Γ)):=h.perm f'.symm;exact(lU (ms:=ms) (by simpa using l) ks h2).perm f'
  |false=>exact k7 (lU (ms:=ms) (by simpa using l) ks h.tail)
theorem Dn(l:ts.length=vs.length)(n:Nat)(h:Rp K H (zz ts vs++Γ)):Rp K H ((ts++z_ n T.any).zip (vs.map some++z_ n none)++Γ):=by
 rw[N1 (by rw[a_];exact l),o_];have:∀n,Rp K H (zz ts vs++((z_ n T.any).zip (z_ n (none:Option V))++Γ)):=by
  intro n;induction n with
  |zero=>exact h
  |succ n ih=>
   rw[KZ,KZ];exact(k7 (x:=none) ih).perm f'.symm
 exact this n
theorem cB{P:OI}{mg:Str->Option Oy}{base:OM}{x qual:Str}{f:Oz}{fd:OR}{k:Nat}{Pr:FP}(F:Fun K x qual st f fd)(S:FnScope N ps (az st))(ms:List Bool)(hms:ms.length=ps.length)
  (body:∀(cdv:Oy) (A:OP) (outer:List Env) (s:OB) (H:Hp) (E:XK),Room k (A.deeper (RK qual (az st) s.heap.objs.size f cdv))->
   ∃fb,GSs (κm ms) (wx CX0 P w K mg base N qual (az st) f cdv A outer s H E).nox (ip st) fb/\∀ts kk,ts.length=ps.length->Pr ts kk->fb { nx:=fun env=>kk .non (outs ms env),rt:=fun t env=>kk t (outs ms env) } (ts++z_ (N.length-ps.length) .any)) :
  FnOk P w K mg base CX0 (k+1) f fd ps (aI K ps.length Pr):=by
 refine F.ok S (by rintro vs H Q E ⟨ts,Fr,kk,h1,h2,_⟩;exact h2) ?_;rintro cdv A outer s H vs Q E hr ⟨ts,Fr,kk,h1,h2,rp,pr,c⟩;obtain⟨fb,hb,q⟩:=body cdv A outer s H E hr;refine⟨_,hb,ts++z_ (N.length-ps.length) .any,Fr,_,?_,q ts kk (by rw[h1,h2]) pr,?_⟩
 ·unfold L2.start;rw[h2];refine⟨by simp[h1],Dn h1 _ rp⟩
 have kv:∀{f8},Kept (κm ms) (L2.start N vs) f8->∀j,κm ms j=true->f8[j]?=(vs[j]?).map some:=fun{f8} kp j hj=>by
  rw[kp.2 j hj];unfold L2.start;have hj2:j<vs.length:=by
   rw[h2,<-hms];unfold κm at hj;split at hj
   ·rename_i b e;exact(f_.mp e).1
   cases hj
  rw[MZ (by rw[a_];exact hj2),p_]
 refine⟨fun bm f8 H' q' rs' k'=>c _ _ _ _ q' ?_,fun t bm v f8 H' q' rs' k'=>c _ _ _ _ q' ?_,fun _ _ _ z=>z.elim,fun _ _ _ z=>z.elim⟩
 ·exact cM (lU (by rw[hms,h2]) (kv k') rs'.2) fun _=>.non
 exact(lU (Γ:=(t,some v)::Fr) (by rw[hms,h2]) (kv k') rs'.2).perm f'
open PySem PySem.Spec PyProof.Rows L2
section
variable{X:Cx}{pos:Pos}
theorem AW{te:TE}(h:PS X st (F8 te (zJ i))):PS X st (fun D σ H=>te σ H fun v H'=>Gr H H'/\D.nx (σ.set i (some v)) (over H H')):=by
 intro ac s σ H D I q;have key:=h ac s σ H { nx:=fun f8 H'=>Gr H H'/\D.nx f8 (over H H'),rt:=fun _ _=>False} I q;refine thn key fun f s' hs=>?_;cases f with
 |next=>
  obtain⟨f8,H',I',g,q'⟩:=hs;exact⟨f8,over H H',pG I I' g,q'⟩
 |brk=>obtain⟨_,_,_,z⟩:=hs;exact z.elim
 |cont=>obtain⟨_,_,_,z⟩:=hs;exact z.elim
 |ret u=>obtain⟨_,_,_,_,_,z⟩:=hs;exact z.elim
theorem Fq{f:PF}{σ:L2.St}{Q:VK}(h:wE K (fQ f) σ H Q):wE K f σ H fun v H'=>Gr H H'/\Q v (over H H'):=by
 obtain⟨env,Fr,k,rs,q,c⟩:=h;have rv:Rs K H (erL env) σ ((Fr.map fun p=>(er p.1,p.2))++[(.kp H,some .non)]):=by refine⟨by rw[oI];exact rs.1,?_⟩;have:=sR rs.2;rw[q_,oN,o_]at this;exact this
 refine⟨erL env,_,_,rv,q,?_⟩;rintro t bm v H' ⟨n,kt⟩ rs';obtain⟨g,r2⟩:=tT rs.2 (Δ:=bm.zip σ++(Fr.map fun p=>(er p.1,p.2))) (by rw[o_];exact rs'.head) n;exact⟨g,c t env v _ kt (.of rs.1 r2)⟩
theorem kB{esc:PC}(S:FnScope N ps esc){x:Str}{pos pos':Pos}(N':List Str)(fr:List (Option Nat))(nd:N'.Nodup){elt:OL}{sc:PC}{g:PG'}(C:kG N esc sc N' fr=true)
  (hi:X.N[i]?=some x) (hx:Loc X.env.scope x) (hκ:κ i=false) (hit:GI X target iter fi) (hg:∀s3 H3 fp,GG (κc fr) (bf X N' sc s3 H3 fp) target g) (ht:∀s3 H3 fp,GTs (bf X N' sc s3 H3 fp) ifs ft) (he:∀s3 H3 fp,GE (bf X N' sc s3 H3 fp) elt fe)
  (hsw:Ra (.ListComp elt [⟨target,iter,ifs,0⟩] sc lw) (some (.Name x pos')) pos.line X.env=pure true) (hf:X.fn x=true:=by rfl)
  (hc:X.calm=true:=by rfl) (hN:X.N=N:=by rfl) (hS:X.env.scope=esc:=by rfl) (hs:∀x,Pw iter X.env x=pure x:=by intro _;rfl):GS κ X (.Assign [.Name x pos'] (.ListComp elt [⟨target,iter,ifs,0⟩] sc lw) pos) (EG i (fQ (uK fr fi g ft fe))):=by
 refine PS.imp (AW (y6 S N' fr nd C hi hx hit hg ht he hsw hf hc hN hS hs)) ?_;rintro D σ H ⟨env,Fr,pe,rs,q,c⟩;exact wH σ H _ (Fq (Q:=fun v H'=>D.nx (σ.set i (some v)) H') ⟨env,Fr,_,rs,q,fun t bm v H' q1 i'=>c.nx _ _ _ q1 i'.put (.set hκ)⟩)
theorem IZ{x:Str}{n:String}(hg:Gl X x)(hm:X.mg x=none)(hv:Ql x=some (.type n))(hn:x≠"__name__":=by decide)(hd:(x ==("__debug__":Str))=false:=by decide):GE X (.Name x pos) (fK (.ty n)):=
 PE.imp (DM (v:=.ty n) hg hm hv rfl hn hd) fun σ H Q ⟨env,Fr,k,rs,q,c⟩=>c _ _ _ _ q (jI rs fun _=>.ty)
def Glb(K:OA)(mg:Str->Option Oy)(x:Str)(t:T):Prop:=∃v u,mg x=some u/\RelV v u/\∀Hz H,RepT K Hz H t v []
theorem Ka{x:Str}(G:Glb X.K X.mg x t)(hg:Gl X x)(hd:(x ==("__debug__":Str))=false:=by decide):GE X (.Name x pos) (fK t):=by obtain⟨v,u,hm,r,ht⟩:=G;exact E6 hg hm r ht hd
theorem qr:GE X (.Dict [] [] pos) (fK (.dT true [])):=PE.imp Ds (by rintro σ H Q ⟨env,Fr,k,rs,q,c⟩;exact fun p hp=>c _ _ _ _ q (.of rs.1 (Fl rs.2 hp (cJ hp _) aO)))
noncomputable def Fs:T->Option Ty
 | .non=>some .non
 | .bl _=>some .bl
 | .int _=>some .int
 | .str _=>some .str
 | .tup _=>some .tup
 | .cst _=>some .tup
 | .lst _ _=>some .lst
 | .dK _ _=>some .dct
 | _=>none
noncomputable def AJ:String->Option Ty
 | "NoneType"=>some .non
 | "bool"=>some .bl
 | "int"=>some .int
 | "str"=>some .str
 | "list"=>some .lst
 | "tuple"=>some .tup
 | "dict"=>some .dct
 | _=>none
theorem yP{n:String}{c:Ty}(h:AJ n=some c):n=c.nm:=by unfold AJ at h;split at h <;> cases h <;> rfl
def xR:List T->Option (List Ty)
 | []=>some []
 | .ty n::r=>match AJ n,xR r with
  |some c,some cs=>some (c::cs)
  | _,_=>none
 | _::_=>none
def Ci:P1s
 | [x,.ty n],k=>got (Fs x) fun t=>got (AJ n) fun c=>k (.bl (isA t c))
 | [x,.tup ts],k=>got (Fs x) fun t=>got (xR ts) fun cs=>k (.bl (cs.any (isA t)))
 | _,_=>False
theorem FY{n:String}(h:Rp K H ((.ty n,some y)::Γ)):y=.ty n:=by obtain⟨_,_,r,_⟩:=jH h rfl;cases r;rfl
theorem AU{K:OA}{H:Hp}{Γ:Fm}:∀{ts:List T}{cs:List Ty}{vs:List V},xR ts=some cs->ts.length=vs.length->Rp K H (zz ts vs++Γ)->vs=cs.map fun c=>V.ty c.nm
 | [],cs,[],e,_,_=>by cases e;rfl
 | [],_,_::_,_,l,_=>by cases l
 | _::_,_,[],_,l,_=>by cases l
 |t::ts,cs,v::vs,e,l,h=>by
  cases t <;> first|cases e|skip
  rename_i n;rw[xR]at e;split at e
  ·rename_i c r e1 e2;cases e;have h:Rp K H ((.ty n,some v)::(zz ts vs++Γ)):=h;rw[FY h,yP e1,AU e2 (by simpa using l) h.tail]
   rfl
  cases e
theorem CW{c:Ty}(e:Fs t=some c)(h:Rp K H ((t,some y)::Γ)):TyG K H y c:=by
 cases t with
 |non=>cases e;rw[wc h];exact .non
 |bl b=>cases e;rw[mL h];exact .bl b
 |int i=>cases e;rw[aT h];exact .int i
 |str x=>cases e;rw[jQ h];exact .str x
 |tup ts=>cases e;obtain⟨a,vs,rfl,hq,_⟩:=aD rfl h;exact .tup hq
 |cst ts=>cases e;obtain⟨a,vs,rfl,hq,_⟩:=aD rfl h;exact .tup hq
 |lst o ts=>cases e;obtain⟨a,vs,rfl,hq,_⟩:=aD rfl h;exact .lst hq
 |dK o kvs=>
  cases o with
  |true=>cases e;obtain⟨a,vs,ea,hq,_⟩:=pW h;cases ea;exact .dct (.inl hq)
  |false=>
   cases e;obtain⟨Hz,L,r,g⟩:=jH h rfl;cases r;rename_i a vs hq _;exact .dct (g _ _ hq)
 | _=>cases e
theorem wK:ja X (.builtin "isinstance") Ci:=by
 rintro ac s σ H xs us Q I r ⟨ts,Γ,k,l,rp,g,c⟩;unfold Ci at g;split at g
 ·rename_i k x n;obtain⟨y,z,rfl⟩:=zz2 l rfl;have rp:Rp X.K H ((x,some y)::(.ty n,some z)::Γ):=rp;obtain⟨t,et,g⟩:=aE g;obtain⟨ct,ec,kt⟩:=aE g;rw[FY rp.tail,yP ec]at r;have e1:[ct].any (isA t)=isA t ct:=by simp
  refine oz ac s σ H _ us Q I r ⟨y,_,t,[ct],rfl,CW et rp,.inl ⟨ct,rfl,rfl⟩,?_⟩;rw[e1];exact c _ _ _ kt (cM rp.tail.tail fun _=>.bl)
 ·rename_i k x us';obtain⟨y,z,rfl⟩:=zz2 l rfl;have rp:Rp X.K H ((x,some y)::(.tup us',some z)::Γ):=rp;obtain⟨t,et,g⟩:=aE g;obtain⟨cs,ec,kt⟩:=aE g;obtain⟨a,vs,rfl,ha,la,ge⟩:=oM rp.tail;have hv:=AU ec la ge;subst hv;exact oz ac s σ H _ us Q I r ⟨y,_,t,cs,rfl,CW et rp,.inr ⟨a,rfl,ha⟩,c _ _ _ kt (cM rp.tail.tail fun _=>.bl)⟩
 exact ON g
noncomputable def Jd:T->(T->Prop)->Prop
 | .lst _ ts,k=>k (.lst true ts.reverse)
 | _,_=>False
theorem G9(rp:Rp K H (zz ts vs++Γ))(l:ts.length=vs.length)(hp:H p=none)(g:dm H H')(e:H' p=some (.lst vs.reverse)):Rp K H' ((.lst true ts.reverse,some (.ref p))::Γ):=
 iN (ts:=ts.reverse) (vs:=vs.reverse) (rp.perm (by rw[wj l];exact(MX _).symm.append_right _)) (by rw[KO,KO,l]) hp g e
theorem wV{p1 p2 pos1:Pos}(hc:X.calm=true)(hg1:Gl X "list")(hm1:X.mg "list"=none)(hg2:Gl X "reversed")(hm2:X.mg "reversed"=none)(he:GE X e fe)
  (hs1:OO [e] X.env=[(false,O1 e X.env)]:=by rfl) (hs2:OO [.Call (.Name "reversed" p2) [e] [] lw] X.env=[(false,O1 (.Call (.Name "reversed" p2) [e] [] lw) X.env)]:=by rfl) :
  GE X (.Call (.Name "list" p1) [.Call (.Name "reversed" p2) [e] [] lw] [] pos1) (fUn Jd fe):=by
 refine PE.imp (w9 hc hg1 hm1 hg2 hm2 he hs1 hs2) ?_;rintro σ H Q ⟨env,Fr,k,rs,q,c⟩;refine⟨env,Fr,_,rs,q,fun t al v H1 q1 i'=>?_⟩;cases t <;> first|exact ON q1|skip
 obtain⟨a,vs,rfl,hq,l,rp⟩:=aD rfl i'.head;exact⟨a,vs,rfl,hq,fun p H' hp g e=>c _ _ _ _ q1 (.of i'.1 (G9 rp l hp g e))⟩
end
section
variable{κ':Type}[DecidableEq κ']
theorem vG:∀{ts:List (κ'×T)}{vs:List (κ'×V)} (q:κ') (t:T) (w:V),ts.map (·.1)=vs.map (·.1)->(iR ts q t).map (·.1)=(putK vs q w).map (·.1):=by
 intro ts vs q t w e;have ha:(ts.any fun kv=>decide (kv.1=q))=(vs.any fun kv=>decide (kv.1=q)):=by
  have e1:(ts.any fun kv=>decide (kv.1=q))=(ts.map (·.1)).any fun k=>decide (k=q):=by rw[ME];rfl
  have e2:(vs.any fun kv=>decide (kv.1=q))=(vs.map (·.1)).any fun k=>decide (k=q):=by rw[ME];rfl
  rw[e1,e2,e]
 unfold iR putK;rw[ha];split
 ·rw[D_,D_];have f1:((fun x:κ'×T=>x.1) ∘ fun kv=>if kv.1=q then(kv.1,t)else kv)=fun x=>x.1:=by funext kv;show(if kv.1=q then(kv.1,t)else kv).1=kv.1;split <;> rfl
  have f2:((fun x:κ'×V=>x.1) ∘ fun kv=>if kv.1=q then(kv.1,w)else kv)=fun x=>x.1:=by funext kv;show(if kv.1=q then(kv.1,w)else kv).1=kv.1;split <;> rfl
  rw[f1,f2,e]
 rw[q_,q_,e]
 rfl
theorem rZ:∀{ts:List (κ'×T)}{vs:List (κ'×V)} (q:κ') (t:T) (w:V),ts.map (·.1)=vs.map (·.1)->(vs.map (·.1)).Nodup->∃r,((t,some w)::zz (ts.map (·.2)) (vs.map (·.2))).Perm (r++zz ((iR ts q t).map (·.2)) ((putK vs q w).map (·.2))):=by
 intro ts vs q t w e nd;by_cases hm:q∈vs.map (·.1)
 ·
  have ha:(vs.any fun kv=>decide (kv.1=q))=true:=by obtain⟨kv,h1,h2⟩:=n_.mp hm;exact Lu.mpr ⟨kv,h1,decide_eq_true h2⟩
  have hb:(ts.any fun kv=>decide (kv.1=q))=true:=by rw[<-e]at hm;obtain⟨kv,h1,h2⟩:=n_.mp hm;exact Lu.mpr ⟨kv,h1,decide_eq_true h2⟩
  unfold iR putK;rw[if_pos ha,if_pos hb];clear ha hb;induction ts generalizing vs with
  |nil=>
   have:vs=[]:=by cases vs with|nil=>rfl|cons _ _=>cases e
   subst this;cases hm
  |cons a ts ih=>
   cases vs with
   |nil=>cases e
   |cons b vs=>
    obtain⟨k1,t1⟩:=a;obtain⟨k2,v1⟩:=b;rw[c_,c_,Lj]at e;have ek:k1=k2:=e.1;subst ek;rw[c_,C_]at nd;by_cases hk:k1=q
    ·subst hk;have n1:∀kv∈ts,kv.1≠k1:=fun kv hkv z=>nd.1 (by rw[<-e.2];exact n_.mpr ⟨kv,hkv,z⟩)
     have n2:∀kv∈vs,kv.1≠k1:=fun kv hkv z=>nd.1 (n_.mpr ⟨kv,hkv,z⟩);have m1:ts.map (fun kv=>if kv.1=k1 then(kv.1,t)else kv)=ts:=by
      conv=>rhs;rw[<-Nh ts]
      exact Ly fun kv hkv=>if_neg (n1 kv hkv)
     have m2:vs.map (fun kv=>if kv.1=k1 then(kv.1,w)else kv)=vs:=by
      conv=>rhs;rw[<-Nh vs]
      exact Ly fun kv hkv=>if_neg (n2 kv hkv)
     refine⟨[(t1,some v1)],?_⟩;simp only[c_,if_true,m1,m2];exact .swap _ _ _
    have hm':q∈vs.map (·.1):=by
     rcases h_.mp hm with z|z
     ·exact absurd z.symm hk
     exact z
    obtain⟨r,p⟩:=ih e.2 nd.2 hm';refine⟨r,?_⟩;simp only[c_,if_neg hk];show Nc ((t,some w)::(t1,some v1)::zz (ts.map (·.2)) (vs.map (·.2))) (r++((t1,some v1)::zz ((ts.map fun kv=>if kv.1=q then(kv.1,t)else kv).map (·.2)) ((vs.map fun kv=>if kv.1=q then(kv.1,w)else kv).map (·.2))));exact(LB _ _ _).trans ((p.cons _).trans f'.symm)
 have ha:(vs.any fun kv=>decide (kv.1=q))=false:=by rw[LV];intro z;obtain⟨kv,h1,h2⟩:=Lu.mp z;exact hm (n_.mpr ⟨kv,h1,of_decide_eq_true h2⟩)
 have hb:(ts.any fun kv=>decide (kv.1=q))=false:=by rw[LV];intro z;obtain⟨kv,h1,h2⟩:=Lu.mp z;exact hm (by rw[<-e];exact n_.mpr ⟨kv,h1,of_decide_eq_true h2⟩)
 unfold iR putK;rw[ha,hb];refine⟨[],?_⟩;simp only[mo,if_false,Lr];rw[q_,q_,kC (by rw[a_,a_];exact fG e)];exact(LZ (l₁:=[(t,some w)]))
end
def A5:T->T->T->(T->Prop)->Prop
 | .lst true ts,.int i,v,k=>got (ixN ts.length i) fun j=>k (.lst true (ts.set j v))
 | .dK true kvs,y,v,k=>got (ug y) fun q=>kvs.length<sizeLine/\k (.dK true (iR kvs q v))
 | .dT true kvs,.tup ks,v,k=>got (iS ks) fun q=>kvs.length<sizeLine/\k (.dT true (iR kvs q v))
 | _,_,_,_=>False
section
variable{X:Cx}{κ:Nat->Bool}{pos:Pos}
theorem Bw{P:OI}{h:OM}{kvs:List (List Key×V)}(ok:HOk P w H h)(e:H a=some (.dT kvs)):(kvs.map (·.1)).Nodup:=by
 obtain⟨z,y,xs,r,o,es,ep,h1,h2,h3,h4,h5⟩:=ok a _ e;have:kvs.map (·.1)=xs.map (·.1):=by
  clear h4 h5 h1 z e;induction r with
  |nil=>rfl
  |cons q _ ih=>rw[c_,c_,ih,q.1]
 rw[this];exact h5
theorem Ck{P:OI}{h:OM}{kvs:List (Key×V)}(ok:HOk P w H h)(e:H a=some (.dK kvs)):(kvs.map (·.1)).Nodup:=by
 obtain⟨z,y,vs,r,o,es,ep,h1,h2,h3,h4,h5,h6⟩:=ok a _ e;have:kvs.map (·.1)=vs.map (·.1):=by
  clear h6 h5 h4 h1 z e;induction r with
  |nil=>rfl
  |cons q _ ih=>rw[c_,c_,ih,q.1]
 rw[this];exact h6
theorem C6:∀{ts:List T}{vs:List V}{j:Nat}{t:T}{w:V},ts.length=vs.length->j<ts.length->∃r,((t,some w)::zz ts vs).Perm (r::zz (ts.set j t) (vs.set j w))
 | [],vs,j,t,w,l,h=>by cases h
 |a::ts,[],j,t,w,l,h=>by cases l
 |a::ts,b::vs,0,t,w,l,h=>⟨(a,some b),.swap _ _ _⟩
 |a::ts,b::vs,j+1,t,w,l,h=>by obtain⟨r,p⟩:=C6 (ts:=ts) (vs:=vs) (j:=j) (t:=t) (w:=w) (by simpa using l) (by simpa using h);exact⟨r,(LB _ _ _).trans ((p.cons _).trans (.swap _ _ _))⟩
theorem IF(hr:Room kr X.A):wZ X (fun o i v H Q=>∃t ti tv Γ k,Rp X.K H ((t,some o)::(ti,some i)::(tv,some v)::Γ)/\A5 t ti tv k/\∀t' H',k t'->Rp X.K H' ((t',some o)::Γ)->Q H'):=by
 rintro ac s σ H o i v ov iv u Q I ro ri rv ⟨t,ti,tv,Γ,k,rp,g,c⟩;cases t with
 |lst own ts=>
  cases own <;> cases ti <;> first|exact ON g|skip
  rename_i j;obtain⟨m,em,kt⟩:=aE g;rw[aT rp.tail]at ri;obtain⟨a,vs,ea,ha,la,ge⟩:=gW rp;cases ea;have hm:m<ts.length:=by have:=(sQ em).2.1;exact this
  rw[la]at em;refine Aq ac s σ H _ _ v ov iv u Q I ro ri rv ⟨a,vs,j,m,rfl,rfl,ha,em,fun H' hp=>c _ _ kt ?_⟩;obtain⟨r,p⟩:=C6 (t:=tv) (w:=v) la hm;have gl:Rp X.K H ((.bare,some (.ref a))::(zz ts vs++((tv,some v)::Γ))):=by
   have:Rp X.K H ((.int j,some i)::((.bare,some (.ref a))::(zz ts vs++((tv,some v)::Γ)))):=ge.perm (by refine u_ (.cons _ f') ?_;exact .swap _ _ _)
   exact this.tail
  have rp4:Rp X.K H (r::((.bare,some (.ref a))::(zz (ts.set m tv) (vs.set m v)++Γ))):=gl.perm (by refine u_ (.cons _ (f'.trans (p.append_right Γ))) ?_;exact .swap _ _ _)
  exact iu rp4.tail (by rw[KG,KG,la]) hp
 |dK own kvs=>
  cases own <;> first|exact ON g|skip
  have g:got (ug ti) fun q=>kvs.length<sizeLine/\k (.dK true (iR kvs q tv)):=by cases ti <;> exact g
  obtain⟨q,eq,hz,kt⟩:=aE g;rw[tG eq rp.tail]at ri;obtain⟨a,vs,ea,ha,la,ge⟩:=pW rp;cases ea;cases ro;have hl:vs.length<sizeLine:=by rw[<-fG la];exact hz
  refine nT (k8 hr) I (.inl ⟨vs,q,ha,rfl,hl,rfl⟩) ri rv fun s' I'=>⟨_,I',c _ _ kt ?_⟩;obtain⟨r,p⟩:=rZ q tv v la (Ck I.hok ha);have gl:Rp X.K H ((.bare,some (.ref a))::(zz (kvs.map (·.2)) (vs.map (·.2))++((tv,some v)::Γ))):=by
   have:Rp X.K H ((ti,some i)::((.bare,some (.ref a))::(zz (kvs.map (·.2)) (vs.map (·.2))++((tv,some v)::Γ)))):=ge.perm (by refine u_ (.cons _ f') ?_;exact .swap _ _ _)
   exact this.tail
  have rp4:Rp X.K H (r++((.bare,some (.ref a))::(zz ((iR kvs q tv).map (·.2)) ((putK vs q v).map (·.2))++Γ))):=gl.perm (by refine u_ (.cons _ (f'.trans (p.append_right Γ))) ?_;rw[o_];exact f'.symm)
  exact qO rp4.part (vG q tv v la) Put.up
 |dT own kvs=>
  cases own <;> cases ti <;> first|exact ON g|skip
  rename_i ks;obtain⟨q,eq,hz,kt⟩:=aE g;obtain⟨b,rfl,hb⟩:=m8 eq rp.tail;obtain⟨a,vs,ea,ha,la,ge⟩:=qb rp;cases ea;cases ro;have hl:vs.length<sizeLine:=by rw[<-fG la];exact hz
  refine nT (k8 hr) I (.inr ⟨vs,q,b,ha,rfl,hb,hl,rfl⟩) ri rv fun s' I'=>⟨_,I',c _ _ kt ?_⟩;obtain⟨r,p⟩:=rZ q tv v la (Bw I.hok ha);have gl:Rp X.K H ((.bare,some (.ref a))::(zz (kvs.map (·.2)) (vs.map (·.2))++((tv,some v)::Γ))):=by
   have:Rp X.K H ((.tup ks,some (.ref b))::((.bare,some (.ref a))::(zz (kvs.map (·.2)) (vs.map (·.2))++((tv,some v)::Γ)))):=ge.perm (by refine u_ (.cons _ f') ?_;exact .swap _ _ _)
   exact this.tail
  have rp4:Rp X.K H (r++((.bare,some (.ref a))::(zz ((iR kvs q tv).map (·.2)) ((putK vs q v).map (·.2))++Γ))):=gl.perm (by refine u_ (.cons _ (f'.trans (p.append_right Γ))) ?_;rw[o_];exact f'.symm)
  exact rF rp4.part (vG q tv v la) Put.up
 | _=>cases ti <;> exact ON g
def FN(i:Nat)(fi:PF):PG':=fun v env k=>got (env[i]?) fun t0=>isAny t0=false/\fi env fun ti al=>got (al[i]?) fun t=>A5 t ti v fun t'=>k (al.set i t')
theorem pV{x:Str}{ix:OL}{fi:PF}(hr:Room kr X.A)(hi:GE X ix fi)(hN:X.N[i]?=some x:=by rfl)(hv:Vis X.env.scope x:=by first|exact d_ rfl|exact j_ (d_ rfl)|exact j_ (j_ rfl))(hd:(x ==("__debug__":Str))=false:=by decide)(hcd:(x ==("__classdict__":Str))=false:=by decide)
  (ha:∀v,Rb (.Subscript (.Name x xp) ix pos) X.env v=(do
   let ov <-QS [v] (O1 (.Name x xp) X.env)
   let iv <-QS [v,ov] (O1 ix X.env)
   Va pos
   QS [v,ov,iv] (U' ov iv v)
   release [v,ov,iv] []):=by intro _;rfl):GG κ X (.Subscript (.Name x xp) ix pos) (FN i fi):=by
 rintro ac s σ H v u Q I r ⟨tv,env,Fr,k,rs,q,c⟩;obtain⟨t0,e0,na,q⟩:=aE q;obtain⟨y,ey,rs2⟩:=rs.slot e0;obtain⟨w,rfl⟩:=iP rs2 na;refine Cq (jL hN hv hd hcd) hi (IF hr) ha ac s σ H v u Q I r ⟨w,ey,env,(tv,some v)::Fr,_,rs,q,fun ti al iv H1 q1 i'=>?_⟩;obtain⟨t,et,q1⟩:=aE q1;obtain⟨y',ey',rs3⟩:=i'.slot et;rw[ey]at ey';cases ey';have hi':i<al.length:=(f_.mp et).1;refine⟨t,ti,tv,(al.set i .any).zip σ++Fr,_,?_,q1,fun t' H' kt rp=>c _ _ _ kt ?_ .refl⟩
 ·refine rs3.head.perm (.cons _ ?_);refine u_ f' (.cons _ ?_);exact f'
 have r4:Rs X.K H' (al.set i .any) σ ((t',some w)::Fr):=.of rs3.1 rp;have r5:=Rs.ni (i:=i) r4 (by rw[KG];exact hi') ey;rw[MD]at r5;exact r5
end
open PySem PySem.Spec PyProof.Rows L2
class Th (α:Type) where
 v:α
noncomputable def Ij(P:FP)(ts:List T)[k:Th (T->List T->Prop)]:Prop:=P ts k.v
def lh(b:Bool)[A:Th Prop][B:Th Prop]:Prop:=cnd b A.v B.v
def fL(o:Option α)[k:Th (α->Prop)]:Prop:=got o k.v
def FF(fr:List (Option Nat))(be:List T)(g:PG')(ft:PB)(fe:PF)(env:Ev)[k:Th (T->Ev->Prop)]:Prop:=FK fr be g ft fe env k.v
theorem bW{u:α}{k:Th (α->Prop)}:fL (some u) (k:=k)=k.v u:=rfl
theorem cK{o:Option α}{u:α}{k:Th (α->Prop)}(e:o=some u)(h:k.v u):fL o (k:=k):=HR e h
variable {A B:Th Prop}
theorem cG:lh true (A:=A) (B:=B)=A.v:=propext ⟨fun h=>h.1 rfl,fun h=>FG h⟩
theorem bE:lh false (A:=A) (B:=B)=B.v:=propext ⟨fun h=>h.2 rfl,fun h=>JL h⟩
theorem eD:lh (!b) (A:=A) (B:=B)=lh b (A:=B) (B:=A):=by cases b <;> simp only[N8,N4,cG,bE]
theorem nr(h1:b=true->A.v)(h2:b=false->B.v):lh b (A:=A) (B:=B):=⟨h1,h2⟩
theorem aF{p:Prop}{d:Decidable p}(h1:p->A.v)(h2:¬p->B.v):lh (decide p) (A:=A) (B:=B):=⟨fun h=>h1 (of_decide_eq_true h),fun h=>h2 (of_decide_eq_false h)⟩
theorem yg(e:b=true)(h:A.v):lh b (A:=A) (B:=B):=by rw[e];exact FG h
variable {gt:PG'}{ko:Option Int->Ev->Prop}
section
variable{f g:PF}{env:Ev}{k:T->Ev->Prop}{kb:Bool->Ev->Prop}{tc td:PB}{pe:PEn}{u v:PSt}{fs:PFs}{fa:PAs}{ks:List T->Ev->Prop}{ka:List Arg->Ev->Prop}
theorem jc:fQ f env k=f (erL env) fun t _=>dy t=true/\k t env:=rfl
theorem i7:fQT tc env kb=tc (erL env) fun b _=>kb b env:=rfl
theorem jb:fK t env k=k t env:=rfl
theorem fy:EF i env k=fL (env[i]?) (k:=⟨fun t=>isAny t=false/\aU t=true/\k t env⟩):=by unfold EF;cases env[i]? <;> rfl
theorem gC:fFz i env k=fL (env[i]?) (k:=⟨fun t=>isAny t=false/\k (er t) (env.set i (er t))⟩):=by unfold fFz;cases env[i]? <;> rfl
theorem gf:fMv i env k=fL (env[i]?) (k:=⟨fun t=>isAny t=false/\k t (env.set i .any)⟩):=by unfold fMv;cases env[i]? <;> rfl
theorem dN{p:P2}:Ag p f g env k=f env fun x al=>g al fun y bn=>p x y fun t=>k t bn:=rfl
theorem gZ{p:T->(T->Prop)->Prop}:fUn p f env k=f env fun t al=>p t fun u=>k u al:=rfl
noncomputable def asB(t:T)[k:Th (Bool->Prop)]:Prop:=match t with
 | .bl b=>k.v b
 | _=>False
theorem gp{k:Th (Bool->Prop)}:asB (.bl b) (k:=k)=k.v b:=rfl
theorem eE:DV f env kb=f env fun t al=>asB t (k:=⟨fun b=>kb b al⟩):=rfl
theorem fu:JV f env kb=f env fun t al=>HU t fun b=>kb b al:=rfl
theorem cq{p q:P2}{h:PF}:tB p q f g h env k=f env fun x al=>g al fun y bn=>aU y=true/\p x y fun z=>asB z (k:=⟨fun b=>lh b (A:=⟨h bn fun u dL=>q y u fun t=>k t dL⟩) (B:=⟨k (.bl false) bn⟩)⟩):=rfl
theorem d8:Fy tc td env kb=tc env fun b al=>lh b (A:=⟨td al kb⟩) (B:=⟨kb false al⟩):=rfl
theorem fE:J7 tc td env kb=tc env fun b al=>lh b (A:=⟨kb true al⟩) (B:=⟨td al kb⟩):=rfl
theorem cS:FQ tc env kb=tc env fun b al=>kb (!b) al:=rfl
theorem eS:JJ f g env k=f env fun t al=>asB t (k:=⟨fun b=>lh b (A:=⟨g al k⟩) (B:=⟨k (.bl false) al⟩)⟩):=rfl
theorem fZ:fOr f g env k=f env fun t al=>asB t (k:=⟨fun b=>lh b (A:=⟨k (.bl true) al⟩) (B:=⟨g al k⟩)⟩):=rfl
theorem fA:Hj env ks=ks [] env:=rfl
theorem df:FX f fs env ks=f env fun t al=>fs al fun ts bn=>ks (t::ts) bn:=rfl
theorem fw:Iv fs env k=fs env fun ts al=>ts.length<=sizeLine/\k (.tup ts) al:=rfl
theorem eV:JD fs env k=fs env fun ts al=>ts.length<=sizeLine/\k (.lst true ts) al:=rfl
theorem gM{p:P1s}:fCl p fs env k=fs env fun ts al=>p ts fun t=>k t al:=rfl
theorem dX:IX env ka=ka [] env:=rfl
theorem dH:Jl f fa env ka=f env fun t al=>fa al fun as bn=>ka (.val t::as) bn:=rfl
theorem dG:Ic i fa env ka=fL (env[i]?) (k:=⟨fun t=>isAny t=false/\fa env fun as bn=>ka (.bor i::as) bn⟩):=by
 unfold Ic;cases env[i]? with
 |none=>exact propext ⟨fun h=>h.1,fun h=>h.elim⟩
 |some t=>rfl
theorem dC:Gn n P fa env k=fa env fun as al=>as.length=n/\Ij P (lend as al).1 (k:=⟨fun t ts'=>k t (back as ts' (lend as al).2)⟩):=rfl
theorem cR:uK fr fi gt ft fe env k=fi env fun be al=>FF fr be gt ft fe al (k:=⟨k⟩):=rfl
theorem d4{m:PM}:yI i m fs env k=fL (env[i]?) (k:=⟨fun t0=>isL t0=true/\fs env fun ts al=>fL (al[i]?) (k:=⟨fun t=>m t ts fun t' r=>k r (al.set i t')⟩)⟩):=rfl
theorem gS{fl fh:PO'}:fSl f fl fh env k=f env fun t al=>fl al fun lo bn=>fh bn fun hi dL=>slT t lo hi fun u=>k u dL:=rfl
theorem eG:J0 env ko=ko none env:=rfl
noncomputable def asI(t:T)[k:Th (Int->Prop)]:Prop:=match t with
 | .int b=>k.v b
 | _=>False
theorem fq{b:Int}{k:Th (Int->Prop)}:asI (.int b) (k:=k)=k.v b:=rfl
theorem dM:JG f env ko=f env fun t al=>asI t (k:=⟨fun i=>ko (some i) al⟩):=rfl
theorem cZ:FZ pe env=pe.nx env:=rfl
theorem eN:Jh u v pe env=u {pe with nx:=v pe} env:=rfl
theorem dh:FI f pe env=f env fun _ al=>pe.nx al:=rfl
theorem e9:JN f pe env=f env fun t al=>pe.rt t al:=rfl
theorem hC:sIf tc u v pe env=tc env fun b al=>lh b (A:=⟨u pe al⟩) (B:=⟨v pe al⟩):=rfl
theorem eF:EG i f pe env=f env fun t al=>pe.nx (al.set i t):=rfl
theorem f9:Ji f gt pe env=f env fun t al=>gt t al pe.nx:=rfl
noncomputable def asP(ts:List T)(k:T->T->Prop):Prop:=match ts with
 | [t,u]=>k t u
 | _=>False
theorem gI{u:T}{k:T->T->Prop}:asP [t,u] k=k t u:=rfl
theorem eX:Jj i j fs pe env=fs env fun ts al=>asP ts fun t u=>pe.nx ((al.set i t).set j u):=rfl
theorem bX:C5 tc u pe env=wy tc u pe env:=rfl
theorem eZ:JB fi gt u pe env=fi env fun be al=>forL be gt u pe al:=rfl
variable{t:T}{ke:Ev->Prop}{ts:List T}{gt:PG'}{gts:oB}
theorem jg:gN i t env ke=ke (env.set i t):=rfl
theorem eC:FR [] env ke=ke env:=propext ⟨fun h=>h.2,fun h=>⟨rfl,h⟩⟩
theorem cO:CD gt gts (t::ts) env ke=gt t env fun al=>gts ts al ke:=rfl
theorem dJ:gTp n gts (.tup ts) env ke=(ts.length=n/\gts ts env ke):=rfl
theorem d7{fi:PF}:FN i fi t env ke=fL (env[i]?) (k:=⟨fun t0=>isAny t0=false/\fi env fun ti al=>fL (al[i]?) (k:=⟨fun t1=>A5 t1 ti t fun t'=>ke (al.set i t')⟩)⟩):=rfl
variable{ki:List T->Ev->Prop}
theorem eO:Jf f env ki=f env fun t al=>fL (items t) (k:=⟨fun ts=>ki (erL ts) al⟩):=rfl
noncomputable def as1(ts:List T)(k:Int->Prop):Prop:=match ts with
 | [.int j]=>k j
 | _=>False
noncomputable def as2(ts:List T)(k:Int->Int->Prop):Prop:=match ts with
 | [.int i,.int j]=>k i j
 | _=>False
theorem hJ{j:Int}{k:Int->Prop}:as1 [.int j] k=k j:=rfl
theorem gL{i j:Int}{k:Int->Int->Prop}:as2 [.int i,.int j] k=k i j:=rfl
theorem gU:iR1 fs env ki=fs env fun ts al=>as1 ts fun j=>(-(2 ^ 62)<=j/\j<2 ^ 62)/\ki (nM 0 j.toNat) al:=rfl
theorem hZ:iR2 fs env ki=fs env fun ts al=>as2 ts fun i j=>(-(2 ^ 62)<=i/\i<2 ^ 62/\-(2 ^ 62)<=j/\j<2 ^ 62)/\ki (nM i (j-i).toNat) al:=rfl
theorem gG:iZp fs env ki=fs env fun ts al=>asP ts fun t u=>fL (items t) (k:=⟨fun as=>fL (items u) (k:=⟨fun bs=>ki (((erL as).zip (erL bs)).map fun p=>.tup [p.1,p.2]) al⟩)⟩):=rfl
noncomputable def asO(ts:List T)(k:T->Prop):Prop:=match ts with
 | [t]=>k t
 | _=>False
theorem hV{t:T}{k:T->Prop}:asO [t] k=k t:=rfl
theorem gX:iEn fs env ki=fs env fun ts al=>asO ts fun t=>fL (items t) (k:=⟨fun as=>ki ((A' as.length).zipWith (fun(i:Nat) (x:T)=>T.tup [.int (i:Int),x]) (erL as)) al⟩):=rfl
end
variable {kvs:List (List Key×T)}
section
variable{k:T->Prop}{i j l:Int}{x y:Str}{ts us:List T}{o o' b c:Bool}{t:T}
theorem dS:HM (.int i) (.int j) k=k (.int (i+j)):=rfl
theorem fg:HM (.lst o ts) (.lst o' us) k=(ts.length+us.length<=sizeLine/\k (.lst true (ts++us))):=rfl
theorem eA:J6 (.int i) (.int j) k=k (.int (i-j)):=rfl
theorem eY:Iz (.int i) (.int j) k=(wU i j/\k (.int (i*j))):=rfl
theorem eP:Jz (.int i) (.int j) k=(DP i j/\k (.int (i/j))):=rfl
theorem dB:J4 (.int i) (.int j) k=(0<j/\k (.int (i%j))):=rfl
theorem gx:ltT (.int i) (.int j) k=k (.bl (decide (i<j))):=rfl
theorem gm:leT (.int i) (.int j) k=k (.bl (decide (i<=j))):=rfl
theorem i4:gtT (.int i) (.int j) k=k (.bl (decide (j<i))):=rfl
theorem gv:IY (.int i) k=k (.int (-i)):=rfl
theorem gc:eqT (.int i) (.int j) k=k (.bl (decide (i=j))):=by
 unfold eqT;refine propext ⟨fun h=>?_,fun h=>⟨rfl,rfl,show(0:Nat)<190 by decide,?_⟩⟩
 ·have:=h.2.2.2;rw[dt,dt,eqD]at this;rw[My]at this;exact this
 rw[dt,dt,eqD,My];exact h
theorem gD:neT (.bl b) (.bl c) k=k (.bl (!(b == c))):=by
 unfold neT;refine propext ⟨fun h=>?_,fun h=>⟨rfl,rfl,show(0:Nat)<190 by decide,?_⟩⟩
 ·have:=h.2.2.2;rw[dt,dt,eqD]at this;exact this
 rw[dt,dt,eqD];exact h
noncomputable def iT(ns:List Int):T:=.tup (ns.map T.int)
theorem Ha{a b c d:Int}:neT (.tup [.int a,.int b]) (.tup [.int c,.int d]) k=k (.bl (!decide (a=c/\b=d))):=by
 have e:eqD (dt (.tup [.int a,.int b])) (dt (.tup [.int c,.int d]))=decide (a=c/\b=d):=by simp only[dt,dtL,eqD,eqL,My,Nw,Bool.decide_and]
 unfold neT;rw[e];exact propext ⟨fun h=>h.2.2.2,fun h=>⟨rfl,rfl,(by simp[dt,dtL,dpt,i8]),h⟩⟩
theorem fx:ixT (.tup ts) (.int i) k=fL (atI ts i) (k:=⟨k⟩):=rfl
theorem eB:ixT (.cst ts) (.int i) k=fL (atI ts i) (k:=⟨k⟩):=rfl
theorem dW:ixT (.lst o ts) (.int i) k=fL (atI ts i) (k:=⟨k⟩):=rfl
theorem i0:ixT (.dT o kvs) (.tup ts) k=fL (iS ts) (k:=⟨fun q=>fL (jl kvs q) (k:=⟨k⟩)⟩):=rfl
theorem hU:inT (.tup ts) (.dT o kvs) k=fL (iS ts) (k:=⟨fun q=>k (.bl (jl kvs q).isSome)⟩):=rfl
theorem f6:HE t u k=inT t u fun w=>asB w (k:=⟨fun b=>k (.bl (!b))⟩):=rfl
theorem dk:iS []=some []:=rfl
theorem cP:iS (.int i::ts)=(iS ts).map fun ks=>Qu i::ks:=by rw[iS];cases iS ts <;> rfl
theorem iW(a:α)(l:List α):atI (a::l) 0=some a:=iG (j:=0) rfl
theorem jd(a b:α)(l:List α):atI (a::b::l) 1=some b:=iG (j:=1) rfl
theorem je(a b c:α)(l:List α):atI (a::b::c::l) 2=some c:=iG (j:=2) rfl
theorem ji(a b c d:α)(l:List α):atI (a::b::c::d::l) 3=some d:=iG (j:=3) rfl
theorem j5(a b c d e:α)(l:List α):atI (a::b::c::d::e::l) 4=some e:=iG (j:=4) rfl
theorem iX(a b c d e f:α)(l:List α):atI (a::b::c::d::e::f::l) 5=some f:=iG (j:=5) rfl
theorem j7(a b c d e f g:α)(l:List α):atI (a::b::c::d::e::f::g::l) 6=some g:=iG (j:=6) rfl
theorem j9(a b c d e f g h:α)(l:List α):atI (a::b::c::d::e::f::g::h::l) 7=some h:=iG (j:=7) rfl
theorem cT:JI [.lst o ts] k=k (.int ts.length):=rfl
theorem fX:Iy [.int i] k=k (.int i.natAbs):=rfl
theorem hW:BI [.int i,.int j] k=k (.int (max i j)):=rfl
theorem gP:BI [.int i,.int j,.int l] k=k (.int (max (max i j) l)):=rfl
theorem gE:Dh [.int i,.int j] k=k (.int (min i j)):=rfl
theorem gH:Dh [.int i,.int j,.int l] k=k (.int (min (min i j) l)):=rfl
theorem gj:BI [.lst o ts] k=fL (intsOf ts) (k:=⟨fun ns=>ns≠[]/\∀r,iC ns r->k (.int r)⟩):=rfl
theorem gR:Dh [.lst o ts] k=fL (intsOf ts) (k:=⟨fun ns=>ns≠[]/\∀r,iD ns r->k (.int r)⟩):=rfl
theorem gF:Gx [.bl b] k=k (.int (if b then 1 else 0)):=rfl
theorem eR:xZ [.lst o ts] k=k (.lst true ts):=rfl
theorem cY:sk [.lst o ts] k=k (.tup ts):=rfl
theorem hX:HA [.lst o ts] k=fL (boolsOf ts) (k:=⟨fun bs=>k (.bl (bs.all id))⟩):=rfl
theorem i6:Jd (.lst o ts) k=k (.lst true ts.reverse):=rfl
theorem jk{lo hi:Option Int}:slT (.lst o ts) lo hi k=k (.lst true (mQ ts lo hi)):=rfl
theorem gY{kb:Bool->Prop}:HU (.bl b) kb=kb b:=rfl
variable{km:T->T->Prop}
theorem bo:sX (.lst true ts) [t] km=(ts.length<sizeLine/\km (.lst true (ts++[t])) .non):=rfl
theorem br:tZ (.lst true ts) [.lst true us] km=(ts.length+us.length<=sizeLine/\km (.lst true (ts++us)) .non):=rfl
theorem aY:oQ (.lst true ts) [] km=km (.lst true ts.reverse) .non:=rfl
theorem bA:sM (.lst true ts) [.int i,t] km=((0<=i/\i<=(ts.length:Int)/\ts.length<2 ^ 20)/\km (.lst true (ts.take i.toNat++t::ts.drop i.toNat)) .non):=rfl
theorem dF:A5 (.dT true kvs) (.tup ts) t k=fL (iS ts) (k:=⟨fun q=>kvs.length<sizeLine/\k (.dT true (iR kvs q t))⟩):=rfl
end
theorem bz(g:α->T)(l:List α):bK (l.map g)=l.all fun x=>aU (g x):=by rw[pY,Mh];rfl
theorem aV(g:α->T)(l:List α):cL (l.map g)=l.all fun x=>dy (g x):=by rw[jt,Mh];rfl
theorem bS(l m:List T):cL (l++m)=(cL l&&cL m):=by rw[jt,jt,jt,List.all_append]
theorem dA(l:List α):(l.all fun _=>true)=true:=by induction l with|nil=>rfl|cons _ _ ih=>rw[Md,ih];rfl
theorem cQ:isAny (.bl b)=false:=rfl
theorem cc{i:Int}:isAny (.int i)=false:=rfl
theorem cj:isAny (.tup ts)=false:=rfl
theorem cn:isAny (.cst ts)=false:=rfl
theorem cf:isAny (.lst o ts)=false:=rfl
theorem d6:isAny (.dT o kvs)=false:=rfl
theorem fB:isL (.lst o ts)=true:=rfl
theorem bQ:items (.tup ts)=some ts:=rfl
theorem cg:items (.lst o ts)=some ts:=rfl
variable {be:List T}
theorem aR{g:PG'}(W:Nat->Ev->Prop)(h0:W 0 env)(ht:∀i t env,W i env->be[i]?=some t->g t env fun bn=>fb {pe with nx:=W (i+1),ct:=W (i+1),bk:=pe.nx} bn)(he:∀env,W be.length env->pe.nx env):forL be g fb pe env:=⟨W,h0,ht,he⟩
theorem AN(W:Nat->Ev->Prop)(m:Nat)(h0:W m env)(ht:∀m env,W m env->tc env fun b al=>lh b (A:=⟨fb {pe with nx:=fun e=>∃m',m'<m/\W m' e,ct:=fun e=>∃m',m'<m/\W m' e,bk:=pe.nx} al⟩) (B:=⟨pe.nx al⟩)):wy tc fb pe env:=⟨W,⟨m,h0⟩,ht⟩
theorem aJ{g:PG'}{k:Th (T->Ev->Prop)}(hz:be.length<sizeLine)(W:Nat->List T->Ev->Prop)(h0:W 0 [] (lend (frA fr) env).1)(ht:∀i t acc ie,W i acc ie->be[i]?=some t->g t ie fun ie2=>ft ie2 fun b ie3=>lh b (A:=⟨fe ie3 fun u ie4=>W (i+1) (acc++[u]) ie4⟩) (B:=⟨W (i+1) acc ie3⟩))
  (he:∀acc ie,W be.length acc ie->k.v (.lst true acc) (back (frA fr) ie (lend (frA fr) env).2)):FF fr be g ft fe env (k:=k):=⟨hz,W,h0,ht,he⟩
noncomputable def sq(b:Bool)(ts:List T):T:=match b with
 |true=>.tup ts
 |false=>.lst false ts
abbrev pt(x y:Int):T:=.tup [.int x,.int y]
end PL
namespace ZG
open PySem
open Sem (wp)
theorem AB{prog:OI}{w:OK}{A:OP}(hh:A.handled=none)(it d:Oz)(kw:d≠it)(o:Obj)(es:Array Qp)(ep:Nat)(hd:o.data=.dict es ep) :
  Wz prog w A it [it,d] [it] es.size (fun i v=>∃e,es[i]?=some e/\v=e.key) (fun i h=>h.IsKeyIter it d i es.size ep/\h.get? d=some o) where
 sub:=fun b hb=>by simp at hb;simp[hb]
 frame:=fun _ _ _ st hk=>⟨st.1.at fun o e=>hk it (by simp) o e,hk d (by simp) o st.2⟩
 item:=fun i s Q E hi st hQ=>by have hx:es[i]?=some es[i]:=k_ hi;refine FO st.1 st.2 hd hx fun h' hit' hs'=>?_;exact hQ _ h' s.toks ⟨_,hx,rfl⟩ ⟨hit',hs'.extBut d o kw st.2⟩ fun b o hb e=>hs'.extBut b o (fun z=>hb (by simp[z])) e
 done:=fun s Q E st hQ=>Jm hh st.1 st.2 hd (KJ (b_ _)) fun h' he'=>hQ h' s.toks fun b o hb e=>he' b o (fun z=>hb (by simp[z])) e
 self:=fun _ _ _ _ st hQ=>Tw st.1 hQ
theorem yq{prog:OI}{w:OK}{d:Oz}{o:Obj}{es:Array Qp}{ep:Nat}(lo:(d == O0)=false)(hc:o.ExactDict)(hd:o.data=.dict es ep) :
  PySem.W.KdlSrc prog w "dict" d d es.size (fun i v=>∃e,es[i]?=some e/\v=e.key) (fun h=>h.get? d=some o) where
 type:=fun _ hm=>⟨o,hm,hc.1⟩
 there:=fun _ hm=>⟨OG hm,OG hm⟩
 keep:=fun _ _ hm hk=>hk d (.inl rfl) o hm
 notList:=by decide
 notTuple:=by decide
 hint:=fun _ _ _ _ hm hq=>PySem.W.kdl_hint_dict ⟨o,hm,hc.1⟩ hq
 iter:=fun _ _ hh hm=>⟨_,_,(fun _ _ hq=>FW lo hm hc hd hq),AB hh _ d (j' (OG hm)) o es ep hd,⟨⟨_,OF _ rfl,rfl,rfl⟩,OD _ hm⟩⟩
end ZG
namespace L2
open PySem PySem.Spec PyProof.Rows
section
variable{X:Cx}
theorem xk(hc:X.calm=true):cH X (.type "list") (fun xs H Q=>∃d kvs,xs=[.ref d]/\Rd H d (.dT kvs)/\∀bs:List Oz,QE (fun(b:Oz) (p:List Key×V)=>H b=some (.tup (p.1.map kV))) bs kvs->(kvs.map (·.1)).Nodup->New (.lst (bs.map V.ref)) H Q):=by
 intro ac s σ H xs us Q I r h;obtain⟨d,kvs,rfl,hd,q⟩:=h;obtain⟨u,rfl,ru⟩:=vals1 r;cases ru;obtain⟨z,lo,xs,kt,o,es,ep,g1,g2,g3,g4,g5⟩:=(show bC X.prog X.w H s.heap d (.dT kvs)from hd.ok I.hok);have hes:es.size=kvs.length:=by rw[<-l_,g4,a_];exact(PH kt).symm
 refine PySem.W.kdl_call (ZG.yq lo g2 g3) (I.ok.hd hc) g1 (by lia) fun h' tk acc c kp e it=>?_
 have hacc:acc.toList=(xs.map fun x=>x.2.1).map OT:=by
  refine Mn fun j=>?_;rw[r_,p_,p_];by_cases hj:j<es.size
  ·have hx:j<xs.length:=by rw[<-l_,g4,a_]at hj;exact hj
   have hja:j<acc.size:=by rw[it.1];exact hj
   have ha:acc[j]?=some acc[j]:=k_ hja;obtain⟨en,e1,e2⟩:=it.2 j _ ha;rw[ha,e2,e_ hx];rw[<-r_,g4,p_,e_ hx]at e1;cases e1
   rfl
  have hx:¬j<xs.length:=by rw[<-l_,g4,a_]at hj;exact hj
  rw[KJ (by rw[it.1];lia),Lv (by lia)]
  rfl
 have rel:∀(l:List Oz),Vals (l.map V.ref) (l.map OT):=fun l=>by
  induction l with
  |nil=>exact .nil
  |cons a t ih=>exact .cons rfl ih
 have hq:∀{lm:List (List Key×V)}{xs':List (List Key×Oz×Oy)},KT H lm xs'->QE (fun(b:Oz) (p:List Key×V)=>H b=some (.tup (p.1.map kV))) (xs'.map fun x=>x.2.1) lm:=fun{lm xs'} k=>by
  induction k with
  |nil=>exact .nil
  |cons h t ih=>exact .cons h.2.1 ih
 have ek:∀{lm:List (List Key×V)}{xs':List (List Key×Oz×Oy)},KT H lm xs'->lm.map (·.1)=xs'.map fun x=>x.1:=fun{lm xs'} k=>by
  induction k with
  |nil=>rfl
  |cons h t ih=>rw[c_,c_,ih,h.1]
 have e':h'.get? s.heap.objs.size=some { cls:=.type "list",dict:=none,data:=.seq ((xs.map fun x=>x.2.1).map OT).toArray c,slots:=#[] }:=by rw[<-hacc];exact e
 exact⟨.ref s.heap.objs.size,_,I.laid (t':=tk) kp (b_ _) (show bC X.prog X.w _ h' _ (.lst ((xs.map fun x=>x.2.1).map V.ref))from⟨by rw[a_,a_,<-PH kt];omega,_,c,rel _,e'⟩),rfl,(q _ (hq kt) (by rw[ek kt];exact g5)).at (I.hok.fresh (b_ _))⟩
abbrev oX(K:OA)(H:Hp):List V->List (List Int)->Prop:=QE fun v k=>k≠[]/\∃b,v=.ref b/\SqT K H b (k.map V.int)
theorem vx{ac:List (Oz×Obj)}{σ:St}{H:Hp}{s:OB}(I:Inv X ac σ H s):∀{ys:List V}{be:List Oy}{ks:List (List Int)},Vals ys be->oX X.K H ys ks->(∀v∈be,ZS.DY s.heap v/\∃b,v=.ref b/\ZS.ju s.heap v≠[]/\SqT X.K H b ((ZS.ju s.heap v).map V.int))/\be.map (ZS.ju s.heap)=ks:=by
 intro ys be ks x;induction x generalizing ks with
 |nil=>intro r;cases r;exact⟨fun v hv=>(nomatch hv),rfl⟩
 | @cons v _ _ be hv tv ih=>
  intro r;rcases r with _|⟨hk,tk⟩;rename_i k ks;obtain⟨kw,b,rfl,hb⟩:=hk;cases hv;obtain⟨j1,j2⟩:=ih tk;obtain⟨its',r',⟨o,ho,hc,n,hd⟩,hz⟩:=I.tuple hb;obtain⟨ps,e1,e2⟩:=iK r';have kv:ZS.ju s.heap (.ref b)=k:=by
   rw[ZS.si ho hd];show its'.map ZS.jJ=k;rw[e1,D_,<-e2]
   rfl
  refine⟨fun w hw=>?_,by rw[c_,kv,j2]⟩;rcases h_.mp hw with e|e
  ·subst e;refine⟨⟨b,o,_,n,rfl,ho,hc,hd,fun v hv=>?_,?_⟩,b,rfl,by rw[kv];exact kw,by rw[kv];exact hb⟩
   ·have hv:v∈its':=hv;rw[e1]at hv;obtain⟨p,_,e⟩:=n_.mp hv;exact⟨p.1,p.2,e.symm⟩
   rw[i_,e1,a_,<-a_ (f:=(·.1)),e2];exact MK.mpr kw
  exact j1 w e
theorem A9:∀{ys:List V}{us:List Oy}{u:Oy}{b:Oz},Vals ys us->u∈us->u=.ref b->V.ref b∈ys:=by
 intro ys us u b x;induction x with
 |nil=>intro h _;cases h
 | @cons y _ _ _ r t ih=>
  intro h e;rcases h_.mp h with z|h
  ·subst z;subst e;have:y=.ref b:=RelV.inj r (show RelV (.ref b) (.ref b)from rfl);rw[this];exact x_
  exact m_ _ (ih h e)
end
end L2
namespace ZS
open PySem PyProof.Rows
section
variable{prog:OI}{w:OK}{A:OP}{E:Oy->OB->Prop}{s:OB}
theorem tL{d:Oz}{o:Obj}{es:Array Qp}{ep:Nat}{Q:List Oy->OB->Prop}(lo:(d == O0)=false)(ho:s.heap.get? d=some o)(hc:o.ExactDict)(hd:o.data=.dict es ep)(hh:A.handled=none)(hn:es.size<=sizeLine)
  (h:∀h' tk acc,s.heap.objs.size<=h'.objs.size->(∀b u,s.heap.get? b=some u->h'.get? b=some u)->Sn (fun i v=>∃e,es[i]?=some e/\v=e.key) acc es.size->Q acc.toList {s with heap:=h',toks:=tk}):OE (OJ prog w) A (T' (.ref d)) Q E s:=by
 unfold T';refine Ox (Te (PK Tf ?_));rw[Pq Tg _];show OE _ A.in1 (Wq [] >>= fun l=>again (.builtin "list.__iadd__" ⟨[l,.ref d],[]⟩)) _ _ s;refine Ox (OU ?_);refine OC ⟨Qf Rr _,PK Uh ?_⟩;rw[Pq Rr _];have hS:(s.heap.push { cls:=.type "list",data:=.seq ([]:List Oy).toArray}).get? s.heap.objs.size=some { cls:=.type "list",data:=.seq ([]:List Oy).toArray}:=OF _ rfl;have kw:s.heap.objs.size≠d:=LD (OG ho);have fin:∀(s':OB) (h':OM) (tk:Nat) (acc:Array Oy) (c:Nat),s'={s with heap:=h',toks:=tk}->(∀b u,s.heap.get? b=some u->h'.get? b=some u)->h'.get? s.heap.objs.size=some { cls:=.type "list",dict:=none,data:=.seq acc c,slots:=#[] }->Sn (fun i v=>∃e,es[i]?=some e/\v=e.key) acc es.size->
   OE (OJ prog w) A (load s.heap.objs.size >>= fun o=>match o.data with
    | .seq xs _=>pure xs.toList
    | _=>Wk "internal:collect") Q E s':=fun s' h' tk acc c es' kp e it=>by
  subst es';refine Ox (Sf e ?_);exact OC (h h' tk acc (KR (OG e)) kp it)
 refine O4 (PySem.W.kdl_extend (s:={s with heap:=s.heap.push { cls:=.type "list",data:=.seq ([]:List Oy).toArray} }) (R:=fun r s'=>∃(h':OM) (tk:Nat) (acc:Array Oy) (c:Nat),r=.ok (.ret (.ref s.heap.objs.size))/\s'={s with heap:=h',toks:=tk}/\(∀b u,s.heap.get? b=some u->h'.get? b=some u)/\h'.get? s.heap.objs.size=some { cls:=.type "list",dict:=none,data:=.seq acc c,slots:=#[] }/\Sn (fun i v=>∃e,es[i]?=some e/\v=e.key) acc es.size)
  (ZG.yq lo hc hd) hh (OD _ ho) s.heap.objs.size kw kw (.ref s.heap.objs.size) 0 hS (fun h' tk acc c kp e it=>⟨h',tk,acc,c,rfl,rfl,fun b u eb=>kp b u (j' (OG eb)) (OD _ eb),e,it⟩) hn) (fun fn s' hf=>?_) (fun e s' hf=>?_)
 ·cases fn with
  |done f=>
   obtain⟨h',tk,acc,c,ef,es',kp,e,it⟩:=hf;cases ef;exact fin s' h' tk acc c es' kp e it
  |again c'=>
   refine⟨hf.1,Qm hf.2 fun r s'' hr=>?_⟩;obtain⟨h',tk,acc,c,er,es',kp,e,it⟩:=hr;subst er;exact fin s'' h' tk acc c es' kp e it
 obtain⟨_,_,_,_,ef,_⟩:=hf;cases ef
end
end ZS
namespace L2
open PySem PySem.Spec PyProof.Rows
section
variable{X:Cx}
abbrev vj(H:Hp):List V->List (List Int)->Prop:=QE fun v k=>k≠[]/\∃b,v=.ref b/\H b=some (.tup (k.map V.int))
theorem oS{α β:Type}{F:α->β->Prop}:∀{l:List α}{m:List β},QE F l m->∀(i:Nat) (a:α) (b:β),l[i]?=some a->m[i]?=some b->F a b
 | _,_,.nil,i,a,b,h,_=>by simp at h
 | _,_,.cons f _,0,a,b,h,g=>by cases h;cases g;exact f
 | _,_,.cons _ t,i+1,a,b,h,g=>oS t i a b (by simpa using h) (by simpa using g)
end
end L2
namespace ZS
open PySem PyProof.Rows
noncomputable def ltI(a b:Int):Bool:=decide (a<b)
theorem JM:Tot ltI:=⟨fun a=>decide_eq_false (Int.lt_irrefl a),fun a b c h g=>decide_eq_true (Int.lt_trans (of_decide_eq_true h) (of_decide_eq_true g)),fun a b h g=>by have h:=of_decide_eq_false h;have g:=of_decide_eq_false g;lia⟩
variable {ns:List Int}
section
variable{prog:OI}{w:OK}{A:OP}{E:Oy->OB->Prop}{s:OB}
theorem Bq{S:O9->Prop}(hS:∀x,S x->∃i t,x.1=.int i t/\i∈ns):lg (OJ prog w) A E s UI (fun x=>rnk ltI ns (jJ x.1)) S:=by intro x y st Q sx sy kd q;obtain⟨i,t,ex,mi⟩:=hS x sx;obtain⟨j,u,ey,mj⟩:=hS y sy;rw[lt'_eq];refine OV (Tb ?_);rw[kd,ex,ey,keyLt'_oneType];refine OV (Tv (P7 (oneLt_int ⟨rfl,?_⟩)));refine Pa ?_;dsimp only at q;rw[yJ JM (show jJ x.1∈ns by rw[ex];exact mi),ex,ey]at q;exact q
theorem BO{M:Rk}{v1:Oy}{vs:List Oy}{Q:Qd->OB->Prop}(hI:P1 (v1::vs) ns)(q:Q UI s):OE M A (Sw (v1::vs).toArray) Q E s:=by
 have e:Sw (v1::vs).toArray=pure UI:=by
  rw[keyKind'_eq,NL,mapM_first_ints hI];simp only[map_pure,pure_bind];rw[if_neg (by simp),if_neg (by simp),oneTypeOnly'_eq,NL,mapM_typeOf_ints hI];simp only[map_pure,pure_bind];have hal:((K' (fun _=>Pz "int") (v1::vs)).toArray.all fun x=>x == Pz "int")=true:=by simp only[List.all_toArray,Mh,KW];exact fun _ _=>rfl
  have hz:(K' (fun _=>Pz "int") (v1::vs)).toArray[0]?=some (Pz "int"):=by simp
  rw[hz];simp only[hal,if_true,pure_bind,NC]
 rw[e];exact OC q
end
end ZS
namespace PL
open PySem PySem.Spec PyProof.Rows L2
section
variable{κ:Type}{lt:κ->κ->Bool}
noncomputable def zS(lt:κ->κ->Bool)(x:κ):List κ->List κ
 | []=>[x]
 |y::r=>if lt y x=true then y::zS lt x r else x::y::r
def Dq(lt:κ->κ->Bool):List κ->List κ
 | []=>[]
 |x::r=>zS lt x (Dq lt r)
theorem nR(x:κ):∀l:List κ,(zS lt x l).Perm (x::l)
 | []=>.refl _
 |y::r=>by
  rw[zS];split
  ·exact((nR x r).cons y).trans (.swap _ _ _)
  exact .refl _
theorem ny:∀l:List κ,(Dq lt l).Perm l
 | []=>.refl _
 |x::r=>(nR x _).trans ((ny r).cons x)
theorem o9(T:ZS.Tot lt)(x:κ):∀{l:List κ},l.Pairwise (fun a b=>lt b a=false)->(zS lt x l).Pairwise (fun a b=>lt b a=false)
 | [],_=>LO _ _
 |y::r,h=>by
  rw[Lo]at h;rw[zS];split
  ·rename_i hy;rw[Lo];refine⟨fun b hb=>?_,o9 T x h.2⟩;rcases h_.mp ((nR x r).mem_iff.mp hb)with rfl|hb
   ·cases z:lt b y
    ·rfl
    have:=T.tr _ _ _ z hy;rw[T.irr]at this;cases this
   exact h.1 b hb
  rename_i hy;have hy:lt y x=false:=LV.mpr hy;rw[Lo];refine⟨fun b hb=>?_,Lo.mpr h⟩;rcases h_.mp hb with rfl|hb
  ·exact hy
  cases z:lt b x
  ·rfl
  have h1:=h.1 b hb;cases w:lt y b
  ·have:=T.tot _ _ h1 w;subst this;rw[z]at hy;cases hy
  have:=T.tr _ _ _ w z;rw[hy]at this;cases this
theorem og(T:ZS.Tot lt):∀l:List κ,(Dq lt l).Pairwise (fun a b=>lt b a=false)
 | []=>MV
 |x::r=>o9 T x (og T r)
theorem oj(T:ZS.Tot lt):∀{l m:List κ},l.Perm m->l.Pairwise (fun a b=>lt b a=false)->m.Pairwise (fun a b=>lt b a=false)->l=m
 | [],m,p,_,_=>(List.Perm.nil_eq p)
 |a::l,[],p,_,_=>(List.Perm.eq_nil p)
 |a::l,b::m,p,h,g=>by
  rw[Lo]at h g;have e:a=b:=by
   have ha:a∈b::m:=p.mem_iff.mp x_;have hb:b∈a::l:=p.mem_iff.mpr x_;rcases h_.mp ha with e|ha
   ·exact e
   rcases h_.mp hb with e|hb
   ·exact e.symm
   exact T.tot _ _ (g.1 a ha) (h.1 b hb)
  subst e;rw[oj T (List.Perm.cons_inv p) h.2 g.2]
theorem tR(T:ZS.Tot lt){l m:List κ}(p:l.Perm m)(h:l.Pairwise (fun a b=>lt b a=false)):l=Dq lt m:=
 oj T (p.trans (ny m).symm) h (og T m)
end
abbrev vZ(ks:List (List Int)):List (List Int):=Dq ZS.ltL ks
def rowOf:T->Option (List Int)
 | .tup ts=>match intsOf ts with
  |some (n::r)=>some (n::r)
  | _=>none
 | _=>none
def rowsOf:List T->Option (List (List Int))
 | []=>some []
 |t::r=>match rowOf t,rowsOf r with
  |some k,some ks=>some (k::ks)
  | _,_=>none
variable {t:T}
theorem Di{k:List Int}(h:rowOf t=some k):t=iT k/\k≠[]:=by
 cases t <;> first|cases h|skip
 rename_i ts;rw[rowOf]at h;split at h
 ·rename_i n r e;cases h;exact⟨by rw[jw e];rfl,by simp⟩
 cases h
theorem qI:∀{ts:List T}{ks:List (List Int)},rowsOf ts=some ks->ts=ks.map iT/\∀k∈ks,k≠[]
 | [],ks,h=>by cases h;exact⟨rfl,fun k hk=>by cases hk⟩
 |t::ts,ks,h=>by
  rw[rowsOf]at h;split at h
  ·rename_i k r e1 e2;cases h;obtain⟨h1,h2⟩:=Di e1;obtain⟨h3,h4⟩:=qI e2;refine⟨by rw[h1,h3];rfl,fun q hq=>?_⟩;rcases h_.mp hq with rfl|hq
   ·exact h2
   exact h4 q hq
  cases h
variable {H:Hp}
section
variable{X:Cx}
theorem vm{K:OA}{H:Hp}{Γ:Fm}:∀{ks:List (List Int)}{vs:List V},(∀k∈ks,k≠[])->(ks.map iT).length=vs.length->Rp K H (zz (ks.map iT) vs++Γ)->oX K H vs ks/\∀v∈vs,∃(b:Oz) (k:List Int),v=.ref b/\H b=some (.tup (k.map V.int))
 | [],[],_,_,_=>⟨.nil,fun v hv=>by cases hv⟩
 | [],_::_,_,l,_=>by cases l
 | _::_,[],_,l,_=>by cases l
 |k::ks,v::vs,n,l,h=>by
  have h:Rp K H ((iT k,some v)::(zz (ks.map iT) vs++Γ)):=h;obtain⟨a,us,rfl,ha,la,h2⟩:=oM h;have eu:=jG la h2;subst eu;obtain⟨r1,r2⟩:=vm (fun q hq=>n q (m_ _ hq)) (by simpa using l) h.tail;refine⟨.cons ⟨n k x_,a,rfl,SqT.of ha⟩ r1,fun w hw=>?_⟩;rcases h_.mp hw with rfl|hw
  ·exact⟨a,k,rfl,ha⟩
  exact r2 w hw
theorem mw{K:OA}{H:Hp}{Γ:Fm}:∀{ks:List (List Int)}{vs:List V},vj H vs ks->Rp K H Γ->Rp K H (zz (ks.map iT) vs++Γ)/\(ks.map iT).length=vs.length
 | [],_,r,h=>by cases r;exact⟨h,rfl⟩
 |k::ks,_,r,h=>by rcases r with _|⟨hd,t⟩;rename_i v vs;obtain⟨_,b,e,hb⟩:=hd;obtain⟨h1,l1⟩:=mw t h;subst e;refine⟨?_,by simp at l1 ⊢;exact l1⟩;show Rp K H ((iT k,some (.ref b))::(zz (ks.map iT) vs++Γ));exact jr (ts:=k.map T.int) (vs:=k.map V.int) (rp_intsP k h1) (by rw[a_,a_]) .gy hb
where
 rp_intsP {Γ:Fm}:∀(ns:List Int),Rp K H Γ->Rp K H (zz (ns.map T.int) (ns.map V.int)++Γ)
 | [],h=>h
 | _::r,h=>cM (rp_intsP r h) fun _=>.int
theorem zH{K:OA}{H:Hp}{Γ:Fm}:∀(ns:List Int),Rp K H Γ->Rp K H (zz (ns.map T.int) (ns.map V.int)++Γ)
 | [],h=>h
 | _::r,h=>cM (zH r h) fun _=>.int
theorem EU{K:OA}:∀{zs:List V}{ls:List (List Int)},(∀v∈zs,∀b,v=.ref b->∀xs,SqT K H b xs->H b=some (.tup xs))->oX K H zs ls->vj H zs ls:=by
 intro zs ls h r;induction r with
 |nil=>exact .nil
 |cons hk t ih=>
  obtain⟨n,b,e,hb⟩:=hk;exact .cons ⟨n,b,e,h _ x_ b e _ hb⟩ (ih fun v hv=>h v (m_ _ hv))
end
section
variable{X:Cx}
variable{e a b:OL}{fr:PFs}{p1 p2 pos1 lw:Pos}
theorem IQ{k:Nat}{A:OP}(r:Room k A):A.units+20<cLine:=by have:=r.un;lia
def pairOf:T->Option (List Key×T)
 | .tup [.tup ks,v]=>match iS ks with
  |some q=>some (q,v)
  |none=>none
 | _=>none
def pairsOf:List T->Option (List (List Key×T))
 | []=>some []
 |t::r=>match pairOf t,pairsOf r with
  |some k,some ks=>some (k::ks)
  | _,_=>none
noncomputable def putAll(kvs:List (List Key×T)):List (List Key×T):=kvs.foldl (fun a x=>iR a x.1 x.2) []
def yN:P1s
 | [.lst true ts],k=>got (pairsOf ts) fun kvs=>ik kvs=true/\k (.dT true (putAll kvs))
 | _,_=>False
theorem AM{q:List Key×T}(h:pairOf t=some q):∃ks,t=.tup [.tup ks,q.2]/\iS ks=some q.1:=by
 unfold pairOf at h;split at h
 ·rename_i ks v;split at h
  ·rename_i z e;cases h;exact⟨ks,rfl,e⟩
  cases h
 cases h
theorem RepXs.put {K:OA}{Hz:Hp}{q:List Key}{w:V}(h:RepT K Hz H t w []):∀{ts:List (List Key×T)}{vs:List (List Key×V)},RepXs K Hz H ts vs []->RepXs K Hz H (iR ts q t) (putK vs q w) []:=by
 intro ts vs c;have ek:=c.toL.1;have ha:(ts.any fun kv=>decide (kv.1=q))=(vs.any fun kv=>decide (kv.1=q)):=by
  have e1:(ts.any fun kv=>decide (kv.1=q))=(ts.map (·.1)).any fun k=>decide (k=q):=by rw[ME];rfl
  have e2:(vs.any fun kv=>decide (kv.1=q))=(vs.map (·.1)).any fun k=>decide (k=q):=by rw[ME];rfl
  rw[e1,e2,ek]
 have mp:∀{ts:List (List Key×T)}{vs:List (List Key×V)}{L:List Oz},RepXs K Hz H ts vs L->L=[]->RepXs K Hz H (ts.map fun kv=>if kv.1=q then(kv.1,t)else kv) (vs.map fun kv=>if kv.1=q then(kv.1,w)else kv) []:=by
  intro ts vs L c e;induction ts generalizing vs L with
  |nil=>cases c;exact .nil
  |cons x ts ih=>
   cases c with
   | @cons k t1 v1 L1 M N ts' vs' e1 h1 c1=>
    subst e;have z:=Mr.mp e1.symm;obtain⟨rfl,rfl⟩:=z;rw[c_,c_];by_cases hk:k=q
    ·rw[if_pos hk,if_pos hk];exact .cons rfl h (ih c1 rfl)
    rw[if_neg hk,if_neg hk];exact .cons rfl h1 (ih c1 rfl)
 have ap:∀{ts:List (List Key×T)}{vs:List (List Key×V)}{L:List Oz},RepXs K Hz H ts vs L->L=[]->RepXs K Hz H (ts++[(q,t)]) (vs++[(q,w)]) []:=by
  intro ts vs L c e;induction ts generalizing vs L with
  |nil=>cases c;exact .cons rfl h .nil
  |cons x ts ih=>
   cases c with
   | @cons k t1 v1 L1 M N ts' vs' e1 h1 c1=>
    subst e;have z:=Mr.mp e1.symm;obtain⟨rfl,rfl⟩:=z;exact .cons rfl h1 (ih c1 rfl)
 unfold iR putK;rw[ha];split
 ·exact mp c rfl
 exact ap c rfl
theorem rS{K:OA}{Hz H:Hp}:∀{ts:List T}{kvs:List (List Key×T)}{vs:List V}{L:List Oz},pairsOf ts=some kvs->ik kvs=true->RepTs K Hz H ts vs L->∃xs,xx H vs xs/\RepXs K Hz H kvs xs []
 | [],kvs,_,_,e,_,r=>by cases r;cases e;exact⟨[],.nil,.nil⟩
 |t::ts,kvs,_,_,e,n,r=>by
  cases r with
  |cons e1 h c=>
   rw[pairsOf]at e;split at e
   ·rename_i k r e2 e3;cases e;obtain⟨q,v⟩:=k;obtain⟨ks,rfl,ek⟩:=AM e2;rw[ik,G']at n;obtain⟨xs,px,rx⟩:=rS e3 n.2 c;cases h with
    |tup ha ca=>
     cases ca with
     |cons e4 h4 c4=>
      cases c4 with
      | @cons _ w _ _ _ _ _ e5 h5 c5=>
       cases c5;cases h4 with
       |tup hb cb=>
        have hL:=h5.nil_of n.1;subst hL;refine⟨(q,w)::xs,.cons ⟨_,_,rfl,ha,?_⟩ px,.cons rfl h5 rx⟩;rw[hb,nj ek cb]
   cases e
theorem qu{K:OA}{Hz H:Hp}:∀{kvs:List (List Key×T)}{xs:List (List Key×V)}{L:List Oz}{a:List (List Key×T)}{b:List (List Key×V)},RepXs K Hz H kvs xs L->L=[]->RepXs K Hz H a b []->RepXs K Hz H (kvs.foldl (fun a x=>iR a x.1 x.2) a) (xs.foldl (fun a x=>putK a x.1 x.2) b) []
 | _,_,_,_,_,.nil,_,h=>h
 | _,_,_,_,_,.cons e1 h1 c1,e,h=>by subst e;obtain⟨rfl,rfl⟩:=Mr.mp e1.symm;rw[Lw,Lw];exact qu c1 rfl (RepXs.put h1 h)
theorem qt(hc:X.calm=true)(hu:X.A.units+20<cLine):ja X (.type "dict") yN:=by
 rintro ac s σ H xs us Q I r ⟨ts,Γ,k,l,rp,g,c⟩;unfold yN at g;split at g
 ·rename_i k ts;obtain⟨x,rfl⟩:=zz1 l rfl;have rp:Rp X.K H ((.lst true ts,some x)::Γ):=rp;obtain⟨kvs,ek,n,kt⟩:=aE g;obtain⟨a,vs,ea,ha,la,ge⟩:=gW rp;cases ea;obtain⟨Hz,N,h,nd,gz,d⟩:=ge.tail;obtain⟨L,M,rfl,h1,h2⟩:=h.split;obtain⟨ys,py,ry⟩:=rS ek n (h1.ud la);refine xv hc hu ac s σ H _ us Q I r ⟨a,vs,ys,rfl,ha,py,fun p H' hp g' e'=>c _ _ _ kt ?_⟩;have rd:=qu ry rfl (.nil:RepXs X.K Hz H [] [] []);have hm:=h2.move (dm.tk g') .gy fun b m u e=>jy g' b u e;refine⟨Hz,[p]++M,.cons rfl (.inr ⟨_,rfl,.dTO e' (rd.move (dm.tk g') .gy fun b m=>by cases m)⟩) hm,?_,gz.trans (.of g'),?_⟩
  ·rw[Mx,C_];refine⟨fun m=>?_,(Lq.mp nd).2.1⟩;obtain⟨⟨u,e⟩,_⟩:=h2.there p m;rw[hp]at e;cases e
  intro b m;rcases h_.mp m with rfl|m
  ·exact gz.none hp
  exact d b (w_ _ m)
 exact ON g
end
section
variable{b:Bool}{ts us:List T}{k:T->Prop}{i:Int}{t u:T}{env:Ev}{ke:T->Ev->Prop}
theorem de(lo:Int)(n:Nat):(nM lo n).length=n:=by rw[nM,a_,K_]
theorem fV{lo:Int}{n i:Nat}{t:T}(h:(nM lo n)[i]?=some t):i<n:=by have:=(f_.mp h).1;rwa[de]at this
theorem jn{lo:Int}{n i:Nat}{t:T}(h:(nM lo n)[i]?=some t):t=.int (lo+(i:Int)):=by
 have hi:=fV h;rw[nM,p_,LN hi]at h;cases h
 rfl
theorem aQ{α:Type}{g:α->T}{l:List α}{i:Nat}{t:T}(h:(l.map g)[i]?=some t):∃x,l[i]?=some x/\t=g x:=by
 rw[p_]at h;cases e:l[i]? with
 |none=>rw[e]at h;cases h
 |some x=>rw[e]at h;cases h;exact⟨x,rfl,rfl⟩
end
noncomputable def J9(f g:PSt):PSt:=fun pe env=>∃W:Ev->Prop,f {pe with nx:=W} env/\∀e,W e->g pe e
theorem bJ{X:Cx}{κ:Nat->Bool}{st:OY}{rest:List OY}{f g:PSt}(h1:GS κ X st f)(h2:GSs κ X rest g):GSs κ X (st::rest) (J9 f g):=by refine PSs.imp (dw h1 h2) ?_;rintro D σ H ⟨env,Fr,pe,rs,⟨W,q,w⟩,c⟩;refine⟨env,Fr,_,rs,q,⟨fun bm f8 H' q1 i' k1=>⟨bm,Fr,pe,i',w _ q1,c.later k1⟩,c.rt,c.bk,c.ct⟩⟩
theorem dq{f g:PSt}{pe:PEn}{env:Ev}(W:Ev->Prop)(h1:f {pe with nx:=W} env)(h2:∀e,W e->g pe e):J9 f g pe env:=⟨W,h1,h2⟩
section
variable{X:Cx}{pos:Pos}
noncomputable def EA:T->Bool
 | .dK _ _=>true
 | .dT _ _=>true
 | _=>false
theorem G6{Γ:Fm}{y:V}(h:Rp X.K H ((t,some y)::Γ))(d:EA t=true):∃a,y=.ref a/\IsD H a:=by
 cases t with
 |dK o kvs=>
  obtain⟨a,vs,rfl,hq,_⟩:=sP h;exact⟨a,rfl,.inl ⟨_,hq⟩⟩
 |dT o kvs=>
  obtain⟨a,vs,rfl,hq,_⟩:=jE h;exact⟨a,rfl,.inr ⟨_,hq⟩⟩
 | _=>cases d
theorem eM{o:Bool}{kvs:List (List Key×T)}:EA (.dT o kvs)=true:=rfl
end
end PL
namespace ZR
open PySem
theorem jS{α β:Type}(f:α->β):∀(l:List α) (i:Nat),(l.map f).eraseIdx i=(l.eraseIdx i).map f
 | [],_=>rfl
 | _::_,0=>rfl
 |a::l,i+1=>by simp only[c_,M9];rw[jS f l i]
theorem jK{prog:OI}{w:OK}{K:Type}[DecidableEq K]{knd:UJ prog w K}{A:OP}{E:Oy->OB->Prop}{s:OB}{d a:Oz}{xs:List (K×Oz×Oy)}{k:K}{Q:Option Qp->OB->Prop}(hr:knd.room A)(hk:knd.is s.heap k a)(D:RO knd s.heap d xs)(hsz:xs.length<=sizeLine)
  (h0:(∀(j:Nat) (p:Oz×Oy),xs[j]?≠some (k,p))->∀tk,Q none {s with toks:=tk})
  (h1:∀(j:Nat) (p:Oz×Oy),xs[j]?=some (k,p)->∀h' tk,RO knd h' d (xs.eraseIdx j)->Pe d s.heap h'->Q (some (RG knd (k,p))) {s with heap:=h',toks:=tk}) :
  OE (OJ prog w) A (Tx d (.ref a)) Q E s:=by
 obtain⟨o,es,ep,ho,hx,hd,he,his,hnd⟩:=D;unfold Tx;refine OS (Ox (knd.pyHash hr hk ?_));refine Ox (TM hr hk ho hd he his hnd (fun hn=>?_) (fun j p hj=>?_))
 ·exact OC (h0 hn _)
 refine Ox (Pf ho hd ?_);have hj':es[j]?=some (RG knd (k,p)):=by
  rw[<-r_,he,p_,hj]
  rfl
 rw[hj'];have hes:es.size=xs.length:=by rw[<-l_,he,a_]
 have hjl:j<es.size:=by rw[hes];exact(f_.mp hj).1
 refine Ox (wpAny_updateDictKeys ho hd ?_ (by lia) (by have:=size_eraseIdxIfInBounds_le es j;lia));refine OC (h1 j p hj _ _ ?_ (O2 _ _ _));refine⟨_,_,ep+1,O6 _ ho (Obj.isFreed_of_dict (Tz hd _)),hx.mapDictKeys _,Tz hd _,?_,fun x hxm=>?_,?_⟩
 ·rw[Array.toList_eraseIdxIfInBounds,he,ZR.jS]
 ·exact knd.keeps (his x ((Mz xs j).subset hxm)) ho hd (O2 ..)
 exact List.Nodup.sublist ((Mz xs j).map _) hnd
theorem uv{prog:OI}{w:OK}{K:Type}[DecidableEq K](kn:UJ prog w K)(dd ak:Oz)(more:List Oy)(hmore:more=[]\/∃y,more=[y]) :
  Ws prog w (Pn.«dict.pop» ⟨.ref dd::.ref ak::more,[]⟩) (fun A R s=>kn.room A.in1/\∃k xs j p,kn.is s.heap k ak/\RO kn s.heap dd xs/\xs.length<=sizeLine/\xs[j]?=some (k,p)/\
   ∀h' tk,RO kn h' dd (xs.eraseIdx j)->Pe dd s.heap h'->R (.ok (.ret p.2)) {s with heap:=h',toks:=tk}):=
 .of_wp fun A R s ⟨hu,k,xs,j,p,hk,D,hsz,hj,fin⟩=>by
  have D':=D;obtain⟨o,es,ep,ho,hx,hd,he,his,hnd⟩:=D';have kw:es.isEmpty=false:=by
   have hes:es.size=xs.length:=by rw[<-l_,he,a_]
   have hjl:=(f_.mp hj).1;cases hb:es.isEmpty with
   |false=>rfl
   |true=>rw[Array.isEmpty_iff_size_eq_zero]at hb;lia
  unfold Pn.«dict.pop»;refine Ox ?_;unfold Sa;refine Ox (Qy (TN D) ?_);have kp:(keyPart (.ref ak)).isSome=false:=rfl;rcases hmore with rfl|⟨y,rfl⟩
  ·show OE _ _ (pure (dd,OT ak,none)) _ _ s;refine OC ?_;simp only[kp,mo,if_false];refine Ox (Pf ho hd (Ox (OC ?_)));simp only[kw,mo,if_false];refine Ox (ZR.jK hu hk D hsz (fun hno=>absurd hj (hno j p)) (fun i q hi h' tk D2 sb=>?_));obtain rfl:=Wm hnd hi hj;obtain rfl:q=p:=by rw[hj]at hi;exact(congrArg (·.2) (C' hi)).symm
   simp only[ND,mo,if_false];exact Ox (Q5 (OC ⟨_,rfl,fin h' tk D2 sb⟩))
  show OE _ _ (pure (dd,OT ak,(some y))) _ _ s;refine OC ?_;simp only[kp,mo,if_false];refine Ox (Pf ho hd (Ox (OC ?_)));simp only[kw,mo,if_false];refine Ox (ZR.jK hu hk D hsz (fun hno=>absurd hj (hno j p)) (fun i q hi h' tk D2 sb=>?_));obtain rfl:=Wm hnd hi hj;obtain rfl:q=p:=by rw[hj]at hi;exact(congrArg (·.2) (C' hi)).symm
  simp only[ND,mo,if_false];exact Ox (Q5 (OC ⟨_,rfl,fin h' tk D2 sb⟩))
end ZR
namespace L2
open PySem PySem.Spec PyProof.Rows
variable {kvs:List (List Key×V)}{xs:List (List Key×Oz×Oy)}
theorem KT.erase {H:Hp}(r:KT H kvs xs):∀j,KT H (kvs.eraseIdx j) (xs.eraseIdx j):=by
 induction r with
 |nil=>intro j;exact .nil
 |cons h t ih=>
  intro j;cases j with
  |zero=>exact t
  |succ j=>exact .cons h (ih j)
theorem KT.get {H:Hp}(r:KT H kvs xs):∀{j:Nat}{k:List Key}{v:V},kvs[j]?=some (k,v)->∃p,xs[j]?=some (k,p)/\RelV v p.2:=by
 induction r with
 |nil=>intro j k v e;cases e
 | @cons p q ps qs h t ih=>
  intro j k v e;cases j with
  |zero=>
   cases e;obtain⟨q1,q2⟩:=q;obtain⟨rfl,_,h3⟩:=h;exact⟨q2,rfl,h3⟩
  |succ j=>exact ih e
section
variable{X:Cx}{A:OP}{E:Oy->OB->Prop}{ac:List (Oz×Obj)}{σ:St}{H:Hp}{s:OB}{a b:Oz}
theorem Hv{k:List Key}{v:V}{j:Nat}{more:List Oy}{Q:Oy->OB->Prop}(hu:A.units+1<cLine)(I:Inv X ac σ H s)(e:H a=some (.dT kvs))(eb:H b=some (.tup (k.map kV)))(hj:kvs[j]?=some (k,v))(hm:more=[]\/∃x,more=[x])
  (h:∀w' s',Inv X ac σ (upd H a (.dT (kvs.eraseIdx j))) s'->RelV v w'->Q w' s'):OE (OJ X.prog X.w) A (call (.builtin "dict.pop") (.ref a::.ref b::more)) Q E s:=by
 obtain⟨z,hd,xs,rel,dd⟩:=CB I.hok e;have hz:xs.length<=sizeLine:=by rw[<-PH rel];exact z
 obtain⟨p,hx,rp⟩:=rel.get hj;have ha:U2 "dict.pop" ⟨.ref a::.ref b::more,[]⟩:=by
  rcases hm with q|⟨x,q⟩
  ·subst q;exact PySem.F.args_dict_pop_2 _ _
  subst q;exact SF _ _ _
 refine T5 RF dd.typeIs S5 ha (ZR.uv (PN (bx X.prog X.w)) a b more hm) ⟨Qo hu,k,xs,j,p,lq I.hok eb,dd,hz,hx,fun h' tk dd' hs=>h _ _ ?_ rp⟩;obtain⟨q,es,ep,hq,h2,h3,h4,_,h5⟩:=dd';have hl:(kvs.eraseIdx j).length<=sizeLine:=B' (M_ ..) z;refine mM I (by rw[e];exact Qc) hs ⟨q,hq⟩ ⟨hl,hd,_,(rel.erase j).keeps fun c ys ec=>?_,q,es,ep,hq,h2,h3,h4,h5⟩;rw[aG (yo ec e (fun z=>nomatch z))];exact ec
end
end L2
namespace PL
open PySem PySem.Spec PyProof.Rows L2
variable {kvs:List (List Key×T)}
section
variable{X:Cx}{pos:Pos}
theorem uj:∀{ts:List T}{vs:List V}{j:Nat}{t:T}{v:V},ts[j]?=some t->vs[j]?=some v->(zz ts vs).Perm ((t,some v)::zz (ts.eraseIdx j) (vs.eraseIdx j))
 | [],_,_,_,_,h,_=>by cases h
 | _::_,[],_,_,_,_,h=>by cases h
 |a::ts,b::vs,0,t,v,h,g=>by cases h;cases g;exact .refl _
 |a::ts,b::vs,j+1,t,v,h,g=>by have:=uj (ts:=ts) (vs:=vs) (j:=j) h g;exact(Ml (a,some b) this).trans (.swap _ _ _)
theorem fW{α β:Type}(f:α->β):∀(l:List α) (j:Nat),(l.eraseIdx j).map f=(l.map f).eraseIdx j
 | [],_=>rfl
 | _::_,0=>rfl
 |a::l,j+1=>by rw[M9,c_,fW f l j];rfl
noncomputable def kz(kvs:List (List Key×T))(q:List Key):Option (T×List (List Key×T)):=(kvs.findIdx? fun kv=>decide (kv.1=q)).bind fun j=>(kvs[j]?).map fun kv=>(kv.2,kvs.eraseIdx j)
theorem vv{q:List Key}{r:T×List (List Key×T)}(h:kz kvs q=some r):∃j,kvs[j]?=some (q,r.1)/\r.2=kvs.eraseIdx j:=by
 unfold kz at h;cases e:kvs.findIdx? fun kv=>decide (kv.1=q)with
 |none=>rw[e]at h;cases h
 |some j=>
  rw[e,Mu]at h;obtain⟨hj,hq,_⟩:=LL.mp e;rw[e_ hj]at h;cases h;refine⟨j,?_,rfl⟩;rw[e_ hj];have:=of_decide_eq_true hq;rw[<-this]
def yi(t y:T)(k:T->T->Prop):Prop:=match t with
 | .dT true kvs=>match y with
  | .tup ks=>got (iS ks) fun q=>got (kz kvs q) fun r=>k (.dT true r.2) r.1
  | _=>False
 | _=>False
theorem HG{H:Hp}{Γ:Fm}{t y:T}{v w:V}{k:T->T->Prop}(h:Rp X.K H ((t,some w)::(y,some v)::Γ))(g:yi t y k):∃a kvs q b j x u t',w=.ref a/\H a=some (.dT kvs)/\v=.ref b/\H b=some (.tup (q.map kV))/\kvs[j]?=some (q,x)/\k t' u/\∀H',Put H a (.dT (kvs.eraseIdx j)) H'->Rp X.K H' ((u,some x)::(t',some (.ref a))::Γ):=by
 unfold yi at g;split at g
 ·rename_i kvs;cases y <;> first|exact ON g|skip
  rename_i ks;obtain⟨q,eq,g⟩:=aE g;obtain⟨r,er,kt⟩:=aE g;obtain⟨j,hj,e2⟩:=vv er;obtain⟨b,rfl,hb⟩:=m8 eq (h.perm (.swap _ _ _));obtain⟨a,vs,ea,ha,la,ge⟩:=qb h;cases ea;have hk:(vs.map (·.1))[j]?=some q:=by rw[<-la,p_,hj];rfl
  rw[p_]at hk;cases ev:vs[j]? with
  |none=>rw[ev]at hk;cases hk
  |some p=>
   rw[ev]at hk;obtain⟨p1,x⟩:=p;have:p1=q:=by simpa using hk
   subst this;refine⟨a,vs,p1,b,j,x,r.1,_,rfl,ha,rfl,hb,ev,kt,fun H' hp=>?_⟩;have e3:(kvs.map (·.2))[j]?=some r.1:=by rw[p_,hj];rfl
   have e4:(vs.map (·.2))[j]?=some x:=by rw[p_,ev];rfl
   rw[e2];have gl:Rp X.K H ((.bare,some (.ref a))::(zz ((kvs.eraseIdx j).map (·.2)) ((vs.eraseIdx j).map (·.2))++((r.1,some x)::Γ))):=by
    rw[fW,fW];have:Rp X.K H ((.tup ks,some (.ref b))::((.bare,some (.ref a))::(zz ((kvs.map (·.2)).eraseIdx j) ((vs.map (·.2)).eraseIdx j)++((r.1,some x)::Γ)))):=ge.perm (by refine u_ (.cons _ ((uj e3 e4).append_right _)) ?_;refine u_ (.cons _ (.cons _ f')) ?_;refine u_ (.cons _ (.swap _ _ _)) ?_;refine u_ (.swap _ _ _) (.cons _ (.cons _ ?_));exact f'.symm)
    exact this.tail
   exact(rF gl (by rw[fW,fW,la]) hp).perm (.swap _ _ _)
 exact ON g
theorem EV{ks:List T}{k:T->T->Prop}:yi (.dT true kvs) (.tup ks) k=fL (iS ks) (k:=⟨fun q=>fL (kz kvs q) (k:=⟨fun r=>k (.dT true r.2) r.1⟩)⟩):=rfl
end
end PL
namespace ZR
open PySem
theorem sW{prog:OI}{w:OK}{K:Type}[DecidableEq K](kn:UJ prog w K)(dd ak:Oz)(y:Oy)(hS:(dd == O0)=false) :
  Ws prog w (Pn.«dict.pop» ⟨[.ref dd,.ref ak,y],[]⟩) (fun A R s=>kn.room A.in1/\∃k xs,kn.is s.heap k ak/\RO kn s.heap dd xs/\xs.length<=sizeLine/\(∀(j:Nat) (p:Oz×Oy),xs[j]?≠some (k,p))/\
   ∀tk,R (.ok (.ret y)) {s with toks:=tk}):=
 .of_wp fun A R s ⟨hu,k,xs,hk,D,hsz,hj,fin⟩=>by
  have D':=D;obtain⟨o,es,ep,ho,hx,hd,he,his,hnd⟩:=D';unfold Pn.«dict.pop»;refine Ox ?_;unfold Sa;refine Ox (Qy (TN D) ?_);have kp:(keyPart (.ref ak)).isSome=false:=rfl;show OE _ _ (pure (dd,OT ak,(some y))) _ _ s;refine OC ?_;simp only[kp,mo,if_false];refine Ox (Pf ho hd (Ox (OC ?_)));cases hb:es.isEmpty with
  |true=>
   simp only[if_true];refine Ox (PQ ?_);refine Ox (OC ?_);simp only[NF,if_true];refine Ox (Sh hS ?_);exact Ox (PQ (OC ⟨_,rfl,fin s.toks⟩))
  |false=>
   simp only[mo,if_false];refine Ox (ZR.jK hu hk D hsz (fun hno tk=>?_) (fun i q hi h' tk D2 sb=>absurd hi (hj i q)));simp only[NF,if_true];refine Ox (Sh hS ?_);exact Ox (PQ (OC ⟨_,rfl,fin tk⟩))
end ZR
namespace L2
open PySem PySem.Spec PyProof.Rows
variable {kvs:List (List Key×V)}
theorem KT.back {H:Hp}{xs:List (List Key×Oz×Oy)}(r:KT H kvs xs):∀{j:Nat}{k:List Key}{p:Oz×Oy},xs[j]?=some (k,p)->∃v,kvs[j]?=some (k,v):=by
 induction r with
 |nil=>intro j k v e;cases e
 | @cons p q ps qs h t ih=>
  intro j k v e;cases j with
  |zero=>
   cases e;obtain⟨p1,p2⟩:=p;obtain⟨rfl,_,_⟩:=h;exact⟨p2,rfl⟩
  |succ j=>exact ih e
section
variable{X:Cx}{A:OP}{E:Oy->OB->Prop}{ac:List (Oz×Obj)}{σ:St}{H:Hp}{s:OB}{a b:Oz}
theorem Hb{k:List Key}{x:Oy}{Q:Oy->OB->Prop}(hu:A.units+1<cLine)(I:Inv X ac σ H s)(e:H a=some (.dT kvs))(eb:H b=some (.tup (k.map kV)))(hj:∀p∈kvs,p.1≠k)
  (h:∀s',Inv X ac σ H s'->Q x s'):OE (OJ X.prog X.w) A (call (.builtin "dict.pop") [.ref a,.ref b,x]) Q E s:=by
 obtain⟨z,hd,xs,rel,dd⟩:=CB I.hok e;have hz:xs.length<=sizeLine:=by rw[<-PH rel];exact z
 refine T5 RF dd.typeIs S5 (SF _ _ _) (ZR.sW (PN (bx X.prog X.w)) a b x hd) ⟨Qo hu,k,xs,lq I.hok eb,dd,hz,fun j p hx=>?_,fun tk=>h _ (I.kept (t':=tk) fun b ob q=>q)⟩;obtain⟨v,ev⟩:=rel.back hx;exact hj _ (H_ ev) rfl
end
end L2
namespace PL
open PySem PySem.Spec PyProof.Rows L2
variable {env:Ev}{kvs:List (List Key×T)}
section
variable{X:Cx}{pos:Pos}
theorem B5{q:List Key}(h:kz kvs q=none):∀p∈kvs,p.1≠q:=by
 unfold kz at h;cases e:kvs.findIdx? fun kv=>decide (kv.1=q)with
 |none=>
  intro p m z;have:=M1.mp e p m;rw[decide_eq_true z]at this;cases this
 |some j=>
  rw[e,Mu]at h;obtain⟨hj,_,_⟩:=LL.mp e;rw[e_ hj]at h;cases h
def nK(t y z:T)(k:T->T->Prop):Prop:=match t with
 | .dT true kvs=>match y with
  | .tup ks=>got (iS ks) fun q=>match kz kvs q with
   |some r=>k (.dT true r.2) r.1
   |none=>k (.dT true kvs) z
  | _=>False
 | _=>False
def Ba(i:Nat)(fe ff:PF):PF:=fun env k=>got (env[i]?) fun t0=>EA t0=true/\fe env fun y al=>ff al fun z bn=>got (bn[i]?) fun t=>nK t y z fun t' u=>k u (bn.set i t')
theorem DE{H:Hp}{Γ:Fm}{t y z:T}{v w u:V}{k:T->T->Prop}(h:Rp X.K H ((t,some w)::(y,some v)::(z,some u)::Γ))(g:nK t y z k):∃a kvs q b,w=.ref a/\H a=some (.dT kvs)/\v=.ref b/\H b=some (.tup (q.map kV))/\
  ((∃j x t' u',kvs[j]?=some (q,x)/\k t' u'/\∀H',Put H a (.dT (kvs.eraseIdx j)) H'->Rp X.K H' ((u',some x)::(t',some (.ref a))::Γ))\/((∀p∈kvs,p.1≠q)/\∃t',k t' z/\Rp X.K H ((z,some u)::(t',some (.ref a))::Γ))):=by
 unfold nK at g;split at g
 ·rename_i kvs;cases y <;> first|exact ON g|skip
  rename_i ks;obtain⟨q,eq,g⟩:=aE g;cases er:kz kvs q with
  |some r=>
   rw[er]at g;have g1:yi (.dT true kvs) (.tup ks) k:=by rw[EV];exact cK eq (cK er g)
   obtain⟨a,vs,q',b,j,x,u',t',e1,e2,e3,e4,e5,kt,fin⟩:=HG h g1;refine⟨a,vs,q',b,e1,e2,e3,e4,.inl ⟨j,x,t',u',e5,kt,fun H' hp=>?_⟩⟩;have:=fin H' hp;have:=this.perm (.trans (.cons _ (.swap _ _ _)) (.swap _ _ _));exact this.tail
  |none=>
   rw[er]at g;obtain⟨b,rfl,hb⟩:=m8 eq (h.perm (.swap _ _ _));obtain⟨a,vs,ea,ha,la,ge⟩:=qb h;cases ea;refine⟨a,vs,q,b,rfl,ha,rfl,hb,.inr ⟨fun p m=>?_,_,g,?_⟩⟩
   ·have m1:p.1∈vs.map (·.1):=v_ m;rw[<-la]at m1;obtain⟨p',m',e'⟩:=n_.mp m1;rw[<-e'];exact B5 er p' m'
   have:=h.perm (.swap _ _ _);exact this.tail.perm (.swap _ _ _)
 exact ON g
theorem vF{kr i:Nat}{x:Str}{xp:Pos}{e f:OL}{apos:Pos}{fe ff:PF}(hr:Room kr X.A)(he:GE X e fe)(hf:GE X f ff)(m:M2 X (.Name x xp) "pop" apos e f pos)(hN:X.N[i]?=some x:=by rfl)(hv:Vis X.env.scope x:=by first|exact d_ rfl|exact j_ (d_ rfl)|exact j_ (j_ rfl))(hd:(x ==("__debug__":Str))=false:=by decide)(hcd:(x ==("__classdict__":Str))=false:=by decide):GE X (.Call (.Attribute (.Name x xp) "pop" apos) [e,f] [] pos) (Ba i fe ff):=by
 intro ac s σ H Q I ⟨env,Fr,k,rs,q,c⟩;obtain⟨t0,e0,d0,q⟩:=aE q;obtain⟨y0,ey,rs2⟩:=rs.slot e0;have na:isAny t0=false:=by cases t0 <;> first|rfl|cases d0
 obtain⟨w,rfl⟩:=iP rs2 na;obtain⟨a,rfl,hD⟩:=G6 rs2.head d0;refine wpAny_Call_method m.base m.few m.line PySem.F.plainAttrs_dict RF PySem.F.type_dict_pop (thn (jL hN hv hd hcd ac s σ H (fun x H1=>x=.ref a/\H1=H) I ⟨_,ey,rfl,rfl⟩) fun u s1 ⟨x1,H1,I1,rx,e1,e2⟩=>?_);subst e1 e2;obtain rfl:u=OT a:=rx;obtain⟨t1,t2,_⟩:=Hw I1 hD;refine⟨t1,t2,?_⟩;rw[m.trees];refine Rv rfl (Tq (P9 (thn (he ac s1 σ H1 _ I1 ⟨env,Fr,_,rs,q,fun ty al v H2 q2 rs3=>⟨al,_,_,rs3,q2,fun tz bn vz H3 q3 rs4=>?_⟩⟩) fun iv s2 ⟨y,H2,I2,ry,q2⟩=>P9 (thn (hf ac s2 σ H2 (fun zv H3=>∃kvs q b,H3 a=some (.dT kvs)/\y=.ref b/\H3 b=some (.tup (q.map kV))/\((∃j x,kvs[j]?=some (q,x)/\Q x (upd H3 a (.dT (kvs.eraseIdx j))))\/((∀p∈kvs,p.1≠q)/\Q zv H3))) I2 q2) fun jv s3 ⟨z,H3,I3,rz,kvs,q3,b,h1,h2,h3,h4⟩=>Uc ?_))))
 ·subst h2;cases (show iv=OT b from ry);rcases h4 with⟨j,x2,h4,h5⟩|⟨h4,h5⟩
  ·exact Hv (k8 hr) I3 h1 h3 h4 (.inr ⟨_,rfl⟩) fun w' s' I' rw'=>⟨_,_,I',rw',h5⟩
  exact Hb (k8 hr) I3 h1 h3 h4 fun s' I'=>⟨_,_,I',rz,h5⟩
 obtain⟨t,et,g⟩:=aE q3;obtain⟨y',ey',rs5⟩:=rs4.slot et;rw[ey]at ey';cases ey';have hi':i<bn.length:=(f_.mp et).1;have rp4:Rp X.K H3 ((t,some (.ref a))::(ty,some v)::(tz,some vz)::((bn.set i .any).zip σ++Fr)):=rs5.head.perm (.cons _ (u_ f' (u_ (.cons _ f') (.swap _ _ _))));obtain⟨a',kvs,q4,b,ea,h1,h2,h3,h4⟩:=DE rp4 g;cases ea;have back:∀(H':Hp) (t' u':T) (x:V),Rp X.K H' ((u',some x)::(t',some (.ref a))::((bn.set i .any).zip σ++Fr))->Rs X.K H' (bn.set i t') σ ((u',some x)::Fr):=fun H' t' u' x rp5=>by have r5:Rs X.K H' (bn.set i .any) σ ((t',some (.ref a))::(u',some x)::Fr):=.of rs5.1 (rp5.perm (.trans (.swap _ _ _) (.cons _ f'.symm)));have r6:=Rs.ni (i:=i) r5 (by rw[KG];exact hi') ey;rw[MD]at r6;exact r6
 refine⟨kvs,q4,b,h1,h2,h3,?_⟩;rcases h4 with⟨j,x2,t',u',h4,kt,fin⟩|⟨h4,t',kt,rp5⟩
 ·exact .inl ⟨j,x2,h4,c _ _ _ _ kt (back _ _ _ _ (fin _ Put.up))⟩
 exact .inr ⟨h4,c _ _ _ _ kt (back _ _ _ _ rp5)⟩
theorem bL{i:Nat}{fe ff:PF}{k:T->Ev->Prop}:Ba i fe ff env k=fL (env[i]?) (k:=⟨fun t0=>EA t0=true/\fe env fun y al=>ff al fun z bn=>fL (bn[i]?) (k:=⟨fun t=>nK t y z fun t' u=>k u (bn.set i t')⟩)⟩):=rfl
theorem BG{ks:List T}{z:T}{k:T->T->Prop}:nK (.dT true kvs) (.tup ks) z k=fL (iS ks) (k:=⟨fun q=>match kz kvs q with
   |some r=>k (.dT true r.2) r.1
   |none=>k (.dT true kvs) z⟩):=rfl
end
variable {n:Nat}{ts:List T}
section
variable{X:Cx}{κ:Nat->Bool}{es:List OL}{pos:Pos}{gs:oB}
theorem mn{prog:OI}{w:OK}{A:OP}{E:Oy->OB->Prop}{s:OB}{env:Env}{elts:List OL}{x1}{pos:Pos}{l:Oz}{items:Array Oy}{Q:Unit->OB->Prop}(hh:A.handled=none)(hl:s.heap.IsList l items)
  (hn:(Po elts env).length=items.size) (hstar:(Po elts env).findIdx? (·.1)=none)
  (h:∀h',QP s.heap.objs.size s.heap h'->OE (OJ prog w) A (R4 ((Po elts env).map (·.2)) items.toList) Q E {s with heap:=h'}) :
  OE (OJ prog w) A (Rb (.Tuple elts x1 pos) env (.ref l)) Q E s:=by
 rw[assign_Tuple];refine Ox (QO ?_);unfold unpack;rw[hn,hstar];exact Ox (OS (PySem.W.kun_itemsOf hh hl h))
theorem HK{k:Nat}{t:TGs}(hc:X.calm=true)(h:PGs X es t)
  (hn:(Po es X.env).length=n:=by rfl) (hst:(Po es X.env).findIdx? (·.1)=none:=by rfl):PG X (.Tuple es k pos) (fun v σ H Q=>∃a xs,v=.ref a/\SqL X.K H a xs/\xs.length=n/\t xs σ H Q):=by
 intro ac s σ H v u Q I r hw;obtain⟨a,xs,e1,hq,hl,hw⟩:=hw;subst e1;cases r;obtain⟨be,rv,ht,hz⟩:=I.list hq;refine mn (I.ok.hd hc) ht.isList (by simp[hn,<-hl,rv.length]) hst fun h' hx=>?_
 have I1:L2.Inv X ac σ H {s with heap:=h'}:=I.kept (t':=s.toks) fun b o e=>hx b o (j' (OG e)) e;exact h ac _ σ H xs _ Q I1 (by simpa using rv) hw
noncomputable def gTq(n:Nat)(f:oB):PG':=fun t env k=>match t with
 | .tup ts=>ts.length=n/\f ts env k
 | .cst ts=>ts.length=n/\f ts env k
 | .lst _ ts=>ts.length=n/\f ts env k
 | _=>False
theorem dO{k:Ev->Prop}:gTq n gs (.tup ts) env k=(ts.length=n/\gs ts env k):=rfl
theorem eI{o:Bool}{k:Ev->Prop}:gTq n gs (.lst o ts) env k=(ts.length=n/\gs ts env k):=rfl
theorem yM{x1:Nat}(hc:X.calm=true)(h:GGs κ X es gs)(hn:(Po es X.env).length=n:=by rfl)(hst:(Po es X.env).findIdx? (·.1)=none:=by rfl):GG κ X (.Tuple es x1 pos) (gTq n gs):=by
 rintro ac s σ H v u Q I r ⟨t,env,Fr,k,rs,q,c⟩;cases t with
 |tup ts=>exact fM hc h hn hst ac s σ H v u Q I r ⟨.tup ts,env,Fr,k,rs,q,c⟩
 |cst ts=>exact fM hc h hn hst ac s σ H v u Q I r ⟨.cst ts,env,Fr,k,rs,q,c⟩
 |lst o ts=>
  obtain⟨a,vs,rfl,hq,l,rp⟩:=aD rfl rs.head;refine HK hc h hn hst ac s σ H _ u Q I r ⟨a,vs,rfl,hq,by rw[<-l];exact q.1,ts,env,Fr,k,l,⟨rs.1,?_⟩,q.2,c⟩;exact rp.perm (s_ _ _ _)
 | _=>exact ON q
end
open PySem L2
def sh:P1s
 | [.dT _ kvs],k=>∃ks:List (List Int),kvs.map (·.1)=ks.map kI/\(∀q∈ks,q≠[])/\(ks.Nodup->k (.lst true (ks.map iT)))
 | _,_=>False
section
variable{X:Cx}
theorem Ax{H:Hp}:∀{bs:List Oz}{kvs:List (List Key×V)}{ks:List (List Int)},QE (fun(b:Oz) (p:List Key×V)=>H b=some (.tup (p.1.map kV))) bs kvs->kvs.map (·.1)=ks.map kI->(∀k∈ks,k≠[])->vj H (bs.map V.ref) ks:=by
 intro bs kvs ks h;induction h generalizing ks with
 |nil=>
  intro e _;cases ks with
  |nil=>exact .nil
  |cons a b=>simp at e
 |cons h t ih=>
  intro e hn;cases ks with
  |nil=>simp at e
  |cons a b=>
   rw[c_,c_,Lj]at e;refine .cons ⟨hn a x_,_,rfl,?_⟩ (ih e.2 fun k hk=>hn k (m_ _ hk));rw[h,e.1,GB]
theorem vA(hc:X.calm=true):ja X (.type "list") sh:=by
 rintro ac s σ H xs us Q I r ⟨ts,Γ,k,l,rp,g,c⟩;unfold sh at g;split at g
 ·rename_i k o kvs;obtain⟨x,rfl⟩:=zz1 l rfl;have rp:Rp X.K H ((.dT o kvs,some x)::Γ):=rp;obtain⟨a,vs,rfl,hq,ek,ge⟩:=jE rp;obtain⟨ks,e1,e2,kt⟩:=g;refine xk hc ac s σ H _ us Q I r ⟨a,vs,rfl,hq,fun bs pr nd p H' hp g' e'=>?_⟩;have nd':ks.Nodup:=by rw[<-ek,e1]at nd;exact(I_.mp nd).imp fun{a b} h z=>h (by rw[z])
  refine c _ _ _ (kt nd') ?_;obtain⟨gl,l3⟩:=mw (Ax pr (by rw[<-ek];exact e1) e2) rp.tail;exact iN gl l3 hp g' e'
 exact ON g
end
theorem Ct{o:Bool}{k:T->Prop}:sh [.dT o kvs] k=∃ks:List (List Int),kvs.map (·.1)=ks.map kI/\(∀q∈ks,q≠[])/\(ks.Nodup->k (.lst true (ks.map iT))):=rfl
end PL
namespace L2
open PySem PySem.Spec PyProof.Rows
theorem zP{α β:Type}{f:α->β}{o m:List β}(h:o.Perm m):∀(l:List α),l.map f=m->∃l':List α,l'.Perm l/\l'.map f=o:=by
 induction h with
 |nil=>exact fun l e=>⟨l,.refl _,e⟩
 |cons x p ih=>
  intro l e;cases l with
  |nil=>cases e
  |cons a l=>
   rw[c_]at e;obtain⟨l',p',e'⟩:=ih l (Lg e).2;exact⟨a::l',p'.cons a,by rw[c_,e',(Lg e).1]⟩
 |swap x y l=>
  intro l2 e;cases l2 with
  |nil=>cases e
  |cons a l2=>
   cases l2 with
   |nil=>cases e
   |cons b l2=>
    rw[c_,c_]at e;have e1:=(Lg e).1;have e2:=(Lg (Lg e).2).1;exact⟨b::a::l2,.swap _ _ _,by rw[c_,c_,e1,e2,(Lg (Lg e).2).2]⟩
 |trans p q ih1 ih2=>
  intro l e;obtain⟨l2,p2,e2⟩:=ih2 l e;obtain⟨l1,p1,e1⟩:=ih1 l2 e2;exact⟨l1,p1.trans p2,e1⟩
def Itf(o:Obj)(d:Oz):It:=
  ⟨fun i H=>∃kvs,Rd H d (.frz o (.dT kvs))/\i<kvs.length,
   fun i H v H'=>H'=H/\∀kvs,Rd H d (.frz o (.dT kvs))->∃k x b,kvs[i]?=some (k,x)/\v=.ref b/\H b=some (.tup (k.map kV)),
   fun i H=>∃kvs,Rd H d (.frz o (.dT kvs))/\kvs.length<=i⟩
theorem EK{H:Hp}{d:Oz}{o:Obj}{a b:List (List Key×V)}(h:Rd H d (.frz o (.dT a)))(g:Rd H d (.frz o (.dT b))):a=b:=by rcases h with h|⟨o1,h⟩ <;> rcases g with g|⟨o2,g⟩ <;> rw[h]at g <;> cases g <;> rfl
theorem vQ{X:Cx}{ac:List (Oz×Obj)}{σ:St}{H:Hp}{s:OB}{o:Obj}{d:Oz}{kvs:List (List Key×V)}(I:Inv X ac σ H s)(e:Rd H d (.frz o (.dT kvs))) :
  s.heap.get? d=some o/\(d == O0)=false/\∃xs es ep,KT H kvs xs/\o.ExactDict/\o.data=.dict es ep/\es.toList=xs.map (RG (PN (bx X.prog X.w)))/\es.size=kvs.length:=by
 obtain⟨h0,h1,h2,xs,kt,o',es,ep,g1,g2,g3,g4,g5⟩:=(show bC X.prog X.w H s.heap d (.frz o (.dT kvs))from e.ok I.hok);rw[h0]at g1;cases g1;refine⟨h0,h2,xs,es,ep,kt,g2,g3,g4,?_⟩;rw[<-l_,g4,a_];exact(PH kt).symm
theorem xA{P:OI}{w:OK}{K:OA}{tg:OL}(o:Obj)(d it:Oz)(es:Array Qp)(ep:Nat)(hdat:o.data=.dict es ep):Turn P w K tg (Itf o d) [it] it (fun i h=>h.IsKeyIter it d i es.size ep) where
 mem:=by simp
 obj:=fun i h st b hb=>by
  have e:b=it:=by simpa using hb
  subst e;obtain⟨oi,q1,q2,q3⟩:=st;exact⟨oi,q1,fun v z=>by rw[q3]at z;cases z⟩
 keep:=fun i h h' st k=>st.at fun oo e=>k it (by simp) oo e
 item:=by
  intro X hP hw hK hc i ac s σ H E I hf st hg;subst hP hw hK;obtain⟨kvs,hq,hx⟩:=hg;obtain⟨h0,h1,xs,es',ep',kt,g2,g3,g4,g5⟩:=vQ I hq;rw[hdat]at g3;cases g3;obtain⟨f0,f1,f2,f3,f4,f5⟩:=hf it (by simp);have hi:i<es.size:=by lia
  have hxs:i<xs.length:=by rw[<-l_,g4,a_]at hi;exact hi
  have he:es[i]?=some (RG (PN (bx X.prog X.w)) xs[i]):=by
   rw[<-r_,g4,p_,e_ hxs]
   rfl
  refine ZG.FO st h0 hdat he fun h' am sb=>?_;have I1:Inv X ac σ H {s with heap:=h'}:=I.turned (t':=s.toks) (fun b ob hb e=>(sb.2 b hb).trans e) f0 f1 f3 f4 f5;obtain⟨oi,q1,q2,q3⟩:=id am;refine⟨_,rfl,zu (s:={s with heap:=h'}) q1 q2 q3 (by decide) ⟨.ref xs[i].2.1,H,I1,rfl,⟨rfl,fun lm hk'=>?_⟩,am,fun b hb=>(hf b hb).1⟩⟩;cases EK hq hk';obtain⟨p,p1,p2,p3,p4⟩:=oY kt (e_ hxs);exact⟨p.1,p.2,_,p1,rfl,p3⟩
 done:=by intro X hP hw hK hc i ac s σ H E I hf st hg;subst hP hw hK;obtain⟨kvs,hq,hx⟩:=hg;obtain⟨h0,h1,xs,es',ep',kt,g2,g3,g4,g5⟩:=vQ I hq;rw[hdat]at g3;cases g3;obtain⟨f0,f1,f2,f3,f4,f5⟩:=hf it (by simp);exact ZG.Jm (I.ok.hd hc) st h0 hdat (by rw[KJ];lia) fun h' eb=>⟨rfl,I.turned (t':=s.toks) (fun b ob hb e=>eb b ob hb e) f0 f1 f3 f4 f5⟩
 self:=fun _ _ _ _ _ st h=>Tw st h
def J3(te:TE):TI:=fun σ H R=>te σ H fun x H1=>∃d kvs,x=.ref d/\((H1 d=some (.dT kvs)/\∀o H2,Put H1 d (.frz o (.dT kvs)) H2->R (Itf o d) H2)\/∃o,H1 d=some (.frz o (.dT kvs))/\R (Itf o d) H1)
theorem Ce{X:Cx}{tg l:OL}{tl:TE}(hl:PE X l tl):PI X tg l (J3 tl):=by
 intro ac s σ H R I h;refine thn (hl ac s σ H _ I h) ?_;rintro v s1 ⟨x,H1,I1,r1,q1⟩;obtain⟨d,kvs,e,q1⟩:=q1;subst e;cases r1;have key:∀(o:Obj) (H2:Hp),Inv X ac σ H2 s1->H2 d=some (.frz o (.dT kvs))->R (Itf o d) H2->OE (OJ X.prog X.w) X.A (RJ (.ref d)) (PIE X ac σ tg R) X.xe s1:=fun o H2 I2 e2 q2=>by
  obtain⟨h0,h1,xs,es,ep,kt,g2,g3,g4,g5⟩:=Fn I2 e2;refine ZG.FW h1 h0 g2 g3 ⟨s1.heap.objs.size,[s1.heap.objs.size],_,_,H2,rfl,I2.kept (t':=s1.toks) fun b ob z=>OD _ z,xA o d _ es ep g3,⟨_,OF _ rfl,rfl,rfl⟩,fun b hb=>?_,q2⟩;have e:b=s1.heap.objs.size:=by simpa using hb
  subst e;exact I2.tH (b_ _) (I2.hok.fresh (b_ _))
 rcases q1 with⟨e1,q⟩|⟨o,e1,q⟩
 ·obtain⟨z,hd,xs,kt,o,es,ep,g1,g2,g3,g4,g5⟩:=(show bC X.prog X.w H1 s1.heap d (.dT kvs)from I1.hok d _ e1);refine key o (upd H1 d (.frz o (.dT kvs))) ?_ aO (q o _ Put.up);refine mM (h':=s1.heap) (t':=s1.toks) (ob:=.frz o (.dT kvs)) I1 (by rw[e1];exact Qc) ⟨rfl,fun _ _=>rfl⟩ ⟨o,g1⟩ ⟨g1,z,hd,xs,KT.keeps kt fun c zs ec=>?_,o,es,ep,g1,g2,g3,g4,g5⟩;rw[aG (yo ec e1 (fun z=>nomatch z))];exact ec
 exact key o H1 I1 e1 q
end L2
namespace PL
open PySem PySem.Spec PyProof.Rows L2
noncomputable def kyI:Key->T
 | .inl i=>.int i
 | .inr (some s)=>.str s
 | .inr none=>.non
def kyT(k:List Key):T:=.tup (k.map kyI)
noncomputable def kpG(o:Obj)(d:Oz)(vs:List (List Key×V)):Hp:=fun b=>if b=d then some (.frz o (.dT vs))else none
variable {vs:List (List Key×V)}
section
variable{K:OA}
theorem zN{H H2:Hp}{d:Oz}{o:Obj}{ts:List (List Key×T)}{Γ:Fm}(h:Rp K H ((.dT false ts,some (.ref d))::Γ))(h1:H d=some (.dT vs)\/H d=some (.frz o (.dT vs)))(h2:H2 d=some (.frz o (.dT vs)))(h3:∀b,b≠d->H2 b=H b):Rp K H2 ((.kp (kpG o d vs),some .non)::(.dT false ts,some (.ref d))::Γ):=by
 obtain⟨Hz,N,h,nd,g,dj⟩:=h;have hz:∃w,Hz d=some w:=by
  cases h with
  |cons e h c=>
   rcases h with⟨z,_⟩|⟨v,ev,h⟩
   ·cases z
   cases ev;cases h with
   |dTZ r _=>exact Rd.some r
 let Z:Hp:=fun b=>if b=d then some (.frz o (.dT vs))else Hz b
 have zd:Z d=some (.frz o (.dT vs)):=if_pos rfl;have ze:∀b,b≠d->Z b=Hz b:=fun b hb=>if_neg hb;have gz:Gr Hz Z:=fun b u r=>by
  by_cases e:b=d
  ·subst e;rcases g b u r with q|⟨o',q⟩ <;> rcases h1 with h1|h1 <;> rw[h1]at q <;> cases q
   ·exact .inr ⟨o,zd⟩
   ·exact .inl zd
   exact .inr ⟨o,zd⟩
  unfold Rd at *;rw[ze b e];exact r
 have gh:Gr Z H2:=fun b u r=>by
  by_cases e:b=d
  ·subst e;unfold Rd at *;rw[zd]at r;rw[h2];exact r
  unfold Rd at r;rw[ze b e]at r;have:=g b u r;unfold Rd at *;rw[h3 b e];exact this
 have hd:∀b∈N,b≠d:=fun b m z=>by obtain⟨w,e⟩:=hz;rw[<-z,dj b m]at e;cases e
 refine⟨Z,[]++N,.cons rfl (.inr ⟨_,rfl,.kp fun b u r=>?_⟩) (h.move (fun b xs e=>?_) gz fun b m u e=>?_),nd,gh,fun b m=>?_⟩
 ·by_cases e:b=d
  ·subst e;unfold Rd kpG at r;rw[if_pos rfl]at r;unfold Rd;rw[zd];exact r
  unfold Rd kpG at r;rw[if_neg e]at r;rcases r with r|⟨_,r⟩ <;> cases r
 ·by_cases z:b=d
  ·subst z;rcases h1 with h1|h1 <;> rw[h1]at e <;> cases e
  rw[h3 b z];exact e
 ·rw[h3 b (hd b m)];exact⟨e,fun n=>n⟩
 have m:b∈N:=m;rw[ze b (hd b m)];exact dj b m
theorem tQ{H:Hp}{Γ:Fm}:∀(k:List Key),Rp K H Γ->Rp K H (zz (k.map kyI) (k.map kV)++Γ)
 | [],h=>h
 | .inl _::r,h=>cM (tQ r h) fun _=>.int
 | .inr (some _)::r,h=>cM (tQ r h) fun _=>.str
 | .inr none::r,h=>cM (tQ r h) fun _=>.non
theorem Bz{o:Obj}{d:Oz}:ItOk K (Itf o d) (vs.map fun p=>kyT p.1) [(.kp (kpG o d vs),some .non)] where
 turn:=fun i t H Γ ei rp=>by
  have rd:Rd H d (.frz o (.dT vs)):=by
   obtain⟨Hz,N,h,_,g,_⟩:=rp;cases h with
   |cons e h c=>
    rcases h with⟨z,_⟩|⟨v,ev,h⟩
    ·cases z
    cases h with
    |kp gr=>exact g _ _ (gr d _ (.inl (if_pos rfl)))
  rw[p_]at ei;cases e:vs[i]? with
  |none=>rw[e]at ei;cases ei
  |some p=>
   rw[e]at ei;cases ei;refine⟨⟨vs,rd,(f_.mp e).1⟩,fun x H' hy=>?_⟩;obtain⟨rfl,hy⟩:=hy;obtain⟨k,w,b,e1,rfl,hb⟩:=hy vs rd;rw[e]at e1;cases e1;exact jr (ts:=k.map kyI) (vs:=k.map kV) (tQ k rp) (by rw[a_,a_]) .gy hb
 stop:=fun H Γ rp=>by
  have rd:Rd H d (.frz o (.dT vs)):=by
   obtain⟨Hz,N,h,_,g,_⟩:=rp;cases h with
   |cons e h c=>
    rcases h with⟨z,_⟩|⟨v,ev,h⟩
    ·cases z
    cases h with
    |kp gr=>exact g _ _ (gr d _ (.inl (if_pos rfl)))
  exact⟨vs,rd,by rw[a_];exact b_ _⟩
end
def Hk(fe:PF):PIt:=fun env k=>fe env fun t al=>match t with
 | .dT _ kvs=>k (kvs.map fun p=>kyT p.1) al
 | _=>False
section
variable{X:Cx}{pos:Pos}{e tg:OL}{fe:PF}
theorem tO(h:GE X e fe):GI X tg e (Hk fe):=by
 rintro ac s σ H R I ⟨env,Fr,k,rs,q,c⟩;refine Ce h ac s σ H R I ⟨env,Fr,_,rs,q,fun t al v H1 q1 i'=>?_⟩;cases t <;> first|exact q1.elim|skip
 rename_i o ts;have rf:Rp X.K H1 ((.dT false (erT ts),some v)::(al.zip σ++Fr)):=lN i'.head;obtain⟨d,vs,rfl,hq,ek,ge⟩:=jE rf;have ek2:ts.map (·.1)=vs.map (·.1):=by
  rw[<-ek];clear ek rf q1 i' ge;induction ts with
  |nil=>rfl
  |cons a l ih=>rw[erT,c_,c_,ih]
 have e3:(ts.map fun p=>kyT p.1)=vs.map fun p=>kyT p.1:=by have:=congrArg (K' kyT) ek2;rw[D_,D_]at this;exact this
 have q1:k (ts.map fun p=>kyT p.1) al:=q1;rw[e3]at q1;refine⟨d,vs,rfl,?_⟩;rcases hq with hq|⟨ob,hq⟩
 ·refine .inl ⟨hq,fun ob H2 p=>c _ _ _ [(.kp (kpG ob d vs),some .non)] _ q1 ?_ Bz⟩;have r:=zN (o:=ob) (H2:=H2) rf (.inl hq) p.at_ fun b hb=>p.else_ b hb;exact .of i'.1 (r.perm (.swap _ _ _)).tail
 refine .inr ⟨ob,hq,c _ _ _ [(.kp (kpG ob d vs),some .non)] _ q1 ?_ Bz⟩;have r:=zN (o:=ob) (H2:=H1) rf (.inr hq) hq fun b hb=>rfl;exact .of i'.1 (r.perm (.swap _ _ _)).tail
end
noncomputable def asD(t:T)[k:Th (List (List Key×T)->Prop)]:Prop:=match t with
 | .dT _ kvs=>k.v kvs
 | _=>False
theorem jj{o:Bool}{kvs:List (List Key×T)}{k:Th (List (List Key×T)->Prop)}:asD (.dT o kvs) (k:=k)=k.v kvs:=rfl
theorem fj{env:Ev}{fe:PF}{ki:List T->Ev->Prop}:Hk fe env ki=fe env fun t al=>asD t (k:=⟨fun kvs=>ki (kvs.map fun p=>kyT p.1) al⟩):=by unfold Hk asD;refine congrArg (fe env) (funext fun t=>funext fun al=>?_);cases t <;> rfl
end PL
namespace ZT
open PySem
abbrev Up(l:List Nat):Prop:=l.Pairwise (·<·)
variable {i j:Nat}
theorem xQ{l:List Nat}(h:Up l){x y:Nat}(hi:l[i]?=some x)(hj:l[j]?=some y)(ld:i<j):x<y:=by obtain⟨a,rfl⟩:=f_.mp hi;obtain⟨b,rfl⟩:=f_.mp hj;exact LJ.mp h i j a b ld
theorem tV{xs:Array Nat}{j:Nat}(hu:Up xs.toList):∀(f lo hi:Nat),lo<=hi->hi<=xs.size->hi-lo<=f->(∀k x,k<lo->xs[k]?=some x->x<j)->(∀k x,hi<=k->xs[k]?=some x->j<=x)->
  Rt xs j f lo hi<=xs.size/\(∀k x,k<Rt xs j f lo hi->xs[k]?=some x->x<j)/\∀k x,Rt xs j f lo hi<=k->xs[k]?=some x->j<=x
 |0,lo,hi,h1,h2,h3,a,b=>by
  have e:lo=hi:=by omega
  subst e;exact⟨h2,a,b⟩
 |f+1,lo,hi,h1,h2,h3,a,b=>by
  unfold Rt;by_cases hl:lo<hi
  ·rw[if_pos hl];have hm:(lo+hi)/2<xs.size:=by omega
   have e:xs.getD ((lo+hi)/2) j=xs[(lo+hi)/2]:=by rw[L7,k_ hm];rfl
   have em:xs.toList[(lo+hi)/2]?=some xs[(lo+hi)/2]:=by rw[r_];exact k_ hm
   dsimp only;rw[e];by_cases hx:xs[(lo+hi)/2]<j
   ·rw[if_pos hx];refine tV hu f _ _ (by omega) h2 (by omega) (fun k x hk ek=>?_) b;by_cases hk2:k=(lo+hi)/2
    ·subst hk2;rw[k_ hm]at ek;cases ek;exact hx
    exact M3 (xQ hu (by rw[r_];exact ek) em (by omega)) hx
   rw[if_neg hx];refine tV hu f _ _ (by omega) (by omega) (by omega) a fun k x hk ek=>?_
   by_cases hk2:k=(lo+hi)/2
   ·subst hk2;rw[k_ hm]at ek;cases ek;exact Lm hx
   have:=xQ hu em (by rw[r_];exact ek) (by omega);omega
  rw[if_neg hl];have e:lo=hi:=by omega
  subst e;exact⟨h2,a,b⟩
variable {xs:Array Nat}
theorem lP(j:Nat)(hu:Up xs.toList):O3 xs j<=xs.size/\(∀k x,k<O3 xs j->xs[k]?=some x->x<j)/\∀k x,O3 xs j<=k->xs[k]?=some x->j<=x:=
 tV hu _ _ _ (F' _) (b_ _) (by omega) (fun k x hk=>by omega) fun k x hk ek=>by rw[KJ hk]at ek;cases ek
theorem below_at(hu:Up xs.toList){x:Nat}(hi:xs[i]?=some x):O3 xs (x+1)=i+1:=by
 obtain⟨h1,h2,h3⟩:=lP (x+1) hu;have lf:i<xs.size:=(Array.getElem?_eq_some_iff.mp hi).1;have a:i<O3 xs (x+1):=Nat.lt_of_not_le fun z=>by have:=h3 i x z hi;omega
 by_cases c:i+1<O3 xs (x+1)
 ·have hn:i+1<xs.size:=by omega
  have:=h2 (i+1) _ c (k_ hn);have g:=xQ hu (by rw[r_];exact hi) (by rw[r_];exact k_ hn) (Mb i);omega
 omega
theorem DQ(hu:Up xs.toList):O3 xs 0=0:=by
 obtain⟨h1,h2,h3⟩:=lP 0 hu;refine Nat.eq_zero_of_not_pos fun z=>?_;have hn:0<xs.size:=by omega
 have:=h2 0 _ z (k_ hn);omega
theorem zW(hu:Up xs.toList)(hj:xs[O3 xs j]?≠some j):Up (WU xs (O3 xs j) j).toList:=by
 obtain⟨h1,h2,h3⟩:=lP j hu;rw[VZ];have sp:xs.toList=xs.toList.take (O3 xs j)++xs.toList.drop (O3 xs j):=(Ll _ _).symm;have hu':=hu;rw[sp]at hu';obtain⟨p,q,r⟩:=Mc.mp hu';have lt:∀x∈xs.toList.take (O3 xs j),x<j:=fun x hx=>by obtain⟨k,hk,e⟩:=Lc.mp hx;rw[B_]at hk;rw[List.getElem_take]at e;exact h2 k x (by omega) (by rw[<-r_,f_];exact⟨by omega,e⟩)
 have gt:∀x∈xs.toList.drop (O3 xs j),j<x:=fun x hx=>by
  obtain⟨k,hk,e⟩:=Lc.mp hx;rw[KU]at hk;rw[List.getElem_drop]at e;have e2:xs[O3 xs j+k]?=some x:=by rw[<-r_,f_];exact⟨by omega,e⟩
  refine Mi (h3 _ x (by omega) e2) fun z=>?_
  subst z;by_cases k0:k=0
  ·subst k0;exact hj e2
  have hb:O3 xs j<xs.size:=by rw[l_]at hk;omega
  have g:=xQ hu (i:=O3 xs j) (j:=O3 xs j+k) (by rw[r_];exact k_ hb) (by rw[r_];exact e2) (by omega);have:=h3 _ _ (b_ _) (k_ hb);omega
 exact Mc.mpr ⟨p,Lo.mpr ⟨gt,q⟩,fun a ha b hb=>by
  rcases h_.mp hb with e|hb
  ·rw[e];exact lt a ha
  exact r a ha b hb⟩
structure Gd (bt:Bool) (t:Pm):Prop where
 up:Up t.place.toList
 no:t.dummies=#[]
 led:bt=false->t.led=true
theorem Dm(bt:Bool)(f m:Nat):Gd bt (.fresh f m (!bt)):=⟨.nil,rfl,fun e=>by rw[e];rfl⟩
variable {t:Pm}
theorem mS{bt:Bool}(h:Gd bt t)(n:Nat):Gd bt (t.standIn n):=⟨by show Up (Array.range n).toList;rw[Array.toList_range];exact Ni,rfl,h.led⟩
theorem JZ{bt:Bool}(h:Gd bt t)(n:Nat):Gd bt (t.orStandIn n):=by
 unfold WR;split
 ·exact h
 exact mS h n
theorem F1(j:Nat):V0 #[] j=false:=rfl
theorem wz{bt:Bool}(h:Gd bt t)(e:t.slot j=.empty):t.place[O3 t.place j]?≠some j:=fun z=>by unfold VA at e;dsimp only at e;rw[z,if_pos (beq_self_eq_true _)]at e;cases e
theorem o6{t:Pm}(hd:t.dummies=#[]){H:Nat->Int}{h:Int}:∀(f:Nat) (p:Xb) (j:Nat) (d:Option Nat),p.dummy=none->Ui t H h f p=some (.empty j d)->t.slot j=.empty/\d=none
 |0,p,j,d,_,e=>by cases e
 |f+1,p,j,d,hp,e=>by
  unfold Ui at e;split at e
  ·rename_i z;cases e;exact⟨z,hp⟩
  ·rename_i z;unfold VA at z;dsimp only at z;rw[hd,F1]at z;split at z <;> first|cases z|(rename_i q;split at z <;> cases z)
  have ad:(t.advance p).dummy=none:=by unfold W5;split <;> exact hp
  split at e
  ·cases e
  exact o6 hd f _ j d ad e
theorem Hn{bt:Bool}(h:Gd bt t)(e:t.slot j=.empty):Gd bt (t.put j).1:=by
 refine⟨zW h.up (wz h e),?_,h.led⟩;show(if V0 t.dummies j then _ else t.dummies)=#[];rw[h.no]
 rfl
theorem Gk{bt:Bool}(h:Gd bt t)(es:Array (Int×Oy))(k:Int)(x:Oy):Gd bt (layNew t es k x).2.1:=by
 unfold layNew;split
 ·rename_i slot wd e;have hs:t.slot slot=.empty:=by
   unfold WV at e;split at e
   ·rename_i j d q;cases e;obtain⟨a,b⟩:=o6 h.no _ _ _ _ rfl q;rw[b];exact a
   cases e
  exact JZ (Hn h hs) _
 exact mS h _
theorem D7{bt:Bool}(h:Gd bt t)(es:Array (Int×Oy))(n:Nat):Gd bt (Sx t es n).2.1:=by
 unfold Sx;split
 ·rename_i t' order e;dsimp only;split
  ·unfold W_ Xd at e;cases q:WW (T6 n-1) (es.map fun x=>x.1)with
   |none=>rw[q]at e;cases e
   |some ow=>
    rw[q]at e;cases e;refine⟨?_,rfl,h.led⟩;show List.Pairwise (fun x y=>x<y) (K' (fun x=>x.1) (List.filterMap (fun j=>(ow.getD j none).map fun y=>(j,y)) (A' (T6 n-1+1))));rw[I_,List.pairwise_filterMap];refine List.Pairwise.imp (fun{a b} hab c hc d hd=>?_) Ni;obtain⟨_,_,ec⟩:=Mo.mp hc;obtain⟨_,_,ed⟩:=Mo.mp hd;rw[<-ec,<-ed];exact hab
  exact mS h _
 exact mS h _
open PySem PyProof.Rows
variable {S:Int->Prop}{a:Oz}{ep m:Nat}{es:Array (Int×Oy)}{h:OM}{ns:List Int}{o:Obj}{vs:List Oy}
section
variable{prog:OI}{w:OK}{A:OP}{E:Oy->OB->Prop}{s:OB}
abbrev bt(w:OK):Bool:=w.params.followText "set-order"
structure SI (prog:OI) (w:OK) (o:Obj) (ks:List Int) (es:Array (Int×Oy)) (ep:Nat) (t:Pm):Prop where
 ex:o.ExactSet
 dat:o.data=.set es ep t
 el:ElemsOf (QN prog w) es.toList
 rd:P1 (es.toList.map (·.2)) ks
 nd:ks.Nodup
 sm:es.size<scanBound
 ft:t.fits es.size=true
 gd:Gd (bt w) t
noncomputable def SG(prog:OI)(w:OK)(h:OM)(a:Oz)(S:Int->Prop)(n:Nat):Prop:=∃o ks es ep t,h.get? a=some o/\SI prog w o ks es ep t/\(∀z,z∈ks↔S z)/\ks.length<=n
theorem kT:∀{vs:List Oy}{ns:List Int},P1 vs ns->vs.length=ns.length
 | _,_,.nil=>rfl
 | _,_,.cons n t h=>by rw[g_,g_,kT h]
theorem Gj{k i:Int}{t:Tok}:(QN prog w).is k (.int i t)=decide (k=i):=KeyKind.is_eq_decide (TB prog w i t) k
theorem pN:∀{es:List (Int×Oy)}{ks:List Int},P1 (es.map (·.2)) ks->∀k,k∈ks↔∃e∈es,(QN prog w).is k e.2=true
 | [],_,.nil,k=>⟨fun h=>(nomatch h),fun⟨e,h,_⟩=>(nomatch h)⟩
 | (h0,_)::es,_,.cons n t h,k=>by
  rw[h_,pN h k];constructor
  ·rintro(rfl|⟨e,m,q⟩)
   ·exact⟨_,.head _,TB _ _ _ _⟩
   exact⟨e,.tail _ m,q⟩
  rintro⟨e,m,q⟩;rcases h_.mp m with rfl|m
  ·exact .inl (of_decide_eq_true (by rw[<-Gj (prog:=prog) (w:=w) (t:=t)];exact q))
  exact .inr ⟨e,m,q⟩
theorem kR:∀{us vs:List Oy},us.Perm vs->∀{ns:List Int},P1 us ns->∃ms,P1 vs ms/\ns.Perm ms:=by
 intro us vs p;induction p with
 |nil=>exact fun h=>⟨_,h,.refl _⟩
 |cons x p ih=>
  intro ns h;cases h with
  |cons n t h=>
   obtain⟨ms,a,b⟩:=ih h;exact⟨n::ms,.cons n t a,.cons n b⟩
 |swap x y l=>
  intro ns h;cases h with
  |cons n t h=>
   cases h with
   |cons m u h=>exact⟨_,.cons m u (.cons n t h),.swap _ _ _⟩
 |trans p q ih jh=>
  intro ns h;obtain⟨ms,a,b⟩:=ih h;obtain⟨ls,c,d⟩:=jh a;exact⟨ls,c,b.trans d⟩
theorem A3{n:Int}{t:Tok}(h:P1 vs ns):P1 (vs++[.int n t]) (ns++[n]):=by
 induction h with
 |nil=>exact .cons n t .nil
 |cons m u h ih=>exact .cons m u ih
theorem stored{es':Array (Int×Oy)}{t':Pm}(ho:h.get? a=some o)(hd:o.data=.set es ep t) :
  (h.update a (U3 es' t')).get? a=some {o with data:=.set es' (ep+1) t'}:=by
 have e:=O6 (U3 es' t') ho (by rw[putSet_of es' t' hd];rfl);rw[putSet_of es' t' hd]at e;exact e
theorem uW{g:Bool->Sem Unit}(hg:∀(b:Bool) (s₁:OB) (Q':Unit->OB->Prop),Q' () s₁->OE (OJ prog w) A (g b) Q' E s₁)
  {a:Oz}{o:Obj}{es es1:Array (Int×Oy)}{ep:Nat}{t t2:Pm}{ks:List Int} (ho:s.heap.get? a=some o) (hd:o.data=.set es ep t)
  (hI:SI prog w {o with data:=.set es1 (ep+1) t2} ks es1 (ep+1) t2) {wd:Bool} {R:Option Bool->OB->Prop}
  (h:∀h' o' es' ep' t' ks',Pe a s.heap h'->h'.get? a=some o'->SI prog w o' ks' es' ep' t'->ks'.Perm ks->R (some true) {s with heap:=h'}) :
  OE (OJ prog w) A (storeSet a es1 t2 >>= fun _=>if(!wd&&t2.tooFull)=true then g (Sx t2 es1 (QD es1.size)).2.2 >>= fun _=>storeSet a (Sx t2 es1 (QD es1.size)).1 (Sx t2 es1 (QD es1.size)).2.1 >>= fun _=>pure (some true)else pure (some true)) R E s:=by
 refine Ox (Uj ho hd ?_ (QR hI.sm));have e1:=stored (es':=es1) (t':=t2) ho hd;have b1:=O2 s.heap a (U3 es1 t2);split
 ·have hp:=relayAll_perm t2 es1 (QD es1.size);have hf:=relayAll_fits t2 es1 (QD es1.size);have hG:=D7 hI.gd es1 (QD es1.size);generalize Sx t2 es1 (QD es1.size)=Rl at hp hf hG ⊢;obtain⟨es2,t3,gave⟩:=Rl;dsimp only at hp hf hG ⊢;have sz:es2.size=es1.size:=by rw[<-l_,hp.length_eq,l_]
  have sm2:es2.size<scanBound:=by rw[sz];exact hI.sm
  obtain⟨ks2,rd2,kp⟩:=kR (hp.symm.map (·.2)) hI.rd;refine Ox (hg _ _ _ (Ox (Uj e1 rfl ?_ (QR sm2))));have e2:=stored (es':=es2) (t':=t3) e1 rfl;exact OC (h _ _ es2 _ t3 ks2 (b1.trans (O2 _ a _)) e2 ⟨hI.ex,rfl,hI.el.perm hp,rd2,kp.nodup_iff.mp hI.nd,sm2,hf,hG⟩ kp.symm)
 exact OC (h _ _ es1 _ t2 ks b1 e1 hI (.refl _))
theorem add_int{n:Int}{tk:Tok}{Q:Bool->OB->Prop}(hS:SG prog w s.heap a S m)(hm:m+1<scanBound)
  (h:∀b h',Pe a s.heap h'->SG prog w h' a (fun z=>S z\/z=n) (m+1)->Q b {s with heap:=h'}) :
  OE (OJ prog w) A (V1 a (.int n tk) ((QN prog w).hash n)) Q E s:=by
 obtain⟨o,ks,es,ep,t,ho,I,mem,kl⟩:=hS;have kn:es.size=ks.length:=by rw[<-kT I.rd,a_,l_]
 have hk:=TB prog w n tk;unfold V1 setAddHashedIn;refine OS (Ox (QA ho I.dat I.ft ?_));dsimp only;rw[byScan_of rfl I.sm I.el,if_pos rfl];unfold setAddByScan;refine Ox (Ox (PQ (Ox (wpAny_setScan_of hk ho I.dat I.ft I.el ?_))));cases hr:List.findIdx? (fun e=>(QN prog w).is n e.2) es.toList with
 |some j=>
  dsimp only;obtain⟨hj,pj,_⟩:=LL.mp hr;have hn:n∈ks:=(pN (prog:=prog) (w:=w) I.rd n).mpr ⟨_,KY hj,pj⟩;refine OC (OC ?_);exact h _ s.heap (WX a s.heap) ⟨o,ks,es,ep,t,ho,I,fun z=>by rw[mem z];exact⟨.inl,fun q=>q.elim id fun e=>by rw[e];exact(mem n).mp hn⟩,by omega⟩
 |none=>
  dsimp only;have hn:n ∉ ks:=fun z=>by obtain⟨e,me,q⟩:=(pN (prog:=prog) (w:=w) I.rd n).mp z;have:=M1.mp hr e me;rw[q]at this;cases this
  have pm:=layNew_perm t es ((QN prog w).hash n) (.int n tk);have ft:=layNew_fits t es ((QN prog w).hash n) (.int n tk);have gd:=Gk I.gd es ((QN prog w).hash n) (.int n tk);generalize layNew t es ((QN prog w).hash n) (.int n tk)=L at pm ft gd ⊢;obtain⟨es1,t1,wd,gave⟩:=L;dsimp only at pm ft gd ⊢;rw[NM]at pm;have s1:es1.size=es.size+1:=by rw[<-l_,pm.length_eq,gV,l_];rfl
  have el1:ElemsOf (QN prog w) es1.toList:=(I.el.push hk rfl).perm pm;have rdp:P1 (K' (·.2) (es.toList++[((QN prog w).hash n,QT n tk)])) (ks++[n]):=by rw[q_];exact A3 I.rd
  obtain⟨ks1,rd1,kp⟩:=kR (pm.symm.map (·.2)) rdp;have nd1:ks1.Nodup:=kp.nodup_iff.mp (Lq.mpr ⟨I.nd,C_.mpr ⟨(nomatch ·),LY⟩,fun x hx y hy e=>by rw[y_.mp hy]at e;exact hn (e▸hx)⟩);have fin:∀h' o' es' ep' t' ks',Pe a s.heap h'->h'.get? a=some o'->SI prog w o' ks' es' ep' t'->ks'.Perm ks1->Q true {s with heap:=h'}:=fun h' o' es' ep' t' ks' b g I' p=>by
   refine h _ h' b ⟨o',ks',es',ep',t',g,I',fun z=>?_,?_⟩
   ·rw[p.mem_iff,<-kp.mem_iff,F_,mem z,y_]
   rw[p.length_eq,<-kp.length_eq,gV];exact LA kl
  have gw:∀(b:Bool) (s₁:OB) (Q':Unit->OB->Prop),Q' () s₁->OE (OJ prog w) A (match b with|true=>rule "set.scan.the-table-gave-way" |false=>pure ()) Q' E s₁:=fun b s₁ Q' q=>by cases b <;> first|exact OC q|exact PQ q
  refine Ox (?_:OE _ _ (match gave with|true=>_|false=>_) _ _ _);have sm1:es1.size<scanBound:=by omega
  refine gw gave s _ ?_;split
  ·refine Ox ?_;rw[hashByValue_scannable 8 (x:=.int n tk) rfl];refine OC ?_;refine uW (ks:=ks1) gw ho I.dat ⟨I.ex,rfl,el1,rd1,nd1,sm1,?_,?_⟩ fun h' o' es' ep' t' ks' b g I' p=>OC (fin h' o' es' ep' t' ks' b g I' p)
   ·exact ft
   exact gd
  refine Ox (OC ?_);rw[if_pos rfl];exact uW (ks:=ks1) gw ho I.dat ⟨I.ex,rfl,el1,rd1,nd1,sm1,ft,gd⟩ fun h' o' es' ep' t' ks' b g I' p=>OC (fin h' o' es' ep' t' ks' b g I' p)
end
open PySem PyProof.Rows
theorem Ey:UG Wx "set.__iter__"=some Pn.«frozenset.__iter__»:=Vm (id':="frozenset.__iter__") (by kernel_rfl) rfl (by rfl') (by kernel_rfl)
theorem j8:VM "set_iterator" "__next__" "set_iterator.__next__":=
 .of (owner:="set_iterator") (n:="__next__") (by rw[SR,RD];kernel_rfl) (by rfl') (by rfl') (by rfl') (by first|exact .inl (by rfl')|exact .inr (by rfl')) (by rw[RX];kernel_rfl)
theorem zp:VM "set_iterator" "__iter__" "set_iterator.__iter__":=
 .of (owner:="set_iterator") (n:="__iter__") (by rw[SR,RD];kernel_rfl) (by rfl') (by rfl') (by rfl') (by first|exact .inl (by rfl')|exact .inr (by rfl')) (by rw[RX];kernel_rfl)
theorem Ef:UG Wx "set_iterator.__iter__"=some Pn.«dict_keyiterator.__iter__»:=Vm (id':="dict_keyiterator.__iter__") (by kernel_rfl) rfl (by rfl') (by kernel_rfl)
theorem zo:UG Wx "set_iterator.__next__"=some Pn.«set_iterator.__next__»:=UH (by kernel_rfl)
theorem Fw:W'.lookup (String.ofList ['r','o','t','a','r','e','t','i','_','t','e','s'].reverse)=some VJ:=by kernel_rfl
theorem zr(a:Oy):U2 "set_iterator.__next__" ⟨[a],[]⟩:=by unfold U2;rw[VB (id:="set_iterator.__next__") (n:=['_','_','t','x','e','n','_','_']) (o:=['r','o','t','a','r','e','t','i','_','t','e','s']) (by kernel_rfl) Fw];kernel_rfl
theorem EW(a:Oy):U2 "set_iterator.__iter__" ⟨[a],[]⟩:=by unfold U2;rw[VB (id:="set_iterator.__iter__") (n:=['_','_','r','e','t','i','_','_']) (o:=['r','o','t','a','r','e','t','i','_','t','e','s']) (by kernel_rfl) Fw];kernel_rfl
theorem sZ{α:Type}:∀{l:List α}{i:Nat} (h:i<l.length),(l[i]::l.eraseIdx i).Perm l
 |x::l,0,_=>.refl _
 |x::l,i+1,h=>by have g:i<l.length:=Nat.lt_of_succ_lt_succ h;show(l[i]::x::l.eraseIdx i).Perm (x::l);exact(LB ..).trans (.cons x (sZ g))
theorem qV{α:Type}{next:Nat->Nat}:∀(f k:Nat) (l:List α) (out:Array α),l.length=f->(V2 next f k l out).toList.Perm (out.toList++l)
 |0,k,l,out,h=>by rw[J_ h,J'];exact .refl _
 |f+1,k,l,out,h=>by
  unfold V2;have lt:next k%l.length<l.length:=Ot _ (by omega)
  rw[e_ lt];refine(qV f _ _ _ (by rw[MS lt];omega)).trans ?_;rw[NM,o_];refine L0 _ ?_;exact sZ lt
variable {Q:Oy->OB->Prop}{f:Oy}{it:Oz}{n:Nat}{sl:Nat->Nat}
section
variable{prog:OI}{w:OK}{A:OP}{E:Oy->OB->Prop}{s:OB}
theorem wp_choose{src:Source}{Q:Nat->OB->Prop}(hn:n≠0)(h:∀i d,i<n->Q i {s with drawn:=d}):OE (OJ prog w) A (choose src n) Q E s:=
 fun _ _ _=>⟨hn,h _ _ (Ot _ (Ln hn))⟩
theorem zG{α:Type}:∀(n:Nat) (xs:List α) {s:OB}{Q:List α->OB->Prop},xs.length=n->(∀ys d,ys.Perm xs->Q ys {s with drawn:=d})->OE (OJ prog w) A (drawOrder n xs) Q E s
 |0,xs,s,Q,hl,h=>by rw[J_ hl]at h ⊢;exact OC (h [] s.drawn (.refl _))
 |n+1,[],s,Q,hl,h=>by cases hl
 |n+1,x::xs,s,Q,hl,h=>by unfold drawOrder;refine Ox (wp_choose (by simp) fun i d hi=>?_);rw[e_ hi];dsimp only;refine Ox (zG n _ (by rw[MS hi,hl];rfl) fun ys d' p=>OC (h _ d' ?_));exact(Ml _ p).trans (sZ hi)
noncomputable def Itr(h:OM)(it:Oz)(first:Oy)(i:Nat)(a:Oz)(n ep:Nat):Prop:=∃o,h.get? it=some o/\o.cls=.type "set_iterator"/\o.data=.fields #[first,.int i 0,.ref a,.int n 0,.int ep 0]
theorem Itr.ty (x:Itr s.heap it f i a n ep):s.TypeIs (.ref it) "set_iterator":=let ⟨o,ho,hc,_⟩:=x;⟨o,ho,hc⟩
theorem Itr.at {h':OM}(x:Itr h it f i a n ep)(e:∀o,h.get? it=some o->h'.get? it=some o):Itr h' it f i a n ep:=let ⟨o,ho,r⟩:=x;⟨o,e _ ho,r⟩
theorem zg(x:Itr s.heap it f i a n ep)(h:Q (.ref it) s):OE (OJ prog w) A (RJ (.ref it)) Q E s:=by refine Sd x.ty zp (O5 zp x.ty Ef ?_ (EW _));show OE _ _ (ret (.ref it)) _ _ s;exact OC ⟨_,rfl,"set_iterator",_,x.ty,j8.lookup,h⟩
noncomputable def Nx(prog:OI)(w:OK)(a:Oz)(o:Obj)(ep:Nat)(vs:List Oy)(sl:Nat->Nat):Prop:=∀(A:OP) (E:Oy->OB->Prop) (s:OB) (i:Nat) (Q:Option (Oy×Nat)->OB->Prop),s.heap.get? a=some o->i<=vs.length->Q (vs[i]?.map fun v=>(v,sl (i+1))) s->OE (OJ prog w) A (Vn a (sl i) i ep) Q E s
theorem yU{Q:Option Oy->OB->Prop}(x:Itr s.heap it (.int (sl i) 0) i a es.size ep)(ho:s.heap.get? a=some o)(hd:o.data=.set es ep t)(hf:t.fits es.size=true)(N:Nx prog w a o ep vs sl)(hi:i<=vs.length)(hh:A.handled=none)
  (h1:∀v h',vs[i]?=some v->Itr h' it (.int (sl (i+1)) 0) (i+1) a es.size ep->Pe it s.heap h'->Q (some v) {s with heap:=h'}) (h2:∀h',vs[i]?=none->QP it s.heap h'->Q none {s with heap:=h'}):OE (OJ prog w) A (Qh (.ref it)) Q E s:=by
 obtain⟨oi,hoi,hc,hdi⟩:=id x;unfold Qh;refine Ox (P7 (O' (name:=P4 "__next__") x.ty j8 (O5 j8 x.ty zo ?_ (zr _))));unfold Pn.«set_iterator.__next__»;refine Ox (OC (Ox (RV hoi hdi ?_)));show OE _ _ (setEntries a >>= _) _ _ s;refine Ox (RQ ho hd hf ?_);rw[if_neg (show ¬_ by simp)];show OE _ _ (Vn a _ _ _ >>= _) _ _ s;refine Ox ?_;rw[KS,KS,KS];refine N _ _ _ i _ ho hi ?_;cases e:vs[i]? with
 |some v=>
  dsimp only[Ma];refine Ox (PR hoi hdi (by simp) ?_);have e1:=O6 (Q1 (·.setIfInBounds 0 (Pl (sl (i+1))))) hoi (Qa (O7 hdi _));refine Ox (PR e1 (O7 hdi _) (by simp) ?_);have e2:=O6 (Q1 (·.setIfInBounds 1 (Pl ((i:Int)+1)))) e1 (Qa (O7 (O7 hdi _) _));refine OC ⟨_,rfl,OC (h1 v _ e ⟨_,e2,((QQ ..).trans (QQ ..)).trans hc,?_⟩ ((O2 ..).trans (O2 ..)))⟩;rw[O7 (O7 hdi _)];simp[Pl]
 |none=>
  dsimp only[Ma];refine Ox (PR hoi hdi (by simp) (show OE _ _ (Su (.type "StopIteration") [] >>= _) _ _ _ from Ox ?_));simp only[Su,Uy];refine Ox (OU (Ox (m:=Qi _ _) (Q4 (a:=Pj) (by first|rfl|(simp only[Qi];rfl)) (OU ?_ (by size_fits)))) (by size_fits));simp only[Uz];refine Ox (R9 ?_);rw[show A.in1.handled=none from hh];refine Ox (OC (S3 ?_));refine Ox (Qj (T:="StopIteration") (b:=true) (by exact⟨_,OF _ rfl,rfl⟩) RU (OC ?_));exact h2 _ e (((O2 ..).extBut.push _).push _)
theorem BE(kw:a≠it)(hd:o.data=.set es ep t)(hf:t.fits es.size=true)(N:Nx prog w a o ep vs sl)(hh:A.handled=none) :
  Wz prog w A it [it,a] [it] vs.length (fun i v=>vs[i]?=some v) (fun i h=>i<=vs.length/\Itr h it (.int (sl i) 0) i a es.size ep/\h.get? a=some o) where
 sub:=fun b hb=>by simp at hb;simp[hb]
 frame:=fun _ _ _ st hk=>⟨st.1,st.2.1.at fun o e=>hk it (by simp) o e,hk a (by simp) o st.2.2⟩
 item:=fun i s Q E hi st hQ=>yU st.2.1 st.2.2 hd hf N st.1 hh (fun v h' e x sb=>hQ v h' s.toks e ⟨hi,x,sb.extBut a o kw st.2.2⟩ fun b o hb e=>sb.extBut b o (fun z=>hb (by simp[z])) e) fun h' e=>by rw[e_ hi]at e;cases e
 done:=fun s Q E st hQ=>yU st.2.1 st.2.2 hd hf N st.1 hh (fun v h' e=>by rw[Lv (b_ _)]at e;cases e) fun h' _ eb=>hQ h' s.toks fun b o hb e=>eb b o (fun z=>hb (by simp[z])) e
 self:=fun _ _ _ _ st hQ=>zg st.2.1 hQ
end
open PySem PyProof.Rows
variable {ks:List Int}{ps:List Nat}
section
variable{prog:OI}{w:OK}{A:OP}{E:Oy->OB->Prop}{s:OB}
theorem wp_text{Q:Bool->OB->Prop}(h:Q (bt w) s):OE (OJ prog w) A setsByText Q E s:=Ox (Sy (OC h))
theorem Cw:(es.toList.map (·.2))[i]?=es[i]?.map (·.2):=by rw[p_,r_]
theorem EO(I:SI prog w o ks es ep t)(hb:bt w=true) :
  Nx prog w a o ep ((pickOrder (w.params.setOrder a ep) es).toList.map (·.2)) (fun _=>0):=by
 intro A E s i Q ho hi h;unfold Vn;refine Ox (QA ho I.dat I.ft (Ox (wp_text ?_)));rw[hb,if_pos rfl];dsimp only;rw[if_neg (by simp)];refine Ox ?_;unfold setWalk;refine Ox (QA ho I.dat I.ft (Ox (wp_text ?_)));rw[hb,if_pos rfl];refine Ox (Sy (OC (OC ?_)));rw[Cw,Option.map_map]at h;exact h
noncomputable def slP(t:Pm):Nat->Nat
 |0=>0
 |i+1=>t.place.getD i 0+1
theorem Cy(I:SI prog w o ks es ep t)(hb:bt w=false)(hdr:(!t.plain&&decide (es.size > 1))=false) :
  Nx prog w a o ep (es.toList.map (·.2)) (slP t):=by
 intro A E s i Q ho hi h;have hz:t.place.size=es.size:=by have:=I.ft;unfold Xe at this;simp at this;exact this.1
 unfold Vn;refine Ox (QA ho I.dat I.ft (Ox (wp_text ?_)));rw[hb,if_neg (by simp)];dsimp only;refine Pg (fun z=>absurd (show(!t.plain&&decide (es.size > 1))=true from z) (by rw[hdr];simp)) fun _=>Ox ?_
 show OE _ _ (if(!t.led&&!es.isEmpty)=true then _ else _) _ _ _;rw[I.gd.led hb,if_neg (by simp)];refine OC ?_;have eb:O3 t.place (slP t i)=i:=by
  match i,hi with
  |0,_=>exact DQ I.gd.up
  |i+1,hi=>
   have hi:i<t.place.size:=by rw[a_,l_]at hi;omega
   have e:t.place[i]?=some (t.place.getD i 0):=by rw[k_ hi,L7,k_ hi];rfl
   exact below_at I.gd.up e
 rw[eb];refine OC ?_;rw[Cw]at h;by_cases c:i<es.size
 ·rw[k_ c,k_ (show i<t.place.size by omega)];rw[k_ c]at h;have e:slP t (i+1)=t.place[i]+1:=by show t.place.getD i 0+1=_;rw[L7,k_ (by omega)];rfl
  dsimp only[Ma]at h;rw[e]at h;exact h
 rw[KJ (by omega)];rw[KJ (by omega)]at h;exact h
theorem zB{tp:Oz}{ot:Obj}{c:Nat}{Q:Option Oy->OB->Prop}(x:Itr s.heap it (.ref tp) i a es.size ep)(ho:s.heap.get? a=some o)(hd:o.data=.set es ep t)(hf:t.fits es.size=true)(hot:s.heap.get? tp=some ot)(hdt:ot.data=.seq (ps.map fun(j:Nat)=>Pl j).toArray c)(hps:∀p∈ps,p<es.size)(hh:A.handled=none)
  (h1:∀p v h',ps[i]?=some p->(es[p]?.map (·.2))=some v->Itr h' it (.ref tp) (i+1) a es.size ep->Pe it s.heap h'->Q (some v) {s with heap:=h'}) (h2:∀h',ps[i]?=none->QP it s.heap h'->Q none {s with heap:=h'}):OE (OJ prog w) A (Qh (.ref it)) Q E s:=by
 obtain⟨oi,hoi,hc,hdi⟩:=id x;unfold Qh;refine Ox (P7 (O' (name:=P4 "__next__") x.ty j8 (O5 j8 x.ty zo ?_ (zr _))));unfold Pn.«set_iterator.__next__»;refine Ox (OC (Ox (RV hoi hdi ?_)));show OE _ _ (setEntries a >>= _) _ _ s;refine Ox (RQ ho hd hf ?_);rw[if_neg (show ¬_ by simp)];show OE _ _ (SQ (.ref tp) >>= _) _ _ s;unfold SQ;refine Ox (Ox (Sf hot ?_));rw[hdt];refine OC ?_;dsimp only;rw[KS,KS];have ea:((ps.map fun(j:Nat)=>Pl j).toArray)[i]?=ps[i]?.map fun(j:Nat)=>Pl j:=by rw[List.getElem?_toArray,p_]
 rw[ea];cases e:ps[i]? with
 |some p=>
  have hp:=hps p (H_ e);dsimp only[Ma,Pl];unfold setNextDrawn;refine Ox (Ox (QA ho hd hf ?_));dsimp only;rw[if_neg (by simp),KS,k_ hp];refine OC (Ox (PR hoi hdi (by simp) ?_));have e1:=O6 (Q1 (·.setIfInBounds 1 (Pl ((i:Int)+1)))) hoi (Qa (O7 hdi _));refine OC ⟨_,rfl,OC (h1 p _ _ e (by rw[k_ hp];rfl) ⟨_,e1,(QQ ..).trans hc,?_⟩ (O2 ..))⟩;rw[O7 hdi _];simp[Pl]
 |none=>
  dsimp only[Ma];refine Ox (PR hoi hdi (by simp) ?_);have e1:=O6 (Q1 (·.setIfInBounds 0 (Pl 0))) hoi (Qa (O7 hdi _));refine Ox (PR e1 (O7 hdi _) (by simp) (show OE _ _ (Su (.type "StopIteration") [] >>= _) _ _ _ from Ox ?_));simp only[Su,Uy];refine Ox (OU (Ox (m:=Qi _ _) (Q4 (a:=Pj) (by first|rfl|(simp only[Qi];rfl)) (OU ?_ (by size_fits)))) (by size_fits));simp only[Uz];refine Ox (R9 ?_);rw[show A.in1.handled=none from hh];refine Ox (OC (S3 ?_));refine Ox (Qj (T:="StopIteration") (b:=true) (by exact⟨_,OF _ rfl,rfl⟩) RU (OC ?_));exact h2 _ e ((((O2 ..).trans (O2 ..)).extBut.push _).push _)
theorem Du{tp:Oz}(kw:a≠it)(hnt:tp≠it){ot:Obj}{c:Nat}(hd:o.data=.set es ep t)(hf:t.fits es.size=true)(hdt:ot.data=.seq (ps.map fun(j:Nat)=>Pl j).toArray c)(hps:∀p∈ps,p<es.size)(hh:A.handled=none) :
  Wz prog w A it [it,a,tp] [it] ps.length (fun i v=>∃p,ps[i]?=some p/\es[p]?.map (·.2)=some v) (fun i h=>Itr h it (.ref tp) i a es.size ep/\h.get? a=some o/\h.get? tp=some ot) where
 sub:=fun b hb=>by simp at hb;simp[hb]
 frame:=fun _ _ _ st hk=>⟨st.1.at fun o e=>hk it (by simp) o e,hk a (by simp) o st.2.1,hk tp (by simp) ot st.2.2⟩
 item:=fun i s Q E hi st hQ=>zB st.1 st.2.1 hd hf st.2.2 hdt hps hh (fun p v h' e1 e2 x sb=>hQ v h' s.toks ⟨p,e1,e2⟩ ⟨x,sb.extBut a o kw st.2.1,sb.extBut tp ot hnt st.2.2⟩ fun b o hb e=>sb.extBut b o (fun z=>hb (by simp[z])) e) fun h' e=>by rw[e_ hi]at e;cases e
 done:=fun s Q E st hQ=>zB st.1 st.2.1 hd hf st.2.2 hdt hps hh (fun p v h' e=>by rw[Lv (b_ _)]at e;cases e) fun h' _ eb=>hQ h' s.toks fun b o hb e=>eb b o (fun z=>hb (by simp[z])) e
 self:=fun _ _ _ _ st hQ=>zg st.1 hQ
end
open PySem PyProof.Rows
variable {acc:Array Oy}
section
variable{prog:OI}{w:OK}{A:OP}{E:Oy->OB->Prop}{s:OB}
theorem Bo(h:Sn (fun i v=>vs[i]?=some v) acc vs.length):acc.toList=vs:=by
 refine Mn fun j=>?_;rw[r_];by_cases hj:j<vs.length
 ·have hja:j<acc.size:=by rw[h.1];exact hj
  have e:=k_ hja;rw[e];exact(h.2 j _ e).symm
 rw[KJ (by rw[h.1];omega),Lv (by omega)]
theorem B1(hp:ps.Perm (A' es.size))(h:Sn (fun i v=>∃p,ps[i]?=some p/\es[p]?.map (·.2)=some v) acc ps.length):acc.toList.Perm (es.toList.map (·.2)):=by
 have e:acc.toList=ps.filterMap fun p=>es[p]?.map fun(x:Int×Oy)=>x.2:=by
  have g:∀(qs:List Nat) (vs:List Oy),vs.length=qs.length->(∀(j:Nat) v,vs[j]?=some v->∃p:Nat,qs[j]?=some p/\es[p]?.map (fun(x:Int×Oy)=>x.2)=some v)->vs=qs.filterMap fun p=>es[p]?.map fun(x:Int×Oy)=>x.2:=by
   intro qs;induction qs with
   |nil=>exact fun vs l _=>J_ l
   |cons q qs ih=>
    intro vs l k
    match vs,l,k with
    |v::vs,l,k=>
     obtain⟨p,e1,e2⟩:=k 0 v rfl;cases e1;rw[List.filterMap_cons_some (f:=fun p=>Ma (fun(x:Int×Oy)=>x.2) es[p]?) e2,<-ih vs (LG l) fun j v e=>k (j+1) v e]
  exact g ps acc.toList (by rw[l_];exact h.1) fun j v e=>h.2 j v (by rw[<-r_];exact e)
 rw[e];refine(hp.filterMap _).trans ?_;have e2:(A' es.size).filterMap (fun p=>es[p]?.map (·.2))=((A' es.size).filterMap fun p=>es[p]?).map (·.2):=by rw[List.map_filterMap]
 rw[e2,filterMap_getElem?_range]
theorem BP(ho:s.heap.get? a=some o)(I:SI prog w o ks es ep t)(hh:A.handled=none)
  (h:∀(h1:OM) d (it:Oz) (fp:List Oz) (P:Nat->Oy->Prop) (St:Nat->OM->Prop),s.heap.objs.size<=it->it<h1.objs.size->(∀b u,s.heap.get? b=some u->h1.get? b=some u)->(∀b∈fp,b=a\/s.heap.objs.size<=b)->Wz prog w A it fp [it] es.size P St->St 0 h1->(∀acc,Sn P acc es.size->acc.toList.Perm (es.toList.map (·.2)))->Q (.ref it) {s with heap:=h1,drawn:=d}) :
  OE (OJ prog w) A (RJ (.ref a)) Q E s:=by
 have hT:s.TypeIs (.ref a) "set":=⟨o,ho,I.ex.1⟩;have lt:=OG ho;have hz:es.size<=sizeLine:=QR I.sm;refine Sd hT U4 (O5 U4 hT Ey ?_ (F.args_set_iter_1 _));unfold Pn.«frozenset.__iter__»;refine Ox ?_;unfold V6;refine Ox (OC (OC (Ox ?_)));unfold V3;refine Ox (RQ ho I.dat I.ft (OC (Ox ?_)));unfold setDrawn;refine Ox (QA ho I.dat I.ft (Ox (wp_text (OC ?_))));have plain:∀(vs:List Oy) (sl:Nat->Nat),sl 0=0->vs.Perm (es.toList.map (·.2))->Nx prog w a o ep vs sl->Q (.ref s.heap.objs.size) {s with heap:=s.heap.push { cls:=.type "set_iterator",data:=.fields #[.int 0 0,.int 0 0,.ref a,.int es.size 0,.int ep 0] } }:=fun vs sl h0 pm N=>by
  have ln:vs.length=es.size:=by rw[pm.length_eq,a_,l_]
  have W:=BE (A:=A) (it:=s.heap.objs.size) (j' lt) I.dat I.ft N hh;rw[ln]at W;refine h _ s.drawn _ _ _ _ (b_ _) (by rw[Pc];exact Mb _) (fun b u e=>OD _ e) (fun b hb=>?_) W ⟨F' _,⟨_,OF _ rfl,rfl,?_⟩,OD _ ho⟩ fun acc it=>?_
  ·rcases h_.mp hb with e|hb
   ·exact .inr (M4 e.symm)
   exact .inl (y_.mp hb)
  ·rw[h0]
   rfl
  rw[<-ln]at it;rw[Bo it];exact pm
 cases hb:bt w with
 |true=>
  refine Ox ?_;refine OC ?_;refine Ox (Se ho I.dat I.ft ?_);refine Ox (OU ?_);refine OC ⟨_,rfl,"set_iterator",_,⟨_,OF _ rfl,rfl⟩,j8.lookup,?_⟩;exact plain _ _ rfl ((qV _ _ _ _ (by rw[l_])).map _) (EO I hb)
 |false=>
  cases hdr:(!t.plain&&decide (es.size > 1))with
  |false=>
   refine Pg (fun z=>absurd (show(!false&&(!t.plain&&decide (es.size > 1)))=true from z) (by rw[hdr];simp)) fun _=>Ox (OC ?_)
   refine Ox (Se ho I.dat I.ft ?_);refine Ox (OU ?_);refine OC ⟨_,rfl,"set_iterator",_,⟨_,OF _ rfl,rfl⟩,j8.lookup,?_⟩;exact plain _ _ rfl (.refl _) (Cy I hb hdr)
  |true=>
   refine Pg (fun _=>?_) fun z=>absurd (show(!false&&(!t.plain&&decide (es.size > 1)))=true by rw[hdr];rfl) z
   refine Ox (zG _ _ (by rw[K_]) fun ys d pm=>?_);refine Ox (OU ?_ ?_);refine Ox (Se (OD _ ho) I.dat I.ft ?_);refine Ox (OU ?_);refine OC ⟨_,rfl,"set_iterator",_,⟨_,OF _ rfl,rfl⟩,j8.lookup,?_⟩
   ·have yl:ys.length=es.size:=by rw[pm.length_eq,K_]
    have hz2:∀x:Obj,(s.heap.push x).objs.size=s.heap.objs.size+1:=fun x=>Pc ..;have W:=Du (prog:=prog) (w:=w) (A:=A) (it:=s.heap.objs.size+1) (a:=a) (tp:=s.heap.objs.size) (j' (LW lt)) (j' (Mb _)) (ot:={ cls:=.type "tuple",data:=.seq (ys.map fun(j:Nat)=>Pl j).toArray}) I.dat I.ft rfl (fun p hp=>Lz.mp (pm.mem_iff.mp hp)) hh;rw[yl]at W;have e2:∀x y:Obj,y.isFreed=false->((s.heap.push x).push y).get? (s.heap.objs.size+1)=some y:=fun x y q=>by rw[<-hz2 x];exact OF _ q
    have r:=h ((s.heap.push { cls:=.type "tuple",data:=.seq (ys.map fun(j:Nat)=>Pl j).toArray}).push { cls:=.type "set_iterator",data:=.fields #[.ref s.heap.objs.size,.int 0 0,.ref a,.int es.size 0,.int ep 0] }) d (s.heap.objs.size+1) _ _ _ (LR _) (by rw[Pc,Pc];exact Mb _) (fun b u e=>OD _ (OD _ e)) (fun b hb=>?_) W ⟨⟨_,e2 _ _ rfl,rfl,rfl⟩,OD _ (OD _ ho),OD _ (OF _ rfl)⟩ fun acc it=>B1 pm (by rw[yl];exact it)
    ·rw[<-hz2]at r;exact r
    simp only[h_,Ld,or_false]at hb;rcases hb with e|e|e
    ·exact .inr (by rw[e];exact LR _)
    ·exact .inl e
    exact .inr (M4 e.symm)
   show _<=_;rw[i_,a_,pm.length_eq,K_];exact hz
end
open PySem PyProof.Rows
section
variable{prog:OI}{w:OK}{A:OP}{E:Oy->OB->Prop}{s:OB}
theorem B3{Q:Bool->OB->Prop}(hT:s.TypeIs (.ref a) "set")(h:Q false s):OE (OJ prog w) A (Qr (.ref a)) Q E s:=by
 unfold Qr;refine Ox (Q9 hT F.slot_set_len.lookup ?_);generalize hid:("set.__len__":String)=id0
 wp_delta
 rw[show splitId id0=some ("set","__len__")from by subst hid;rfl'];subst hid;refine Ox (Qj (T:="set") (b:=true) hT (by rw[RX];kernel_rfl) ?_);refine Pg (fun z=>absurd z (by decide)) fun _=>Pg (fun _=>Ox (Rf hT (OC h))) fun z=>absurd (by rfl') z
theorem F0{R:UM->OB->Prop}(ho:s.heap.get? a=some o)(I:SI prog w o ks es ep t)(hh:A.handled=none)(S:Oz)(hSa:S≠a)(res:Oy)(c₀:Nat)(hS:s.heap.get? S=some { cls:=.type "list",data:=.seq #[] c₀ })
  (hR:∀h' tk d acc c,(∀b u,b≠S->s.heap.get? b=some u->h'.get? b=some u)->h'.get? S=some { cls:=.type "list",dict:=none,data:=.seq acc c,slots:=#[] }->acc.toList.Perm (es.toList.map (·.2))->R (.ok (.ret res)) {s with heap:=h',drawn:=d,toks:=tk}) :
  OE (OJ prog w) A.in1 (Qs (.ref S) (.ref a) res) (fun fin s'=>match fin with | .done f=>R (.ok f) s' | .again c'=>c'.quiet=true/\Qx (OJ prog w) A c' R s') (fun e s'=>R (.error e) s') s:=by
 have hz:es.size<=sizeLine:=QR I.sm;have lS:=OG hS;unfold Qs;refine Ox (Rf (T:="set") ⟨o,ho,I.ex.1⟩ ?_);have h1:QK (.ref S) (.ref a)=false:=by simp[QK,hSa]
 have h2:(Pz "set" == Pz "list")=false:=by decide
 have h3:(Pz "set" == Pz "tuple")=false:=by decide
 simp only[h1,h2,h3,N6,mo,if_false];refine Ox (BP ho I hh fun h1 d it fp P St hit lf kp hfp W st pm=>?_);have hSf:S ∉ fp:=fun z=>(hfp S z).elim hSa fun z=>M6 z lS;have hSi:S≠it:=fun z=>by rw[z]at lS;exact M6 hit lS
 have key:∀(h:OM) (c₁:Nat) (tk:Nat),St 0 h->(∀b u,b≠S->h1.get? b=some u->h.get? b=some u)->h.get? S=some { cls:=.type "list",data:=.seq #[] c₁ }->Qx (OJ prog w) A (.builtin "list.extend.loop" ⟨[.ref S,.ref it,res],[]⟩) R {s with heap:=h,drawn:=d,toks:=tk}:=by
  intro h c₁ tk hst hk hS₁;refine Tu W.toS hz S hSf res es.size 0 _ #[] c₁ rfl (F' _) hst hS₁ (ItemsOf.nil _) fun s' acc' c' hm hS' hacc=>?_;rw[Moved.eq_with hm];refine hR s'.heap s'.toks d acc' c' (fun b u hb e=>hm.heap b u (fun z=>?_) (hk b u hb (kp b u e))) hS' (pm _ hacc);rcases h_.mp z with z|z
  ·exact hb z
  have:=OG e;rw[y_.mp z]at this;exact M6 hit this
 have hS₁:=kp _ _ hS;refine Ox (OS (B3 ⟨o,kp _ _ ho,I.ex.1⟩ ?_));refine Pg (fun _=>?_) (fun _=>OC ⟨Qf Si _,key _ c₀ _ st (fun b u _ e=>e) hS₁⟩);refine Ox (PQ ?_);refine Ox ?_;show OE _ _ (updateSeq S (·.push .none) >>= fun _=>updateSeq S (·.pop)) _ _ _;refine Ox (SS hS₁ rfl ?_);have hS₂:=O6 (O_ (·.push Pj)) hS₁ rfl;refine SS (hz:=by seq_fits) hS₂ rfl ?_;have hS₃:=O6 (O_ (·.pop)) hS₂ rfl;refine OC ⟨Qf Si _,key _ _ _ ?_ (fun b u hb e=>?_) hS₃⟩
 ·refine W.frame 0 _ _ st fun b hb u e=>?_;have hbS:b≠S:=fun z=>hSf (z▸hb);exact(P5 _ _ (Qv hbS)).trans ((P5 _ _ (Qv hbS)).trans e)
 exact(P5 _ _ (Qv hb)).trans ((P5 _ _ (Qv hb)).trans e)
theorem vE{Q:List Oy->OB->Prop}(ho:s.heap.get? a=some o)(I:SI prog w o ks es ep t)(hh:A.handled=none)
  (h:∀h' tk d (vs:List Oy),s.heap.objs.size<=h'.objs.size->(∀b u,s.heap.get? b=some u->h'.get? b=some u)->vs.Perm (es.toList.map (·.2))->Q vs {s with heap:=h',drawn:=d,toks:=tk}):OE (OJ prog w) A (T' (.ref a)) Q E s:=by
 unfold T';refine Ox (Te (PK Tf ?_));rw[Pq Tg _];show OE _ A.in1 (Wq [] >>= fun l=>again (.builtin "list.__iadd__" ⟨[l,.ref a],[]⟩)) _ _ s;refine Ox (OU ?_);refine OC ⟨Qf Rr _,PK Uh ?_⟩;rw[Pq Rr _];have hS:(s.heap.push { cls:=.type "list",data:=.seq ([]:List Oy).toArray}).get? s.heap.objs.size=some { cls:=.type "list",data:=.seq ([]:List Oy).toArray}:=OF _ rfl;have kw:s.heap.objs.size≠a:=LD (OG ho);have fin:∀(s':OB) (h':OM) (tk:Nat) (d:VF) (acc:Array Oy) (c:Nat),s'={s with heap:=h',drawn:=d,toks:=tk}->(∀b u,s.heap.get? b=some u->h'.get? b=some u)->h'.get? s.heap.objs.size=some { cls:=.type "list",dict:=none,data:=.seq acc c,slots:=#[] }->acc.toList.Perm (es.toList.map (·.2))->
   OE (OJ prog w) A (load s.heap.objs.size >>= fun o=>match o.data with
    | .seq xs _=>pure xs.toList
    | _=>Wk "internal:collect") Q E s':=fun s' h' tk d acc c es' kp e it=>by
  subst es';refine Ox (Sf e ?_);exact OC (h h' tk d _ (KR (OG e)) kp it)
 refine O4 (F0 (s:={s with heap:=s.heap.push { cls:=.type "list",data:=.seq ([]:List Oy).toArray} }) (R:=fun r s'=>∃(h':OM) (tk:Nat) (d:VF) (acc:Array Oy) (c:Nat),r=.ok (.ret (.ref s.heap.objs.size))/\s'={s with heap:=h',drawn:=d,toks:=tk}/\(∀b u,s.heap.get? b=some u->h'.get? b=some u)/\h'.get? s.heap.objs.size=some { cls:=.type "list",dict:=none,data:=.seq acc c,slots:=#[] }/\acc.toList.Perm (es.toList.map (·.2)))
  (OD _ ho) I hh s.heap.objs.size kw (.ref s.heap.objs.size) 0 hS (fun h' tk d acc c kp e it=>⟨h',tk,d,acc,c,rfl,rfl,fun b u eb=>kp b u (j' (OG eb)) (OD _ eb),e,it⟩)) (fun fn s' hf=>?_) (fun e s' hf=>?_)
 ·cases fn with
  |done f=>
   obtain⟨h',tk,d,acc,c,ef,es',kp,e,it⟩:=hf;cases ef;exact fin s' h' tk d acc c es' kp e it
  |again c'=>
   refine⟨hf.1,Qm hf.2 fun r s'' hr=>?_⟩;obtain⟨h',tk,d,acc,c,er,es',kp,e,it⟩:=hr;subst er;exact fin s'' h' tk d acc c es' kp e it
 obtain⟨_,_,_,_,_,ef,_⟩:=hf;cases ef
end
open PySem PyProof.Rows
section
variable{prog:OI}{w:OK}{A:OP}{R:UM->OB->Prop}{I:Oz}{fp wr:List Oz}{G:Array Uu->Array Uu->Prop}{n:Nat}{P:Nat->Oy->Prop}{St:Nat->OB->Prop}
theorem SG.at {h':OM}(x:SG prog w h a S m)(k:∀o,h.get? a=some o->h'.get? a=some o):SG prog w h' a S m:=by obtain⟨o,ks,es,ep,t,e,r⟩:=x;exact⟨o,ks,es,ep,t,k _ e,r⟩
theorem SG.congr {S':Int->Prop}(x:SG prog w h a S m)(k:∀z,S z↔S' z):SG prog w h a S' m:=by obtain⟨o,ks,es,ep,t,e,r,q⟩:=x;exact⟨o,ks,es,ep,t,e,r,fun z=>(q.1 z).trans (k z),q.2⟩
theorem D8(W:WalksS prog w A.in1 I fp wr G n P St)(S:Oz)(hSf:S ∉ fp)(val:Nat->Int)(hval:∀i v,P i v->∃t,v=.int (val i) t)(hb:n+1<scanBound) :
  ∀(k i:Nat) (s:OB),n-i=k->i<=n->St i s->SG prog w s.heap S (fun z=>∃j,j<i/\val j=z) i->(∀s',Moved (S::wr) G s s'->SG prog w s'.heap S (fun z=>∃j,j<n/\val j=z) n->R (.ok (.ret .none)) s')->Qx (OJ prog w) A (.builtin "set.update.loop" ⟨[.ref S,.ref I],[]⟩) R s:=by
 have hSw:S ∉ wr:=fun h=>hSf (W.sub _ h);have hsub:∀b∈wr,b∈S::wr:=fun b hb=>m_ _ hb;intro k;induction k with
 |zero=>
  intro i s hk hi hst hS hR;obtain rfl:i=n:=by omega
  refine PK SH ?_;rw[Pq Rq _];show OE _ A.in1 (Qh (.ref I) >>= _) _ _ s;refine Ox (W.done s _ _ hst fun s' hm=>?_);show OE _ A.in1 (ret Pj) _ _ s';exact OC (hR s' (hm.mono hsub) (hS.at fun o e=>hm.heap S _ hSw e))
 |succ k ih=>
  intro i s hk hi hst hS hR;have lf:i<n:=by omega
  refine PK SH ?_;rw[Pq Rq _];show OE _ A.in1 (Qh (.ref I) >>= _) _ _ s;refine Ox (W.item i s _ _ lf hst fun v s' hP hst' hm=>?_);obtain⟨t,rfl⟩:=hval i v hP;have hS':=hS.at (h':=s'.heap) fun o e=>hm.heap S _ hSw e;show OE _ A.in1 (QS [QT (val i) t] (setAdd S (.int (val i) t)) >>= _) _ _ s';refine Ox (OS ?_);unfold setAdd;refine OS (Ox ((QN prog w).pyHash (k:=val i) (TB _ _ _ _) ?_));refine add_int (s:={s' with toks:=s'.toks+1}) hS' (by omega) fun _ h' sb hS2=>?_
  have hSi:SG prog w h' S (fun z=>∃j,j<i+1/\val j=z) (i+1):=hS2.congr fun z=>⟨fun q=>q.elim (fun⟨j,a,b⟩=>⟨j,by omega,b⟩) fun e=>⟨i,by omega,e.symm⟩,fun⟨j,a,b⟩=>by
   by_cases c:j=i
   ·exact .inr (by rw[<-b,c])
   exact .inl ⟨j,by omega,b⟩⟩
  refine OC ⟨Qf Rq _,ih (i+1) _ (by omega) lf (W.frame _ s' _ _ hst' (LR _) fun b hb o e=>?_) hSi fun s'' hm'' hS''=>?_⟩
  ·rw[sb.2 b (fun h:b=S=>hSf (by rw[<-h];exact hb))];exact e
  refine hR s'' (Moved.trans W.gtrans ((hm.mono hsub).then_heap (LR _) fun b o hb e=>?_) hm'') hS'';rw[sb.2 b (fun h:b=S=>hb (by rw[h];exact x_))];exact e
end
section
variable{prog:OI}{w:OK}{A:OP}{E:Oy->OB->Prop}{s:OB}
abbrev nob(w:OK):Obj:={ cls:=.type "set",dict:=none,data:=.set #[] 0 (.fresh 0 0 (!bt w)) }
theorem Fd(a:Oy)(h:Q (.ref s.heap.objs.size) {s with heap:=s.heap.push (nob w) }):Qx (OJ prog w) A (.call (.builtin "set.__new__") ⟨[.type "set",a],[]⟩) (wants Q E) s:=by
 refine U5 ?_;show OE _ A.in1 (checkBuiltinCall "set.__new__" ⟨[.type "set",a],[]⟩ >>= fun _=>again (.builtin "set.__new__" ⟨[.type "set",a],[]⟩)) _ _ s;refine Ox (Q4 (F.newCall_set_1 a) (OC ⟨Qf U6 _,PK F.entry_set_new ?_⟩));rw[Pq U6 _];unfold Pn.«set.__new__» VC;have hsub:=sub_set_self;obtain⟨hp,g,d,tk,os⟩:=s;dsimp only
 wp_walk
 refine Sy (OC ?_);dsimp only;simp only[newObj];refine Ox (wpAny_alloc (OC ?_));exact OC h
theorem HW:SG prog w (h.push (nob w)) h.objs.size (fun _=>False) 0:=
 ⟨_,[],#[],0,_,OF _ rfl,⟨⟨rfl,rfl,rfl⟩,rfl,fun e he=>(nomatch he),.nil,LY,by decide,rfl,Dm _ _ _⟩,fun z=>⟨(nomatch ·),ON⟩,b_ _⟩
set_option maxHeartbeats 3200000 in
theorem Bn{l:Oz}{items:Array Oy}(hh:A.handled=none)(hl:s.heap.IsList l items)(hi:P1 items.toList ns)(hb:items.size+1<scanBound)
  (h:∀(h':OM) (tk:Nat),SG prog w h' s.heap.objs.size (fun z=>z∈ns) items.size->(∀b o,b<s.heap.objs.size->s.heap.get? b=some o->h'.get? b=some o)->Q (.ref s.heap.objs.size) {s with heap:=h',toks:=tk}) :
  OE (OJ prog w) A (call (.type "set") [.ref l]) Q E s:=by
 obtain⟨c,tl,hmro⟩:=QL.mro;have hmade:=QL.made;have hsub:=QL.sub;refine wpAny_call (U5 ?_);show OE _ _ (callAny (.type "set") _) _ _ _;refine OC ⟨Code.quiet_builtin _ (by rfl'),PK F.entry_type_call ?_⟩;rw[Around.under_plain (weight_type_call_type "set" [.ref l] []) rfl];have h1:=QL.notType;have h2:=QL.canCreate;have hct:=F.typeCall_set_1 (.ref l)
 repeat (any_goals (first|assumption|wp_step))
 refine Qm (Fd (.ref l) (E:=E) (Q:=fun obj s₁=>obj=.ref s.heap.objs.size/\s₁={s with heap:=s.heap.push (nob w) }) ⟨rfl,rfl⟩) fun r s₁ hr=>?_;cases r with
 |error e=>exact hr
 |ok fl=>
  cases fl with
  |ret obj=>
   obtain⟨rfl,rfl⟩:=hr;have hS:(s.heap.push (nob w)).get? s.heap.objs.size=some (nob w):=OF _ rfl;have hT:Shared.TypeIs {s with heap:=s.heap.push (nob w) } (.ref s.heap.objs.size) "set":=⟨_,hS,rfl⟩;have hli:=QL.init.lookup;have hbi:=QL.init.bind (.ref s.heap.objs.size)
   repeat (any_goals (first|assumption|wp_step))
   refine Qm (codeAny_call_builtin (R:=wants (fun r s₂=>r=.none/\∃h' tk,s₂={s with heap:=h',toks:=tk}/\SG prog w h' s.heap.objs.size (fun z=>z∈ns) items.size/\(∀b o,b<s.heap.objs.size->s.heap.get? b=some o->h'.get? b=some o)) E) QL.init.plain F.entry_set_init (check_set_init_1 hT ?_)) fun r₂ s₂ hr₂=>?_
   ·obtain⟨ol,hol,hcl,nl,hdl⟩:=hl;obtain⟨ocls,odict,odata,oslots⟩:=ol;simp only at hcl hdl;subst hcl;subst hdl;have hol':(s.heap.push (nob w)).get? l=some { cls:=.type "list",dict:=odict,data:=.seq items nl,slots:=oslots}:=OD _ hol;have hsls:=F.sub_list_set;have hslf:=F.sub_list_frozenset;have kw:(Pz "list" == Pz "dict")=false:=by decide
    have hl1:(s.heap.push (nob w)).IsList l items:=⟨_,hol',rfl,nl,rfl⟩;unfold Pn.«set.__init__» noKeywords Vo;generalize hPI:RJ=PI
    wp_walk
    subst hPI;refine PY hl1 ?_;refine Ox (Te ?_);have hlS:l<s.heap.objs.size:=OG hol;have hh3:A.in1.in1.in1.handled=none:=by simp[hh]
    have hneI:l≠(s.heap.push (nob w)).objs.size:=by rw[Pc];exact j' (LW hlS)
    have hSf:s.heap.objs.size ∉ [(s.heap.push (nob w)).objs.size,l]:=by rw[Pc];simp only[h_,y_,Ld,or_false,not_or];exact⟨j' (Mb _),LD hlS⟩
    have hval:∀(i:Nat) (v:Oy),items[i]?=some v->∃t,v=.int ((fun i=>ns.getD i 0) i) t:=fun i v hv=>IntsAre.int_at hi i v (by rw[r_];exact hv)
    refine D8 ((Ww hh3 _ l hneI items).toS) s.heap.objs.size hSf (fun i=>ns.getD i 0) hval hb (items.size-0) 0 _ (by omega) (F' _) ⟨⟨_,OF _ rfl,rfl,rfl⟩,(hl1.push _)⟩ ?hS0 ?hR
    case hS0=>exact(HW.at fun o e=>OD _ e).congr fun z=>⟨ON,fun⟨j,a,_⟩=>absurd a (by omega)⟩
    case hR=>
     intro s' hm hS';obtain⟨h',g',d',tk',os'⟩:=s';have eg:g'=s.gens:=hm.gens;have ed:d'=s.drawn:=hm.drawn;have eo:os'=s.os:=hm.os;subst eg;subst ed;subst eo;refine OC ?_;show OE _ _ (ret Pj) _ _ _;have nl:items.size=ns.length:=by rw[<-kT hi,l_]
     refine OC ⟨rfl,h',tk',rfl,hS'.congr fun z=>⟨fun⟨j,a,b⟩=>?_,fun q=>?_⟩,fun b o hb e=>?_⟩
     ·rw[<-b,E_,e_ (by omega)];exact KY _
     ·obtain⟨j,a,b⟩:=Lc.mp q;exact⟨j,by omega,by rw[E_,e_ a];exact b⟩
     refine hm.heap b o ?_ (OD _ (OD _ e));rw[Pc];simp only[h_,y_,Ld,or_false,not_or];exact⟨j' hb,j' (LW hb)⟩
   ·cases r₂ with
    |error e=>exact hr₂
    |ok fl₂=>
     cases fl₂ with
     |ret r=>
      obtain⟨rfl,h',tk,rfl,hS',hk'⟩:=hr₂
      repeat (any_goals (first|assumption|wp_step))
      exact h _ _ hS' hk'
     | _=>exact hr₂.elim
  | _=>exact hr.elim
end
open PySem PyProof.Rows
section
variable{prog:OI}{w:OK}{A:OP}{E:Oy->OB->Prop}{s:OB}
theorem nv:∀{vs:List Oy}{ns:List Int},P1 vs ns->vs.map ZS.jJ=ns/\∀v∈vs,∃i t,v=.int i t/\i∈ns
 | _,_,.nil=>⟨rfl,fun v h=>(nomatch h)⟩
 | _,_,.cons n t h=>by
  obtain⟨a,b⟩:=nv h;refine⟨by rw[c_,a];rfl,fun v hv=>?_⟩;rcases h_.mp hv with e|hv
  ·exact⟨n,t,e,.head _⟩
  obtain⟨i,u,e,m⟩:=b v hv;exact⟨i,u,e,.tail _ m⟩
end
end ZT
namespace L2
open PySem PySem.Spec PyProof.Rows
section
variable{X:Cx}
theorem Inv.drw {ac:List (Oz×Obj)}{s:OB}{σ:St}{H:Hp}{d:VF}(I:Inv X ac σ H s):Inv X ac σ H {s with drawn:=d}:=⟨I.ok,I.os,I.bare,I.base,I.loc,I.cell,I.free,I.freeC,I.pin,I.hok,I.len⟩
theorem BZ:∀{vs:List Oy}{ns:List Int},P1 vs ns->Vals (ns.map V.int) vs
 | _,_,.nil=>.nil
 | _,_,.cons n t h=>.cons ⟨t,rfl⟩ (BZ h)
end
end L2
namespace PL
open PySem PySem.Spec PyProof.Rows L2
def x8:PM
 | .lst true ts,[.int i],k=>(0<=i/\i<2 ^ 60)/\got (ts[i.toNat]?) fun t=>k (.lst true (ts.eraseIdx i.toNat)) t
 | _,_,_=>False
def D3:P2
 | .lst true [t],.int n,k=>(0<=n/\n<=100000)/\k (.lst true (z_ n.toNat (er t)))
 | _,_,_=>False
section
variable{X:Cx}{pos:Pos}{e:OL}{es:List OL}{fe:PF}{fr:PFs}{m:PM}{name:Str}{id:String}{apos lv spos xp yp kp vp p1 pos1:Pos}{x:Str}{κ:Nat->Bool}{kn:Nat}
theorem qR:∀{ts:List T}{vs:List V}{i:Nat}{t:T}{w:V},ts[i]?=some t->vs[i]?=some w->(zz ts vs).Perm ((t,some w)::zz (ts.eraseIdx i) (vs.eraseIdx i))
 | [],vs,i,t,w,e,f=>by simp at e
 |t::ts,[],i,_,w,e,f=>by simp at f
 |t::ts,v::vs,0,u,w,e,f=>by cases e;cases f;exact .refl _
 |t::ts,v::vs,i+1,u,w,e,f=>((qR (ts:=ts) (vs:=vs) (i:=i) e f).cons _).trans (.swap _ _ _)
theorem AH:MtP X "list.pop" x8:=by
 rintro ac s σ H x xs v us Q I rx r ⟨t,ts,Γ,k,l,rp,g,c⟩;unfold x8 at g;split at g
 ·rename_i k ts i;obtain⟨y,rfl⟩:=zz1 l rfl;obtain⟨⟨h0,h1⟩,g⟩:=g;obtain⟨t,et,kt⟩:=aE g;obtain⟨a,vs,ea,ha,la,ge⟩:=gW rp;cases ea;have hy:y=.int i:=aT (ge.perm ((s_ _ _ _).cons _ |>.trans (.swap _ _ _)));subst hy;have hi:i.toNat<ts.length:=(f_.mp et).1;obtain⟨w,ew⟩:=nW la et;refine Cf ac s σ H _ _ v us Q I rx r ⟨a,vs,i,i.toNat,w,rfl,rfl,ha,by omega,by omega,U_ h0 (by rw[<-la];omega),ew,c _ _ _ _ kt ?_⟩;have gl:Rp X.K H ((.bare,some (.ref a))::(zz ts vs++Γ)):=by
   have:Rp X.K H ((.int i,some (.int i))::((.bare,some (.ref a))::(zz ts vs++Γ))):=ge.perm (by refine u_ (.cons _ f') ?_;exact .swap _ _ _)
   exact this.tail
  have rp4:Rp X.K H ((.bare,some (.ref a))::(zz (ts.eraseIdx i.toNat) (vs.eraseIdx i.toNat)++((t,some w)::Γ))):=gl.perm (.cons _ (((qR et ew).append_right Γ).trans f'.symm));exact(iu rp4 (by rw[Nr,Nr,la]) Put.up).perm (.swap _ _ _)
 exact ON g
theorem zL{H:Hp}{t:T}{v:V}{Γ:Fm}(n:aU t=true):∀(k:Nat),Rp X.K H ((t,some v)::Γ)->Rp X.K H (zz (z_ k t) (z_ k v)++((t,some v)::Γ))
 |0,h=>h
 |k+1,h=>by have:=zL n k h;have h2:=kc (this.perm (f' (l₁:=zz (z_ k t) (z_ k v)))) n;exact h2.perm (.cons _ f'.symm)
theorem Cz:OpP X (PD .Mult) D3:=by
 rintro ac s σ H x y v u Q I rx ry ⟨tx,ty,Γ,k,rp,g,c⟩;unfold D3 at g;split at g
 ·rename_i k t n;rw[aT rp]at ry;obtain⟨a,vs,ea,ha,la,ge⟩:=gW rp.tail;cases ea;cases vs with
  |nil=>cases la
  |cons w vs=>
   cases vs with
   |cons _ _=>cases la
   |nil=>
    have gl:Rp X.K H ((t,some w)::Γ):=ge.tail;have rp4:=zL (aL t) n.toNat (lN gl);have rp5:Rp X.K H (zz (z_ n.toNat (er t)) (z_ n.toNat w)++Γ):=(rp4.perm f').tail;have sz:n.toNat<=sizeLine:=by rw[sizeLine_eq];omega
    refine Gv ac s σ H _ _ v u Q I rx ry ⟨a,n,[w],rfl,rfl,ha,by omega,by omega,by rw[Mw,Nat.one_mul];exact sz,fun p hp=>c _ _ _ g.2 ?_⟩;have ef:(z_ n.toNat [w]).flatten=z_ n.toNat w:=by
     generalize n.toNat=j;induction j with
     |zero=>rfl
     |succ j ih=>rw[KZ,LU,ih,KZ];rfl
    rw[ef];exact iN rp5 (by rw[Mv,Mv]) hp (cJ hp _) aO
 exact ON g
end
theorem bO{ts:List T}{i:Int}{k:T->T->Prop}:x8 (.lst true ts) [.int i] k=((0<=i/\i<2 ^ 60)/\fL (ts[i.toNat]?) (k:=⟨fun t=>k (.lst true (ts.eraseIdx i.toNat)) t⟩)):=rfl
theorem cW{t:T}{n:Int}{k:T->Prop}:D3 (.lst true [t]) (.int n) k=((0<=n/\n<=100000)/\k (.lst true (z_ n.toNat (er t)))):=rfl
end PL
namespace ZS
open PySem PyProof.Rows
variable {n:Nat}
theorem Cs(h:n<64):Tc n n 0=n:=by
 cases n with
 |zero=>rfl
 |succ n=>rw[VY,if_pos (by first|exact h|(show _<_;lia)|decide)]
def yb(rk:O9->Nat)(xs:Array O9):Prop:=(∀i j,i<j->j<xs.size->R rk xs i<R rk xs j)\/∀i j,i<j->j<xs.size->R rk xs j<R rk xs i
noncomputable def vO(rk:O9->Nat)(vs:List Oy):Prop:=vs.length<64\/(vs.length<=sizeLine/\(vs.Pairwise (fun x y=>rk (x,x)<rk (y,y))\/vs.Pairwise (fun x y=>rk (y,y)<rk (x,x))))
variable {Q:Option Nat->OW->Prop}{st:OW}
section
variable{M:Rk}{A:OP}{E:Oy->OB->Prop}{s:OB}{kd:Qd}{rk:O9->Nat}{S:O9->Prop}
theorem xt{q0:Nat}(L:lg M A E s kd rk S)(hk:kindOf st=kd)(hS:lB S st)(hsz:q0<=(OH st).size)(h2:2<=q0)(hs:∀i j,i<j->j<q0->R rk (OH st) j<R rk (OH st) i)(hr:∀x,OE M A (rule x) (fun _ s'=>s'=s) E s)
  (h:∀am,Within st am 0 q0->iy rk (OH am) 0 q0->Q (some q0) am):wpS M A E s (nk 0 1 q0) Q st:=by
 unfold nk;refine OV (Tv (O4 (hr _) (fun _ _ z=>⟨z,?_⟩) fun _ _ z=>z));dsimp only;refine OV (QY (Qe (I:=fun x c am=>am=st/\c=(none,x,0)) (Q:=fun c am=>am=st/\c=(none,q0,0)) ?_ ?_ ⟨rfl,rfl⟩) ?_)
 ·rintro x c ii hx1 hx2 ⟨rfl,rfl⟩;dsimp only;refine OV (iI L hk hS (by lia) (by lia) ?_);dsimp only;have w:=hs (x-1) x (by lia) hx2;rw[<-show 0+x-1=x-1 by lia]at w;rw[decide_eq_true (show R rk (OH ii) (0+x)<R rk (OH ii) (0+x-1) by rw[Lh]at w ⊢;exact w),if_pos rfl,if_neg (by decide)];exact Pa ⟨rfl,rfl⟩
 ·rintro c ii ⟨rfl,rfl⟩;rw[L' h2];exact⟨rfl,rfl⟩
 rintro c ii ⟨rfl,rfl⟩;dsimp only;rw[if_neg (by decide)];refine nJ L hk hS (by rw[Lh];exact hsz) (by lia) (b_ _) (fun i j ld hj=>?_) fun n am g1 g2 W o=>?_
 ·rw[Lh,Lh];rcases NG ld with rfl|l
  ·exact b_ _
  exact KR (hs i j l hj)
 have e:n=q0:=Me g2 g1;subst e;exact h am W o
theorem sH(L:lg M A E s kd rk S)(hk:kindOf st=kd)(hS:lB S st)(h1:1<=(OH st).size)(hr:∀x,OE M A (rule x) (fun _ s'=>s'=s) E s)(hm:yb rk (OH st))
  (h:∀am,Within st am 0 (OH st).size->iy rk (OH am) 0 (OH st).size->Q (some (OH st).size) am):wpS M A E s (R1 0 (OH st).size) Q st:=by
 have up:iy rk (OH st) 0 (OH st).size->wpS M A E s (R1 0 (OH st).size) Q st:=fun o=>u9 L hk hS (by rw[Lh];exact b_ _) h1 o (h st .gy o)
 rcases hm with m|m
 ·refine up fun i j ld hj=>?_;rw[Lh,Lh];rcases NG ld with rfl|l
  ·exact b_ _
  exact KR (m i j l hj)
 by_cases z:(OH st).size=1
 ·refine up fun i j ld hj=>?_;rw[show i=j by lia];exact b_ _
 generalize hq:(OH st).size=q0 at *;rw[D6];dsimp only;refine OV (QY (Qe (I:=fun x c am=>am=st/\c=(none,1)/\x=1) (Q:=fun c am=>am=st/\c=(none,1)) ?_ ?_ ⟨rfl,rfl,rfl⟩) ?_)
 ·rintro x c ii hx1 hx2 ⟨rfl,rfl,rfl⟩;dsimp only;refine OV (iI L hk hS (by lia) (by lia) ?_);dsimp only;rw[decide_eq_true (show R rk (OH ii) (0+1)<R rk (OH ii) (0+1-1)from m 0 1 (by decide) hx2),if_pos rfl];exact Pa ⟨rfl,rfl⟩
 ·rintro c ii ⟨rfl,rfl,e⟩;lia
 rintro c ii ⟨rfl,rfl⟩;dsimp only;rw[if_neg (by simpa using fun e=>z e.symm),if_neg (by decide)];exact xt L hk hS (by lia) (by lia) m hr h
theorem vX{sz:Nat}{Q:ForInStep LS->OW->Prop}(hp:Pb st=#[])(h:∀am,OH am=OH st->Qk am=Qk st->(Pb am).size<=1->Q (PJ (none,0+n)) am):wpS M A E s (tl sz 0 n) Q st:=by unfold tl;refine OV (Tb ?_);rw[hp];show wpS M A E s (u0 0 n) _ st;unfold u0;refine OV (U1 (Pa (h _ rfl rfl ?_)));show((Pb st).push _).size<=1;rw[hp];exact b_ _
theorem sr(hn:(OH st).size<64\/yb rk (OH st)){Q:Unit->OW->Prop}(L:lg M A E s kd rk S)(hS:∀p∈(OH st).toList,S p)(hr:∀x,OE M A (rule x) (fun _ s'=>s'=s) E s)(hk:kindOf st=kd)(hf:Qk st=none)(hp:Pb st=#[])
  (h:∀am,(OH am).Perm (OH st)->Qk am=none->Srt rk (OH am).toList->Q () am):wpS M A E s sortRuns' Q st:=by
 rw[Jb];refine OV (Tb ?_);refine OV (QY (Qe (I:=fun x c am=>(x=0/\c=(none,0)/\am=st)\/(c=(none,(OH st).size)/\(OH am).Perm (OH st)/\iy rk (OH am) 0 (OH st).size/\Qk am=none/\(Pb am).size<=1)) (Q:=fun c am=>c.1=none/\(OH am).Perm (OH st)/\iy rk (OH am) 0 (OH st).size/\Qk am=none/\(Pb am).size<=1) ?_ ?_ (.inl ⟨rfl,rfl,rfl⟩)) ?_)
 ·rintro x c ii _ hx (⟨rfl,rfl,rfl⟩|⟨rfl,g1,g2,g3,g4⟩)
  ·unfold mI;rw[if_neg (Nat.not_le.mpr hx),Ob];have fin:∀io:OW,Within ii io 0 (OH ii).size->iy rk (OH io) 0 (OH ii).size->∀jp,OH jp=OH io->Qk jp=Qk io->(Pb jp).size<=1->((none,0+(OH ii).size):LS)=(none,(OH ii).size)/\(OH jp).Perm (OH ii)/\iy rk (OH jp) 0 (OH ii).size/\Qk jp=none/\(Pb jp).size<=1:=fun io W o jp e1 e2 e3=>by rw[e1,e2,Lh];exact⟨rfl,W.kp.a,o,W.kp.f.trans hf,e3⟩
   rcases hn with hn|hm
   case inr=>
    refine OV (sH L hk hS hx hr hm fun io W1 o1=>?_);dsimp only;have mr:¬(OH ii).size<Tc (OH ii).size (OH ii).size 0:=MC.mpr (yO _ _ 0);rw[if_neg mr];exact vX (W1.kp.p.trans hp) fun st4 e1 e2 e3=>.inr (fin io W1 o1 st4 e1 e2 e3)
   rw[Cs hn,M5];refine OV (vD L hk hS (by rw[Lh];exact b_ _) hx hr fun n io g1 g2 W1 o1=>?_);dsimp only;by_cases w:n<(OH ii).size
   ·rw[if_pos w];refine OV (Tv (O4 (hr _) (fun _ _ z=>⟨z,?_⟩) fun _ _ z=>z));refine OV (E8 L (W1.kp.k.trans hk) (lB.kp hS W1.kp) (by rw[W1.kp.size,Lh];exact b_ _) (KR w) o1 fun jp W2 o2=>?_);rw[if_neg (by simp)];exact vX ((W1.trans W2).kp.p.trans hp) fun st4 e1 e2 e3=>.inr (fin jp (W1.trans W2) o2 st4 e1 e2 e3)
   rw[if_neg w];have e:n=(OH ii).size:=Me g2 (Lm w);rw[e]at o1 ⊢;exact vX (W1.kp.p.trans hp) fun st4 e1 e2 e3=>.inr (fin io W1 o1 st4 e1 e2 e3)
  unfold mI;rw[if_pos (b_ _)];exact Pa ⟨rfl,g1,g2,g3,g4⟩
 ·rintro c ii (⟨e,rfl,rfl⟩|⟨rfl,g1,g2,g3,g4⟩)
  ·exact⟨rfl,Nb _,fun i j _ hj=>by lia,hf,by rw[hp];exact F' _⟩
  exact⟨rfl,g1,g2,g3,g4⟩
 rintro⟨c,n⟩ ii ⟨rfl,g1,g2,g3,g4⟩;dsimp only;refine OV (QY (Qe (I:=fun x c am=>c=(none,())/\am=ii) (Q:=fun c am=>c=(none,())/\am=ii) ?_ (fun _ _ z=>z) ⟨rfl,rfl⟩) ?_)
 ·rintro x c io _ _ ⟨rfl,rfl⟩;unfold y8;refine OV (Tb ?_);rw[if_pos g4];exact Pa ⟨rfl,rfl⟩
 rintro c io ⟨rfl,rfl⟩;refine Pa (h io g1 g3 ?_);have:=C0 g2;rw[List.drop_zero,Mq (by rw[l_,g1.size_eq];exact b_ _)]at this;exact this
end
variable {S:O9->Prop}{rk:O9->Nat}{vs:List Oy}
section
variable{prog:OI}{w:OK}{A:OP}{E:Oy->OB->Prop}{s:OB}
theorem BA{kd:Qd}(h:vO rk vs):(OH (Sj kd (vs.toArray.zip vs.toArray) #[] 7 none)).size<64\/yb rk (OH (Sj kd (vs.toArray.zip vs.toArray) #[] 7 none)):=by
 have hl:(vs.toArray.zip vs.toArray).size=vs.length:=by rw[<-l_,kD,a_]
 have at':∀i (hi:i<vs.length),R rk (vs.toArray.zip vs.toArray) i=rk (vs[i],vs[i]):=fun i hi=>by
  unfold R;rw[<-r_,kD,p_,e_ hi]
  rfl
 show(vs.toArray.zip vs.toArray).size<64\/yb rk (vs.toArray.zip vs.toArray);rcases h with h|⟨_,h|h⟩
 ·exact .inl (by rw[hl];exact h)
 ·refine .inr (.inl fun i j ld hj=>?_);rw[hl]at hj;rw[at' i (by lia),at' j hj];exact LJ.mp h i j _ hj ld
 refine .inr (.inr fun i j ld hj=>?_);rw[hl]at hj;rw[at' i (by lia),at' j hj];exact LJ.mp h i j _ hj ld
theorem se{a:Oz}{kd:Qd}{P:PySem.Fin->OB->Prop}(ho:s.heap.get? a=some (Pd "list" vs.toArray n))(hn:vO rk vs)(hS:∀v∈vs,S (v,v))
  (kind:∀h',(∀b o,b≠a->s.heap.get? b=some o->h'.get? b=some o)->∀{Q:Qd->OB->Prop},vs≠[]->Q kd {s with heap:=h'}->OE (OJ prog w) A (Sw vs.toArray) Q E {s with heap:=h'})
  (lt:∀h',(∀b o,b≠a->s.heap.get? b=some o->h'.get? b=some o)->lg (OJ prog w) A E {s with heap:=h'} kd rk S)
  (h:∀(o:List Oy) c h',o.Perm vs->o.Pairwise (fun x y=>rk (x,x)<=rk (y,y))->(∀b u,b≠a->s.heap.get? b=some u->h'.get? b=some u)->h'.get? a=some (Pd "list" o.toArray c)->P (.done (.ret .none)) {s with heap:=h'}) :
  OE (OJ prog w) A (Pn.«list.sort» ⟨[.ref a],[]⟩) P E s:=by
 have hz:vs.length<=sizeLine:=hn.elim (fun h=>by rw[sizeLine_eq];lia) (·.1);rw[list_sort_plain];have ha:a<s.heap.objs.size:=OG ho;refine Ox (listItems_at ho rfl ?_);refine Ox (VD ho rfl ?_ (by rw[i_];exact hz) (F' _));obtain⟨e1,ho1⟩:∃e1,(s.heap.update a (O_ fun _=>(#[]:Array Oy))).get? a=some (Pd "list" #[] e1):=⟨_,U7 ho fun _=>#[]⟩;refine Ox (Wn ho1 rfl ?_);refine Ox (Vh ?_ hz);refine Ox (Q0 ?_ (F' _));refine OS ?_;have k2:∀b u,(s.heap.update a (O_ fun _=>(#[]:Array Oy))).get? b=some u->(((s.heap.update a (O_ fun _=>(#[]:Array Oy))).push (Pd "tuple" vs.toArray 0)).push (Pd "list" #[] 0)).get? b=some u:=fun b u e=>OD _ (OD _ e);have k3:∀b u,b≠a->s.heap.get? b=some u->(((s.heap.update a (O_ fun _=>(#[]:Array Oy))).push (Pd "tuple" vs.toArray 0)).push (Pd "list" #[] 0)).get? b=some u:=fun b u hb e=>k2 b u (by rw[Q7 _ _ _ _ hb];exact e)
 have ho6:=k2 _ _ ho1;show OE (OJ prog w) A _ P E {s with heap:=((s.heap.update a (O_ fun _=>(#[]:Array Oy))).push (Pd "tuple" vs.toArray 0)).push (Pd "list" #[] 0) };generalize ((s.heap.update a (O_ fun _=>(#[]:Array Oy))).push (Pd "tuple" vs.toArray 0)).push (Pd "list" #[] 0)=h1 at k3 ho6 ⊢;dsimp only;have fin:∀am:OW,(OH am).Perm (vs.toArray.zip vs.toArray)->Srt rk (OH am).toList->Qk am=none->OE (OJ prog w) A (do
   let touched:=(<-seqEpoch a) != e1
   V7 (.ref a) fun _=>(OH am).map (·.2)
   if let some e:=Qk am then rule "list.sort.comparison-raised";throw e
   if touched then rule "list.sort.modified";raiseError "ValueError" "list modified during sort"
   ret .none) P E {s with heap:=h1}:=fun am hp hs hf=>by
  have lp:(OH am).toList.Perm (vs.map fun v=>(v,v)):=by have:=MR.mp hp;rw[kD]at this;exact this
  have op:((OH am).toList.map (·.2)).Perm vs:=by have:=lp.map (·.2);rw[D_,show((fun x:O9=>x.2) ∘ fun v:Oy=>(v,v))=id from rfl,Nh]at this;exact this
  have tw:∀p∈(OH am).toList,p=(p.2,p.2):=fun p hp=>by obtain⟨v,_,e⟩:=n_.mp (lp.mem_iff.mp hp);rw[<-e]
  have osr:((OH am).toList.map (·.2)).Pairwise (fun x y=>rk (x,x)<=rk (y,y)):=by rw[I_];refine LM (fun{p q} hp hq hr=>?_) hs;rw[<-tw p hp,<-tw q hq];exact hr
  have os:((OH am).map (·.2)).size<=sizeLine+1:=by rw[<-l_,NU,op.length_eq];lia
  refine Ox (Wn ho6 rfl ?_);refine Ox (VD ho6 rfl ?_ (F' _) os);rw[hf];simp only[bne_self_eq_false,mo,if_false];obtain⟨c,hc⟩:∃c,(h1.update a (O_ fun _=>(OH am).map (·.2))).get? a=some (Pd "list" ((OH am).toList.map (·.2)).toArray c):=by have:=U7 ho6 fun _=>(OH am).map (·.2);rw[show((OH am).toList.map (·.2)).toArray=(OH am).map (·.2) by rw[<-NU]];exact⟨_,this⟩
  refine OC (h _ c _ op osr (fun b u hb e=>?_) hc);rw[Q7 _ _ _ _ hb];exact k3 b u hb e
 by_cases h2:vs.toArray.size<2
 ·rw[if_pos h2,if_pos h2];refine Ox (OC ?_);rw[StateT.run_pure];refine Ox (OC ?_);refine fin (Sj general' (vs.toArray.zip vs.toArray) #[] 7 none) (Nb _) ?_ rfl;show Srt rk (vs.toArray.zip vs.toArray).toList;rw[kD];have h3:vs.length<2:=h2;clear fin h lt kind hS ho
  match vs,h3 with
  | [],_=>exact .nil
  | [v],_=>exact LO _ _
  | _::_::_,h3=>exact absurd h3 (by rw[g_,g_];lia)
 rw[if_neg h2,if_neg h2];refine Ox (kind h1 k3 (fun z=>by rw[z]at h2;simp at h2) ?_);refine Ox (O4 (sr (BA hn) (st:=Sj kd (vs.toArray.zip vs.toArray) #[] 7 none) (Q:=fun _ am=>(OH am).Perm (vs.toArray.zip vs.toArray)/\Qk am=none/\Srt rk (OH am).toList) (lt h1 k3) (fun p hp=>?_) (fun x=>PQ rfl) rfl rfl rfl fun am a1 a2 a3=>⟨a1,a2,a3⟩) ?_ fun _ _ e=>e)
 ·rw[show(OH (Sj kd (vs.toArray.zip vs.toArray) #[] 7 none))=vs.toArray.zip vs.toArray from rfl,kD]at hp;obtain⟨v,hv,e⟩:=n_.mp hp;rw[<-e];exact hS v hv
 rintro⟨⟨⟩,am⟩ s' ⟨rfl,hp,hf,hs⟩;exact fin am hp hs hf
theorem BD{l:Oz}{kd:Qd}{Q:Oy->OB->Prop}(hl:s.heap.IsList l vs.toArray)(hn:vO rk vs)(hS:∀v∈vs,S (v,v))
  (kind:∀h',(∀b o,s.heap.get? b=some o->h'.get? b=some o)->∀{Q:Qd->OB->Prop}{E:Oy->OB->Prop},vs≠[]->Q kd {s with heap:=h'}->OE (OJ prog w) A.in1.in1 (Sw vs.toArray) Q E {s with heap:=h'})
  (lt:∀h' E,(∀b o,s.heap.get? b=some o->h'.get? b=some o)->lg (OJ prog w) A.in1.in1 E {s with heap:=h'} kd rk S)
  (h:∀(o:List Oy) a c h',o.Perm vs->o.Pairwise (fun x y=>rk (x,x)<=rk (y,y))->s.heap.objs.size<=a->(∀b u,s.heap.get? b=some u->h'.get? b=some u)->h'.get? a=some (Pd "list" o.toArray c)->Q (.ref a) {s with heap:=h'}) :
  OE (OJ prog w) A (call (.builtin "sorted") [.ref l]) Q E s:=by
 have hz:vs.length<=sizeLine:=hn.elim (fun h=>by rw[sizeLine_eq];lia) (·.1);refine QC Us T7 T8 (T9 _) ?_;unfold Pn.«sorted»;refine Ox (m:=U8 "sorted" 1 1 _) (OC ?_);refine Ox (collect_list hl ?_ hz);refine Ox (Q0 ?_ hz);have hsz:((s.heap.push (Pd "list" #[] 0)).update s.heap.objs.size (O_ (·++vs.toArray))).objs.size=s.heap.objs.size+1:=by rw[Heap.size_update,size_push']
 have hoL:(((s.heap.push (Pd "list" #[] 0)).update s.heap.objs.size (O_ (·++vs.toArray))).push (Pd "list" vs.toArray 0)).get? (s.heap.objs.size+1)=some (Pd "list" vs.toArray 0):=by rw[<-hsz];exact OF _ rfl
 have keep:∀b o,s.heap.get? b=some o->(((s.heap.push (Pd "list" #[] 0)).update s.heap.objs.size (O_ (·++vs.toArray))).push (Pd "list" vs.toArray 0)).get? b=some o:=fun b o q=>by have lf:b<s.heap.objs.size:=OG q;rw[Uk _ _ _ (by rw[hsz];exact j' (LW lf)),Q7 _ _ _ _ (j' lf),Uk _ _ _ (j' lf)];exact q
 show OE _ _ _ _ _ {s with heap:=((s.heap.push (Pd "list" #[] 0)).update s.heap.objs.size (O_ (·++vs.toArray))).push (Pd "list" vs.toArray 0) };rw[hsz];generalize ((s.heap.push (Pd "list" #[] 0)).update s.heap.objs.size (O_ (·++vs.toArray))).push (Pd "list" vs.toArray 0)=h1 at hoL keep ⊢;have ne:∀b o,s.heap.get? b=some o->b≠s.heap.objs.size+1:=fun b o e=>j' (LW (OG e));refine Ox (OS (O5 Ti ⟨_,hoL,rfl⟩ SV ?body (Tj _)))
 case body=>
  refine se (s:={s with heap:=h1}) (kd:=kd) (rk:=rk) (S:=S) hoL hn hS (fun h' k {Q} kw q=>kind h' (fun b o e=>k b o (ne b o e) (keep b o e)) kw q) (fun h' k=>lt h' _ fun b o e=>k b o (ne b o e) (keep b o e)) fun o c h' g1 g2 g3 g4=>?_;exact⟨_,rfl,OC ⟨_,rfl,h o _ c h' g1 g2 (LR _) (fun b u e=>g3 b u (ne b u e) (keep b u e)) g4⟩⟩
end
end ZS
namespace ZT
open PySem PyProof.Rows
section
variable{prog:OI}{w:OK}{A:OP}{E:Oy->OB->Prop}{s:OB}
theorem uz{a:Oz}{o:Obj}{ks:List Int}{es:Array (Int×Oy)}{ep:Nat}{t:Pm}{Q:Oy->OB->Prop}(ho:s.heap.get? a=some o)(I:SI prog w o ks es ep t)(hh:A.handled=none)(hn:ks.length<64)
  (h:∀(out:List Oy) (ms:List Int) p c h' tk d,P1 out ms->ms.Perm ks->ms.Pairwise (·<=·)->s.heap.objs.size<=p->(∀b u,s.heap.get? b=some u->h'.get? b=some u)->h'.get? p=some (Pd "list" out.toArray c)->Q (.ref p) {s with heap:=h',drawn:=d,toks:=tk}) :
  OE (OJ prog w) A (call (.builtin "sorted") [.ref a]) Q E s:=by
 refine QC Us T7 T8 (T9 _) ?_;unfold Pn.«sorted»;refine Ox (m:=U8 "sorted" 1 1 _) (OC ?_);refine Ox (vE ho I hh fun h0 tk d vs le k0 pm=>?_);obtain⟨ns,hI,kp⟩:=kR pm.symm I.rd;obtain⟨keys,each⟩:=nv hI;have hz:vs.length<=sizeLine:=by rw[pm.length_eq,a_,l_];exact QR I.sm
 have hn':vs.length<64:=by have:=kT I.rd;rw[a_,l_]at this;rw[pm.length_eq,a_,l_];omega
 refine Ox (Q0 ?_ hz);have hoL:(h0.push (Pd "list" vs.toArray 0)).get? h0.objs.size=some (Pd "list" vs.toArray 0):=OF _ rfl;have keep:∀b o,s.heap.get? b=some o->(h0.push (Pd "list" vs.toArray 0)).get? b=some o:=fun b o q=>OD _ (k0 b o q);show OE _ _ _ _ _ {s with heap:=h0.push (Pd "list" vs.toArray 0),drawn:=d,toks:=tk};have ne:∀b o,s.heap.get? b=some o->b≠h0.objs.size:=fun b o e=>j' (OG (k0 b o e));generalize h0.push (Pd "list" vs.toArray 0)=h1 at hoL keep ⊢;refine Ox (OS (O5 Ti ⟨_,hoL,rfl⟩ SV ?body (Tj _)))
 case body=>
  refine ZS.se (s:={s with heap:=h1,drawn:=d,toks:=tk}) (kd:=UI) (rk:=fun x=>ZS.rnk ZS.ltI ns (ZS.jJ x.1)) (S:=fun x=>x.1∈vs) hoL (.inl hn') (fun v hv=>hv) (fun h' k {Q} kw q=>?_) (fun h' k=>ZS.Bq fun x hx=>each _ hx) fun out c h' g1 g2 g3 g4=>?_
  ·obtain⟨v1,vs',ev⟩:=List.exists_cons_of_ne_nil kw;rw[ev]at hI ⊢;exact ZS.BO hI q
  obtain⟨ms,om,mp⟩:=kR g1.symm hI;have eo:=(nv om).1;refine⟨_,rfl,OC ⟨_,rfl,h out ms _ c h' tk d om (mp.symm.trans kp.symm) ?_ le (fun b u e=>g3 b u (ne b u e) (keep b u e)) g4⟩⟩;rw[<-eo,I_];refine LM (fun{x y} hx hy hxy=>?_) g2;by_cases z:ZS.jJ x<=ZS.jJ y
  ·exact z
  have:=ZS.mW ZS.JM (ks:=ns) (a:=ZS.jJ y) (b:=ZS.jJ x) (by rw[<-keys];exact v_ (g1.mem_iff.mp hy)) (decide_eq_true (by omega));exact absurd this (MC.mpr hxy)
end
end ZT
namespace L2
open PySem PySem.Spec PyProof.Rows
theorem sF{l m:List Int}(nd:l.Nodup)(h:∀z∈l,z∈m):l.length<=m.length:=by
 induction l generalizing m with
 |nil=>exact F' _
 |cons a l ih=>
  obtain⟨n1,n2⟩:=C_.mp nd;have hm:a∈m:=h a x_;have:=ih (m:=m.erase a) n2 fun z hz=>(Nt (fun e:z=a=>n1 (by rw[<-e];exact hz))).mpr (h z (m_ _ hz))
  rw[M7 hm]at this;have:=Ms hm;rw[g_];omega
variable {Q:Oy->OB->Prop}{a b:Oz}
section
variable{prog:OI}{w:OK}{κ:Type}[DecidableEq κ]{knd:UJ prog w κ}{A:OP}{E:Oy->OB->Prop}{s:OB}
theorem AA{nm:String}{xa xb:List (κ×Oz×Oy)}{Q:Bool->OB->Prop}(hu:knd.room A)(ha:(a == O0)=false)(hb:(b == O0)=false)
  (da:s.heap.DictOfH knd a xa) (db:s.heap.DictOfH knd b xb) (va:∀x∈xa,x.2.2=.bool true) (vb:∀x∈xb,x.2.2=.bool true)
  (h:Q (decide (xa.length=xb.length/\∀x∈xa,x.1∈xb.map (·.1))) s):OE (OJ prog w) A (S6 nm a b) Q E s:=by
 obtain⟨oa,es,ep,hoa,_,hda,hea,hia,hna⟩:=da;obtain⟨ob,es',ep',hob,_,hdb,heb,hib,hnb⟩:=db;have hla:es.size=xa.length:=U9 hea;have hlb:es'.size=xb.length:=U9 heb;unfold S6 RC;rw[if_neg (show ¬(a == O0)=true by rw[ha];exact KL),if_neg (show ¬(b == O0)=true by rw[hb];exact KL)];refine Ox (OC (Ox (OC ?_)));refine Ox (Pf hoa hda ?_);dsimp only;refine Ox (Pf hob hdb ?_);by_cases hsz:es.size=es'.size
 case neg=>
  rw[if_pos (by simpa using hsz)];rw[decide_eq_false fun z=>hsz (by rw[hla,hlb];exact z.1)]at h;exact Ox (PQ (OC h))
 have hl2:xa.length=xb.length:=by omega
 rw[if_neg (by rw[hsz];simp)];refine Ox (Q_ hoa hda ?_);refine Ox ?_;rw[TQ];simp only[Wt,Ob,Nat.add_sub_cancel,Nat.div_one];refine wpAny_forIn_list _
  (fun rest q s'=>s'=s/\q=(none,())/\∃i,rest=Oo i (es.size-i)/\i<=es.size/\∀x∈xa.take i,x.1∈xb.map (·.1))
  _ ?_ ?_ _ _ ⟨rfl,rfl,0,by simp,F' _,fun x m=>by cases m⟩
 ·rintro i rest q s' ⟨rfl,rfl,j,hr,hi,hpre⟩;have lf:j<es.size:=by
   rcases Oe j es.size with h|h
   ·exact h
   rw[Nat.sub_eq_zero_of_le h]at hr;simp at hr
  obtain⟨rfl,hrest⟩:i=j/\rest=Oo (j+1) (es.size-(j+1)):=by
   have e:es.size-j=(es.size-(j+1))+1:=by omega
   rw[e,NV]at hr;injection hr with h1 h2
   exact⟨h1,h2⟩
  refine Ox (Pf hoa hda ?_);obtain⟨⟨k,p,v⟩,hx⟩:∃x,xa[i]?=some x:=⟨_,e_ (by omega)⟩;have mx:=H_ hx;have hv:v=.bool true:=va _ mx;subst hv;rw[entry_at hea i,hx];show OE _ _ (QS [.ref p,.bool true] _ >>= _) _ _ _;have tk:xa.take (i+1)=xa.take i++[(k,p,.bool true)]:=by rw[KI,hx];rfl
  refine Ox (OS (Ox (TM hu (hia _ mx) hob hdb heb hib hnb (fun hno=>?_) (fun j y hj=>?_))))
  ·refine OC ?_;show OE _ _ (if(!false)=true then _ else _) _ _ _;rw[if_pos (by decide)];rw[decide_eq_false fun z=>?_]at h
   ·exact OC (OC h)
   obtain⟨⟨k2,y⟩,my,e⟩:=n_.mp (z.2 _ mx);obtain⟨j,hj⟩:=Nn.mp my;cases e;exact hno j y hj
  refine Ox (Pf hob hdb ?_);rw[entry_at heb j,hj];have hv:y.2=.bool true:=vb _ (H_ hj);refine OS ?_;show OE _ _ (eqBool (.bool true) y.2) _ _ _;rw[hv];refine(SJ (.bool true)) prog w _ _ ?_;show OE _ _ (if(!true)=true then _ else _) _ _ _;rw[if_neg (by decide)];refine Ox (Q_ hoa hda ?_);rw[if_neg (by simp)];refine OC ⟨rfl,rfl,i+1,hrest,lf,fun x m=>?_⟩;rw[tk]at m;rcases F_.mp m with m|m
  ·exact hpre x m
  rw[y_.mp m];exact n_.mpr ⟨_,H_ hj,rfl⟩
 rintro q s' ⟨rfl,rfl,i,hr,hi,hpre⟩;have hin:i=es.size:=by
  rcases Oe i es.size with h|h
  ·have e:es.size-i=(es.size-(i+1))+1:=by omega
   rw[e,NV]at hr;exact nomatch hr
  exact Me hi h
 refine OC ?_;rw[hin,hla,t_]at hpre;rw[decide_eq_true ⟨hl2,hpre⟩]at h;exact h
theorem DT{xa xb:List (κ×Oz×Oy)}(hr:knd.room A.in1)(ha:(a == O0)=false)(hb:(b == O0)=false)
  (da:s.heap.DictOfH knd a xa) (db:s.heap.DictOfH knd b xb) (va:∀x∈xa,x.2.2=.bool true) (vb:∀x∈xb,x.2.2=.bool true) (hu:A.units<cLine)
  (h:Q (.bool (decide (xa.length=xb.length/\∀x∈xa,x.1∈xb.map (·.1)))) s):OE (OJ prog w) A (OX .Eq (.ref a) (.ref b)) Q E s:=by
 refine wpAny_richCompare_same_room (op:=.Eq) da.typeIs db.typeIs TC (O5 TC da.typeIs PySem.F.entry_dict_eq ?_ (PySem.F.args_dict_eq_2 _ _)) hu;show OE _ _ (Sk "__eq__" ⟨[.ref a,.ref b],[]⟩ >>= _) _ _ s;refine Ox ?_;unfold Sk;refine Ox (Qy da.typeIs ?_);show OE _ _ (pure (OT a,OT b)) _ _ s;refine OC ?_;refine Ox (Qj (T:="dict") db.typeIs PySem.F.sub_dict_dict ?_);simp only[N8,mo,if_false];refine Ox (OC (Ox (OC ?_)));refine Ox (AA hr ha hb da db va vb ?_);refine OC ⟨_,rfl,?_,?_⟩
 ·exact fun x=>nomatch x
 simpa using h
theorem Cd{xa xb:List (κ×Oz×Oy)}{r:Bool}(e:r=true↔xa.length=xb.length/\∀x∈xa,x.1∈xb.map (·.1))(hr:knd.room A.in1)(ha:(a == O0)=false)(hb:(b == O0)=false)
  (da:s.heap.DictOfH knd a xa) (db:s.heap.DictOfH knd b xb) (va:∀x∈xa,x.2.2=.bool true) (vb:∀x∈xb,x.2.2=.bool true) (hu:A.units<cLine)
  (h:Q (.bool r) s):OE (OJ prog w) A (OX .Eq (.ref a) (.ref b)) Q E s:=by
 refine DT hr ha hb da db va vb hu ?_;rw[show decide (xa.length=xb.length/\∀x∈xa,x.1∈xb.map (·.1))=r from Nd.mpr ((decide_eq_true_iff).trans e.symm)];exact h
end
theorem yK{H:Hp}{l:List (List Key×V)}{m:List (List Key×Oz×Oy)}(h:KT H l m):l.map (·.1)=m.map (·.1)/\((∀p∈l,p.2=.bl true)->∀x∈m,x.2.2=.bool true):=by
 induction h with
 |nil=>exact⟨rfl,fun _ x m=>by cases m⟩
 |cons r t ih=>
  refine⟨by rw[c_,c_,ih.1,r.1],fun h x m=>?_⟩;rcases h_.mp m with rfl|m
  ·have e:=r.2.2;rw[h _ (.head _)]at e;exact e
  exact ih.2 (fun p mp=>h p (.tail _ mp)) x m
noncomputable def A0(a b:List (List Key)):Bool:=decide (a.length=b.length)&&a.all fun k=>b.any fun x=>decide (x=k)
theorem uh{a b:List (List Key)}:A0 a b=true↔a.length=b.length/\∀k∈a,k∈b:=by unfold A0;rw[G',decide_eq_true_iff,KW];refine and_congr_right fun _=>forall_congr' fun k=>imp_congr_right fun _=>?_;rw[Lu];exact⟨fun⟨x,m,e⟩=>of_decide_eq_true e▸m,fun m=>⟨k,m,decide_eq_true rfl⟩⟩
theorem Ee{X:Cx}{kr:Nat}(hr:Room kr X.A):OpR X (OX .Eq) (fun x y H Q=>∃a b ka kb,x=.ref a/\y=.ref b/\Rd H a (.dT ka)/\Rd H b (.dT kb)/\(∀p∈ka,p.2=.bl true)/\(∀p∈kb,p.2=.bl true)/\Q (.bl (A0 (ka.map (·.1)) (kb.map (·.1)))) H):=by
 intro ac s σ H x y v u Q I rx ry h;obtain⟨a,b,ka,kb,rfl,rfl,ha,hb,va,vb,q⟩:=h;cases rx;cases ry;obtain⟨_,sa,xa,ra,da⟩:=oq I.hok ha;obtain⟨_,sb,xb,rb,db⟩:=oq I.hok hb;have h1:=yK ra;have h2:=yK rb;have hu:=k8 hr;have e:A0 (ka.map (·.1)) (kb.map (·.1))=true↔xa.length=xb.length/\∀x∈xa,x.1∈xb.map (·.1):=by rw[uh,h1.1,h2.1,a_,a_];refine and_congr_right fun _=>⟨fun h x m=>h _ (n_.mpr ⟨x,m,rfl⟩),fun h k m=>?_⟩;obtain⟨x,m2,rfl⟩:=n_.mp m;exact h x m2
 exact Cd e (Qo hu) sa sb da db (h1.2 va) (h2.2 vb) (Nat.lt_of_succ_lt hu) ⟨.bl _,H,I,rfl,q⟩
end L2
namespace PL
open PySem PySem.Spec PyProof.Rows L2
def IJ:P2:=fun t u k=>∃o d o' d',t=.dT o d/\u=.dT o' d'/\(d.map (·.2)=d.map fun _=>T.bl true)/\(d'.map (·.2)=d'.map fun _=>T.bl true)/\k (.bl (A0 (d.map (·.1)) (d'.map (·.1))))
theorem qJ{K:OA}{H:Hp}{Γ:Fm}{d:List (List Key×T)}{vs:List (List Key×V)}(e:d.map (·.1)=vs.map (·.1))(h:d.map (·.2)=d.map fun _=>T.bl true)(rp:Rp K H (zz (d.map (·.2)) (vs.map (·.2))++Γ)):∀p∈vs,p.2=.bl true:=by
 have l:d.length=vs.length:=by rw[<-a_ (as:=d) (f:=(·.1)),e,a_]
 have h2:d.map (·.2)=(d.map fun _=>true).map T.bl:=by rw[h,D_];rfl
 rw[h2]at rp;have:=pF (by rw[a_,a_,a_,l]) rp;intro p m;have m2:p.2∈vs.map (·.2):=n_.mpr ⟨p,m,rfl⟩;rw[this]at m2;obtain⟨b,mb,e⟩:=n_.mp m2;obtain⟨_,_,rfl⟩:=n_.mp mb;exact e.symm
theorem zI{X:Cx}{kr:Nat}(hr:Room kr X.A):OpP X (OX .Eq) IJ:=.of (Ee hr) fun tx ty x y H Γ k Q rp g c=>by obtain⟨o,d,o',d',rfl,rfl,h1,h2,g⟩:=g;obtain⟨b,vs',rfl,hb,eb,rb⟩:=jE rp;obtain⟨a,vs,rfl,ha,ea,ra⟩:=jE rp.tail;rw[ea,eb]at g;exact⟨a,b,vs,vs',rfl,rfl,ha,hb,qJ ea h1 ra,qJ eb h2 rb,c _ _ _ g (cM rp.tail.tail fun _=>.bl)⟩
end PL
namespace ZS
open PySem PyProof.Rows
section
variable{prog:OI}{w:OK}{A:OP}{E:Oy->OB->Prop}{s:OB}
theorem tK{x:Oy}{vs:List Oy}{kd:Qd}{rk:O9->Nat}{S:O9->Prop}{Q:Oy->OB->Prop}(hz:vs.length<=sizeLine)(hm:vO rk vs)(hS:∀v∈vs,S (v,v))
  (coll:∀{Q':List Oy->OB->Prop}{E':Oy->OB->Prop},(∀h' tk,s.heap.objs.size<=h'.objs.size->(∀b u,s.heap.get? b=some u->h'.get? b=some u)->Q' vs {s with heap:=h',toks:=tk})->OE (OJ prog w) A.in1 (T' x) Q' E' s)
  (kind:∀h' tk,(∀b o,s.heap.get? b=some o->h'.get? b=some o)->∀{Q:Qd->OB->Prop}{E:Oy->OB->Prop},vs≠[]->Q kd {s with heap:=h',toks:=tk}->OE (OJ prog w) A.in1.in1 (Sw vs.toArray) Q E {s with heap:=h',toks:=tk})
  (lt:∀h' tk E,(∀b o,s.heap.get? b=some o->h'.get? b=some o)->lg (OJ prog w) A.in1.in1 E {s with heap:=h',toks:=tk} kd rk S)
  (h:∀(o:List Oy) a c h' tk,o.Perm vs->o.Pairwise (fun x y=>rk (x,x)<=rk (y,y))->s.heap.objs.size<=a->(∀b u,s.heap.get? b=some u->h'.get? b=some u)->h'.get? a=some (Pd "list" o.toArray c)->Q (.ref a) {s with heap:=h',toks:=tk}) :
  OE (OJ prog w) A (call (.builtin "sorted") [x]) Q E s:=by
 refine QC Us T7 T8 (T9 _) ?_;unfold Pn.«sorted»;refine Ox (m:=U8 "sorted" 1 1 _) (OC ?_);refine Ox (coll fun h0 tk le k0=>?_);refine Ox (Q0 ?_ hz);have hoL:(h0.push (Pd "list" vs.toArray 0)).get? h0.objs.size=some (Pd "list" vs.toArray 0):=OF _ rfl;have keep:∀b o,s.heap.get? b=some o->(h0.push (Pd "list" vs.toArray 0)).get? b=some o:=fun b o q=>OD _ (k0 b o q);show OE _ _ _ _ _ {s with heap:=h0.push (Pd "list" vs.toArray 0),toks:=tk};have ne:∀b o,s.heap.get? b=some o->b≠h0.objs.size:=fun b o e=>j' (OG (k0 b o e));generalize h0.push (Pd "list" vs.toArray 0)=h1 at hoL keep ⊢;refine Ox (OS (O5 Ti ⟨_,hoL,rfl⟩ SV ?body (Tj _)))
 case body=>
  refine se (s:={s with heap:=h1,toks:=tk}) (kd:=kd) (rk:=rk) (S:=S) hoL hm hS (fun h' k {Q} kw q=>kind h' tk (fun b o e=>k b o (ne b o e) (keep b o e)) kw q) (fun h' k=>lt h' tk _ fun b o e=>k b o (ne b o e) (keep b o e)) fun o c h' g1 g2 g3 g4=>?_;exact⟨_,rfl,OC ⟨_,rfl,h o _ c h' tk g1 g2 le (fun b u e=>g3 b u (ne b u e) (keep b u e)) g4⟩⟩
end
end ZS
namespace L2
open PySem PySem.Spec PyProof.Rows
def js(ks:List (List Int)):Prop:=ks.length<64\/ks.Pairwise (fun x y=>ZS.ltL x y=true)\/ks.Pairwise (fun x y=>ZS.ltL y x=true)
theorem rm{h:OM}{be:List Oy}{ks:List (List Int)}(f2:be.map (ZS.ju h)=ks)(hz:be.length<=sizeLine)(m:js ks):ZS.vO (fun x=>ZS.rnk ZS.ltL ks (ZS.ju h x.1)) be:=by
 subst f2;unfold js at m;rw[a_,I_,I_]at m;rcases m with m|m|m
 ·exact .inl m
 ·exact .inr ⟨hz,.inl (m.imp_of_mem fun{x y} hx hy e=>ZS.mW ZS.qD (v_ hx) e)⟩
 exact .inr ⟨hz,.inr (m.imp_of_mem fun{x y} hx hy e=>ZS.mW ZS.qD (v_ hy) e)⟩
section
variable{X:Cx}
theorem qB(hc:X.calm=true):cH X (.builtin "sorted") (fun xs H Q=>∃d kvs ks,xs=[.ref d]/\Rd H d (.dT kvs)/\kvs.map (·.1)=ks.map kI/\(∀k∈ks,k≠[])/\((kvs.map (·.1)).Nodup->js ks)/\∀zs ls,vj H zs ls->ls.Perm ks->ls.Pairwise (fun x y=>ZS.ltL y x=false)->(kvs.map (·.1)).Nodup->New (.lst zs) H Q):=by
 intro ac s σ H xs us Q I r h;obtain⟨d,kvs,ks,rfl,hd,ek,kw,hmo,q⟩:=h;obtain⟨u,rfl,ru⟩:=vals1 r;cases ru;obtain⟨z,lo,xs,kt,o,es,ep,g1,g2,g3,g4,g5⟩:=(show bC X.prog X.w H s.heap d (.dT kvs)from hd.ok I.hok);have hlen:xs.length=kvs.length:=(PH kt).symm;have hes:es.size=xs.length:=by rw[<-l_,g4,a_]
 have rel:∀(l:List Oz),Vals (l.map V.ref) (l.map OT):=fun l=>by
  induction l with
  |nil=>exact .nil
  |cons a t ih=>exact .cons rfl ih
 have rows:∀{lm:List (List Key×V)}{xs':List (List Key×Oz×Oy)}{ks':List (List Int)},KT H lm xs'->lm.map (·.1)=ks'.map kI->(∀k∈ks',k≠[])->oX X.K H ((xs'.map fun x=>x.2.1).map V.ref) ks':=fun{lm xs' ks'} k=>by
  induction k generalizing ks' with
  |nil=>
   intro e _;cases ks' with
   |nil=>exact .nil
   |cons a b=>simp at e
  |cons h t ih=>
   intro e hn;cases ks' with
   |nil=>simp at e
   |cons a b=>
    rw[c_,c_,Lj]at e;refine .cons ⟨hn a x_,_,rfl,SqT.of ?_⟩ (ih e.2 fun k hk=>hn k (m_ _ hk));rw[h.2.1,e.1,GB]
 have rowsH:∀{lm:List (List Key×V)}{xs':List (List Key×Oz×Oy)}{ks':List (List Int)},KT H lm xs'->lm.map (·.1)=ks'.map kI->QE (fun(v:Oy) (k:List Int)=>∃b,v=.ref b/\H b=some (.tup (k.map V.int))) ((xs'.map fun x=>x.2.1).map OT) ks':=fun{lm xs' ks'} k=>by
  induction k generalizing ks' with
  |nil=>
   intro e;cases ks' with
   |nil=>exact .nil
   |cons a b=>simp at e
  |cons h t ih=>
   intro e;cases ks' with
   |nil=>simp at e
   |cons a b=>
    rw[c_,c_,Lj]at e;refine .cons ⟨_,rfl,?_⟩ (ih e.2);rw[h.2.1,e.1,GB]
 have eqk:∀{lm:List (List Key×V)}{xs':List (List Key×Oz×Oy)},KT H lm xs'->lm.map (·.1)=xs'.map fun x=>x.1:=fun{lm xs'} k=>by
  induction k with
  |nil=>rfl
  |cons h t ih=>rw[c_,c_,ih,h.1]
 obtain⟨f1,f2⟩:=vx I (rel (xs.map fun x=>x.2.1)) (rows kt ek kw);obtain⟨be,eits⟩:∃be,be=(xs.map fun x=>x.2.1).map OT:=⟨_,rfl⟩;rw[<-eits]at f1 f2;have li:be.length=xs.length:=by rw[eits,a_,a_]
 refine ZS.tK (vs:=be) (kd:=Vl true) (rk:=fun x=>ZS.rnk ZS.ltL ks (ZS.ju s.heap x.1)) (S:=fun x=>x.1∈be) (by lia) (rm f2 (by lia) (hmo (by rw[eqk kt];exact g5))) (fun v hv=>hv)
  (fun{Q' E'} hq=>ZS.tL lo g1 g2 g3 (I.ok.hd hc) (by lia) fun h' tk acc le kp it=>?_)
  (fun h' tk kp {Q}{E} kw q=>ZS.vi (h0:=s.heap) (fun v hv=>(f1 v hv).1) (fun b o e _=>kp b o e) kw q)
  (fun h' tk E kp=>ZS.uG (h0:=s.heap) (ks:=ks) (fun x hx=>⟨(f1 _ hx).1,by rw[<-f2];exact v_ hx⟩) fun b o e _=>kp b o e) fun o a c h' tk op os ha kp e=>?_
 ·have hacc:acc.toList=be:=by
   rw[eits];refine Mn fun j=>?_;rw[r_,p_,p_];by_cases hj:j<es.size
   ·have hx:j<xs.length:=by lia
    have hja:j<acc.size:=by rw[it.1];exact hj
    have ha:acc[j]?=some acc[j]:=k_ hja;obtain⟨en,e1,e2⟩:=it.2 j _ ha;rw[ha,e2,e_ hx];rw[<-r_,g4,p_,e_ hx]at e1;cases e1
    rfl
   rw[KJ (by rw[it.1];lia),Lv (by lia)]
   rfl
  rw[hacc];exact hq h' tk le kp
 have mem:∀v∈o,v∈be:=fun v hv=>op.mem_iff.mp hv;have raw:∀v∈be,∃b,v=.ref b/\H b=some (.tup ((ZS.ju s.heap v).map V.int)):=fun v hv=>by
  obtain⟨i,hi,ev⟩:=Lc.mp hv;have h1:be[i]?=some v:=by rw[e_ hi,ev]
  have h2:ks[i]?=some (ZS.ju s.heap v):=by rw[<-f2,p_,h1];rfl
  have pr:=rowsH kt ek;rw[<-eits]at pr;exact oS pr i _ _ h1 h2
 have mk:∀(l:List Oy),(∀v∈l,v∈be)->∃zs,Vals zs l/\vj H zs (l.map (ZS.ju s.heap))/\zs.length=l.length:=by
  intro l;induction l with
  |nil=>exact fun _=>⟨[],.nil,.nil,rfl⟩
  |cons v t ih=>
   intro hl;obtain⟨zs,k1,k2,k3⟩:=ih fun v hv=>hl v (.tail _ hv);obtain⟨_,_,_,k4,_⟩:=f1 v (hl v (.head _));obtain⟨b,e,k5⟩:=raw v (hl v (.head _));exact⟨.ref b::zs,.cons e k1,.cons ⟨k4,b,rfl,k5⟩ k2,by rw[g_,g_,k3]⟩
 obtain⟨zs,k1,k2,k3⟩:=mk o mem;refine⟨.ref a,_,I.laid (t':=tk) kp ha (show bC X.prog X.w _ h' _ (.lst zs)from⟨by rw[k3,op.length_eq];lia,o,c,k1,e⟩),rfl,(q zs _ k2 ?_ ?_ (by rw[eqk kt];exact g5)).at (I.hok.fresh ha)⟩
 ·rw[<-f2];exact op.map _
 rw[I_];refine LM (fun{x y} hx hy hxy=>?_) os;cases z:ZS.ltL (ZS.ju s.heap y) (ZS.ju s.heap x)
 ·rfl
 have:=ZS.mW ZS.qD (ks:=ks) (by rw[<-f2];exact v_ (mem y hy)) z;exact absurd this (MC.mpr hxy)
theorem qA:cH X (.builtin "sorted") (fun xs H Q=>∃p ys ks,xs=[.ref p]/\SqL X.K H p ys/\oX X.K H ys ks/\js ks/\∀zs ls,oX X.K H zs ls->(∀v∈zs,v∈ys)->ls.Perm ks->ls.Pairwise (fun x y=>ZS.ltL y x=false)->New (.lst zs) H Q):=by
 intro ac s σ H xs us Q I r h;obtain⟨p,ys,ks,rfl,hq,hr,hmo,q⟩:=h;obtain⟨u,rfl,ru⟩:=vals1 r;cases ru;obtain⟨be,rv,pl,hz⟩:=I.list hq;have hlen:=rv.length;obtain⟨f1,f2⟩:=vx I rv hr;refine ZS.BD (kd:=Vl true) (rk:=fun x=>ZS.rnk ZS.ltL ks (ZS.ju s.heap x.1)) (S:=fun x=>x.1∈be) pl.isList (rm f2 (by lia) hmo) (fun v hv=>hv) (fun h' kp {Q}{E} kw q=>ZS.vi (h0:=s.heap) (fun v hv=>(f1 v hv).1) (fun b o e _=>kp b o e) kw q)
  (fun h' E kp=>ZS.uG (h0:=s.heap) (ks:=ks) (fun x hx=>⟨(f1 _ hx).1,by rw[<-f2];exact v_ hx⟩) fun b o e _=>kp b o e) fun o a c h' op os ha kp e=>?_
 have mem:∀v∈o,v∈be:=fun v hv=>op.mem_iff.mp hv;have mk:∀(l:List Oy),(∀v∈l,v∈be)->∃zs,Vals zs l/\oX X.K H zs (l.map (ZS.ju s.heap))/\zs.length=l.length/\∀v∈zs,v∈ys:=by
  intro l;induction l with
  |nil=>exact fun _=>⟨[],.nil,.nil,rfl,fun v hv=>(by cases hv)⟩
  |cons v t ih=>
   intro hl;obtain⟨zs,k1,k2,k3,k6⟩:=ih fun v hv=>hl v (.tail _ hv);obtain⟨_,b,e,k4,k5⟩:=f1 v (hl v (.head _));refine⟨.ref b::zs,.cons e k1,.cons ⟨k4,b,rfl,k5⟩ k2,by rw[g_,g_,k3],fun w hw=>?_⟩;rcases h_.mp hw with rfl|hw
   ·exact A9 rv (hl v (.head _)) e
   exact k6 w hw
 obtain⟨zs,k1,k2,k3,k6⟩:=mk o mem;refine⟨.ref a,_,I.laid (t':=s.toks) kp ha (show bC X.prog X.w _ h' _ (.lst zs)from⟨by rw[k3,op.length_eq];lia,o,c,k1,e⟩),rfl,(q zs _ k2 k6 ?_ ?_).at (I.hok.fresh ha)⟩
 ·rw[<-f2];exact op.map _
 rw[I_];refine LM (fun{x y} hx hy hxy=>?_) os;cases z:ZS.ltL (ZS.ju s.heap y) (ZS.ju s.heap x)
 ·rfl
 have:=ZS.mW ZS.qD (ks:=ks) (by rw[<-f2];exact v_ (mem y hy)) z;exact absurd this (MC.mpr hxy)
end
end L2
namespace PL
open PySem PySem.Spec PyProof.Rows L2
def m9:P1s
 | [.lst _ ts],k=>got (rowsOf ts) fun ks=>js ks/\k (.lst true ((vZ ks).map iT))
 | [.dT _ kvs],k=>∃ks,kvs.map (·.1)=ks.map kI/\(∀q∈ks,q≠[])/\(ks.Nodup->js ks/\k (.lst true ((vZ ks).map iT)))
 | _,_=>False
section
variable{X:Cx}
theorem il(hc:X.calm=true):ja X (.builtin "sorted") m9:=by
 rintro ac s σ H xs us Q I r ⟨ts,Γ,k,l,rp,g,c⟩;unfold m9 at g;split at g
 ·rename_i k o ts;obtain⟨x,rfl⟩:=zz1 l rfl;have rp:Rp X.K H ((.lst o ts,some x)::Γ):=rp;obtain⟨a,vs,rfl,hq,l2,ge⟩:=oJ rp;obtain⟨ks,ek,hmo,kt⟩:=aE g;obtain⟨et,ne⟩:=qI ek;subst et;obtain⟨rv,ex⟩:=vm ne l2 ge;refine qA ac s σ H _ us Q I r ⟨a,vs,ks,rfl,.inl hq,rv,hmo,fun zs ls rz mem pm sm p H' hp g' e'=>c _ _ _ kt ?_⟩;have es:ls=vZ ks:=tR ZS.qD pm sm;rw[<-es];have rH:=EU (fun v hv b eb xs hs=>by obtain⟨b',k',e1,e2⟩:=ex v (mem v hv);rw[eb]at e1;cases e1;rw[e2,I.kK hs (SqT.of e2)]) rz
  obtain⟨gl,l3⟩:=mw rH rp.tail;exact iN gl l3 hp g' e'
 ·rename_i k o kvs;obtain⟨x,rfl⟩:=zz1 l rfl;have rp:Rp X.K H ((.dT o kvs,some x)::Γ):=rp;obtain⟨a,vs,rfl,hq,ek,ge⟩:=jE rp;obtain⟨ks,e1,e2,kt⟩:=g;have nd':(vs.map (·.1)).Nodup->ks.Nodup:=fun nd=>by rw[<-ek,e1]at nd;exact(I_.mp nd).imp fun{a b} h z=>h (by rw[z])
  refine qB hc ac s σ H _ us Q I r ⟨a,vs,ks,rfl,hq,by rw[<-ek];exact e1,e2,(fun nd=>(kt (nd' nd)).1),fun zs ls rz pm sm nd p H' hp g' e'=>?_⟩;refine c _ _ _ (kt (nd' nd)).2 ?_;have es:ls=vZ ks:=tR ZS.qD pm sm;rw[<-es];obtain⟨gl,l3⟩:=mw rz rp.tail;exact iN gl l3 hp g' e'
 exact ON g
end
def Jo(t:T)[k:Th (T->Prop)]:Prop:=m9 [t] k.v
theorem aZ{t:T}{k:T->Prop}:m9 [t] k=Jo t (k:=⟨k⟩):=rfl
theorem tD{o:Bool}{kvs:List (List Key×T)}{ks:List (List Int)}{k:Th (T->Prop)}(e:kvs.map (·.1)=ks.map kI)(n:∀q∈ks,q≠[])(m:js ks)(q:k.v (.lst true ((vZ ks).map iT))):Jo (.dT o kvs) (k:=k):=⟨ks,e,n,fun _=>⟨m,q⟩⟩
end PL
namespace L2
open PySem PySem.Spec PyProof.Rows
section
variable{X:Cx}
theorem wg{e:OL}{te:TE}{p1 p2 pos1 lw:Pos}(hc:X.calm=true)(hg1:Gl X "sorted")(hm1:X.mg "sorted"=none)(hg2:Gl X "set")(hm2:X.mg "set"=none)(he:PE X e te)
  (hs1:OO [e] X.env=[(false,O1 e X.env)]:=by rfl) (hs2:OO [.Call (.Name "set" p2) [e] [] lw] X.env=[(false,O1 (.Call (.Name "set" p2) [e] [] lw) X.env)]:=by rfl) :
  PE X (.Call (.Name "sorted" p1) [.Call (.Name "set" p2) [e] [] lw] [] pos1) (fun σ H Q=>te σ H fun x H1=>∃l,∃ns:List Int,x=.ref l/\SqL X.K H1 l (ns.map V.int)/\(ns.length<4000/\∃bs:List Int,bs.length<64/\∀z∈ns,z∈bs)/\∀ms:List Int,ms.Pairwise (·<·)->(∀z,z∈ms↔z∈ns)->New (.lst (ms.map V.int)) H1 Q):=by
 intro ac s σ H Q I h;refine P_ (iO I hg1 hm1 boot_sorted (callWith_builtin1 ?_ (by rw[hs2];rfl) rfl));rw[hs2];refine P9 ?_;refine P_ (iO I hg2 hm2 boot_set (callWith_type1 ?_ (by rw[hs1];rfl) rfl));rw[hs1];refine P9 (thn (he ac s σ H _ I h) ?_);rintro u s1 ⟨x,H1,I1,r1,l,ns,ex,hl,⟨hz0,bs,hz,hbs⟩,q⟩;subst ex;cases r1;obtain⟨be,rv,pl,_⟩:=I1.list hl;have hI:=intsAre_of rv;have ln:=ZT.kT hI;refine OC (ZT.Bn (items:=be.toArray) (ns:=ns) (I1.ok.hd hc) pl.isList hI (by unfold scanBound;rw[i_];omega) fun h' tk SG kp=>?_);have k1:∀b o,s1.heap.get? b=some o->h'.get? b=some o:=fun b o e=>kp b o (OG e) e;have I2:Inv X ac σ H1 {s1 with heap:=h',toks:=tk}:=I1.kept (t':=tk) k1;obtain⟨o,ks,es,ep,t,ho,SI,mem,_⟩:=SG;refine OC (ZT.uz ho SI (I2.ok.hd hc) (Lb (sF SI.nd fun z m=>hbs z ((mem z).mp m)) hz) fun out ms p c h2 tk2 d om pm so le k2 e2=>?_);have hz2:ms.length<=16777216:=by have a:=SI.sm;have b:=ZT.kT SI.rd;rw[a_,l_]at b;rw[pm.length_eq];unfold scanBound at a;omega
 have I3:=(I2.drw (d:=d)).laid (a:=p) (o:=.lst (ms.map V.int)) (t':=tk2) k2 le (show bC X.prog X.w _ h2 _ (.lst (ms.map V.int))from⟨by rw[a_];exact hz2,out,c,BZ om,e2⟩);refine⟨.ref p,_,I3,rfl,(q ms ?_ fun z=>?_).at (I2.hok.fresh le)⟩
 ·have nd:=pm.nodup_iff.mpr SI.nd;exact(List.Pairwise.and so nd).imp fun⟨a,b⟩=>by omega
 rw[pm.mem_iff];exact mem z
end
end L2
namespace PL
open PySem PySem.Spec PyProof.Rows L2
section
variable{X:Cx}
def JW:T->(T->Prop)->Prop
 | .lst _ ts,k=>got (intsOf ts) fun ns=>(ns.length<4000/\∃bs:List Int,bs.length<64/\∀z∈ns,z∈bs)/\∀ms:List Int,ms.Pairwise (·<·)->(∀z,z∈ms↔z∈ns)->k (.lst true (ms.map T.int))
 | _,_=>False
theorem kZ{e:OL}{fe:PF}{p1 p2 pos1 lw:Pos}(hc:X.calm=true)(hg1:Gl X "sorted")(hm1:X.mg "sorted"=none)(hg2:Gl X "set")(hm2:X.mg "set"=none)(he:GE X e fe)
  (hs1:OO [e] X.env=[(false,O1 e X.env)]:=by rfl) (hs2:OO [.Call (.Name "set" p2) [e] [] lw] X.env=[(false,O1 (.Call (.Name "set" p2) [e] [] lw) X.env)]:=by rfl) :
  GE X (.Call (.Name "sorted" p1) [.Call (.Name "set" p2) [e] [] lw] [] pos1) (fUn JW fe):=by
 refine PE.imp (wg hc hg1 hm1 hg2 hm2 he hs1 hs2) ?_;rintro σ H Q ⟨env,Fr,k,rs,q,c⟩;refine⟨env,Fr,_,rs,q,fun t al v H1 q1 i'=>?_⟩;cases t <;> first|exact ON q1|skip
 obtain⟨ns,en,z,g⟩:=aE q1;have et:=jw en;subst et;obtain⟨a,vs,rfl,hq,l,rp⟩:=aD rfl i'.head;have ev:=jG l rp;subst ev;exact⟨a,ns,rfl,hq,z,fun ms h1 h2 p H' hp g' e=>c _ _ _ _ (g ms h1 h2) (.of i'.1 (iN (zH ms i'.drop.2) (by rw[a_,a_]) hp g' e))⟩
theorem dZ{o:Bool}{ts:List T}{k:T->Prop}:JW (.lst o ts) k=fL (intsOf ts) (k:=⟨fun ns=>(ns.length<4000/\∃bs:List Int,bs.length<64/\∀z∈ns,z∈bs)/\∀ms:List Int,ms.Pairwise (·<·)->(∀z,z∈ms↔z∈ns)->k (.lst true (ms.map T.int))⟩):=rfl
end
end PL
namespace Mp
open PySem L2
noncomputable def top(i:Nat):OY:=PySem.Challenge.pw_millpath_k26_coverings.main.body.getD i (.Pass ⟨0,0,0,0⟩)
abbrev jq:OY:=top 2
abbrev mV:OY:=top 4
abbrev sf:OY:=top 5
abbrev u7:OY:=top 6
abbrev jm:OY:=top 7
abbrev mX:OY:=top 8
abbrev sO:OY:=top 9
abbrev nP:OY:=top 11
abbrev iB:OY:=top 13
abbrev wW:OY:=top 14
abbrev wY:OY:=top 15
abbrev pJ:OY:=top 16
abbrev t6:OY:=top 17
abbrev nQ:OY:=top 19
abbrev jC:OY:=top 20
abbrev jo:OY:=top 22
abbrev oD:OY:=top 24
abbrev sY:OY:=top 25
abbrev Dx:OY:=top 26
abbrev ql:OY:=top 27
abbrev nO:OY:=top 28
abbrev xl:OY:=top 29
abbrev x9:OY:=top 30
abbrev nX:OY:=top 31
abbrev pE:OY:=top 32
abbrev mU:OY:=top 33
abbrev pS:OY:=top 34
abbrev lj:OY:=top 35
abbrev pD:OY:=top 36
abbrev nV:OY:=top 37
abbrev sD:OY:=top 38
abbrev kE:OY:=top 39
abbrev qf:OY:=top 40
abbrev lF:OY:=top 41
abbrev nq:OY:=top 42
abbrev kj:OY:=top 43
variable {kvs:List (Key×V)}
theorem uI{k:Key}{v:V}:iA ((k,v)::kvs) k=some v:=by
 unfold iA;rw[KQ,show(decide ((k,v).1=k))=true from decide_eq_true rfl]
 rfl
theorem rN{k k':Key}{v:V}(h:¬k=k'):iA ((k,v)::kvs) k'=iA kvs k':=by unfold iA;rw[KQ,show(decide ((k,v).1=k'))=false from decide_eq_false h]
theorem key_ne:¬((OZ (some ("cells":Str)):Key)=OZ (some ("turn":Str))):=by rfl'
noncomputable def stK(c:Oz)(t:Int):List (Key×V):=[(OZ (some ("cells":Str)),V.ref c),(OZ (some ("turn":Str)),V.int t)]
theorem vI(c:Oz)(t:Int):iA (stK c t) (OZ (some ("cells":Str)))=some (.ref c):=uI
theorem y9(c:Oz)(t:Int):iA (stK c t) (OZ (some ("turn":Str)))=some (.int t):=by unfold stK;rw[rN key_ne];exact uI
theorem GN(c:Oz)(t u:Int):putK (stK c t) (OZ (some ("turn":Str))) (.int u)=stK c u:=by
 have e:((stK c t).any fun kv=>decide (kv.1=(OZ (some ("turn":Str)):Key)))=true:=by rw[mf,y9];rfl
 unfold putK;rw[if_pos e];show [(if(OZ (some ("cells":Str)):Key)=OZ (some ("turn":Str))then _ else _),(if(OZ (some ("turn":Str)):Key)=OZ (some ("turn":Str))then _ else _)]=stK c u;rw[if_neg key_ne,if_pos rfl]
 rfl
structure StAt (H:Hp) (st c:Oz) (cs:List Int) (t:Int):Prop where
 d:H st=some (.dK (stK c t))
 l:H c=some (.lst (cs.map V.int))
 pos:0<cs.length
 len:cs.length<=63
variable {H:Hp}{cs:List Int}{st:Oz}
theorem StAt.ne {c:Oz}{t:Int}(S:StAt H st c cs t):st≠c:=yo S.d S.l (by intro z;cases z)
variable {H':Hp}
theorem StAt.same {c:Oz}{t:Int}(S:StAt H st c cs t)(e:dm H H'):StAt H' st c cs t:=⟨e _ _ S.d,e _ _ S.l,S.pos,S.len⟩
structure Txt (mg:Str->Option Oy):Prop where
 len:mg "len"=none
 list:mg "list"=none
 divmod:mg "divmod"=none
 isinstance:mg "isinstance"=none
 dict:mg "dict"=none
 tuple:mg "tuple"=none
 str:mg "str"=none
 int:mg "int"=none
 bool:mg "bool"=none
 all:mg "all"=none
 any:mg "any"=none
 zip:mg "zip"=none
 range:mg "range"=none
 max:mg "max"=none
 min:mg "min"=none
 abs:mg "abs"=none
 sum:mg "sum"=none
 sorted:mg "sorted"=none
 enumerate:mg "enumerate"=none
 set:mg "set"=none
 reversed:mg "reversed"=none
def Fh(K:OA):Sp:=fun vs H Q _=>∃(a:Oz) (ns:List Int),vs=[.ref a]/\SqL K H a (ns.map V.int)/\ns.length<=63/\∀(st c:Oz) (cs:List Int) (H':Hp),H st=none->H c=none->StAt H' st c cs 0->dm H H'->Q (.ref st) H'
def Hd:Sp:=fun vs H Q _=>∃(st c:Oz) (cs:List Int) (t m:Int),vs=[.ref st,.int m]/\StAt H st c cs t/\0<=t/\t<2 ^ 40/\0<m/\m<1073741824/\
 ∀(r:Int) (cs':List Int) (H':Hp),0<=r->r<m->StAt H' st c cs' (t+1)->Kp st c H H'->Q (.int r) H'
variable {f:Oz}{fd:OR}
section
variable{P:OI}{w:OK}{K:OA}{mg:Str->Option Oy}{base:OM}
theorem scB:FnScope ["_law_script","_law_cells"] ["_law_script"] (az oD):=⟨rfl,rfl,rfl,by rfl',rfl,by rfl',by rfl'⟩
theorem By(F:Fun K "_law_begin" "_law_begin" oD f fd)(T:Txt mg):FnOk P w K mg base CX0 1 f fd ["_law_script"] (Fh K):=by
 refine F.ok scB (fun vs H Q E h=>?_) (fun cdv A outer s H vs Q E hr h=>?_)
 ·obtain⟨a,ns,rfl,_⟩:=h
  rfl
 obtain⟨a,ns,rfl,hS,h63,q⟩:=h;have sc:=@scB;refine⟨_,(dw (jY (i:=1) sc.nd rfl (d_ rfl) (rR mh (by rfl) T.list (by rfl') (j3 (ux yS (pv 0) zx (yd fH)) lH)))
  (dw (BN (sS BC (pv 1) (Bf lH) (aN _)) (ml (jY (i:=1) sc.nd rfl (d_ rfl) (Bf (j3 fH lH)))) t9)
  (ml (sj (DK (vC lQ (pv 1) (vC lQ fH EI)) rfl rfl (by intro z;cases z) (by decide)))))),?_⟩
 refine⟨_,rfl,_,rfl,a,_,rfl,hS,fun p hp=>⟨p,_,rfl,.inl (SqL.of aO),fun l hl=>?_⟩⟩;obtain⟨zs,ez,lz⟩:∃zs:List Int,kx (ns.map V.int) none (some 63)=zs.map V.int/\zs.length<=63:=by refine⟨_,by unfold kx;rw[<-MT,<-MU],?_⟩;exact B' (List.length_take_le' _ _) (B' (by rw[KU];omega) h63)
 have hp0:H p=none:=hp;have hl0:H l=none:=(cJ hp _).none hl;have g1:dm H (upd (upd H p (.lst (kx (ns.map V.int) none (some 63)))) l (.lst (kx (ns.map V.int) none (some 63)))):=(cJ hp _).trans' (cJ hl _);refine⟨_,rfl,(by show 0<=sizeLine;decide),fun e he=>?_⟩;have hul:∀o,upd (upd (upd H p (.lst (kx (ns.map V.int) none (some 63)))) l (.lst (kx (ns.map V.int) none (some 63)))) e o l=some (.lst (zs.map V.int)):=fun o=>by rw[aG (cI aO he),aO,ez]
 have he0:H e=none:=g1.none he;have g2:=g1.trans' (cJ he (.lst []));refine⟨.lst (di zs),.lst (di []),uf (SqL.of (hul _)),uf (SqL.of aO),?_,_,rfl,?_⟩
 ·have:=k8 hr;rw[dpt,rT];exact this
 have fin:∀(c:Oz) (cs:List Int) (H2:Hp),H c=none->dm H H2->H2 c=some (.lst (cs.map V.int))->0<cs.length->cs.length<=63->∀p,H2 p=none->StAt (upd (upd H2 p (.dK [])) p (.dK (jU [] [(OZ (some ("cells":Str)),V.ref c),(OZ (some ("turn":Str)),V.int 0)]))) p c cs 0/\dm H (upd (upd H2 p (.dK [])) p (.dK (jU [] [(OZ (some ("cells":Str)),V.ref c),(OZ (some ("turn":Str)),V.int 0)]))):=fun c cs H2 hc g h1 h2 h3 p hp=>by
  have em:jU [] [((OZ (some ("cells":Str)):Key),V.ref c),(OZ (some ("turn":Str)),V.int 0)]=stK c 0:=by
   show putK (putK ([]:List (Key×V)) (OZ (some ("cells":Str))) (V.ref c)) (OZ (some ("turn":Str))) (V.int 0)=stK c 0;rw[vB _ (show iA ([]:List (Key×V)) (OZ (some ("cells":Str)))=none from rfl),Lr,vB _ (show iA [((OZ (some ("cells":Str)):Key),V.ref c)] (OZ (some ("turn":Str)))=none by rw[rN key_ne];rfl)]
   rfl
  rw[em,Fc];exact⟨⟨aO,by rw[aG (cI h1 hp)];exact h1,h2,h3⟩,g.trans' (cJ hp _)⟩
 refine Io (fun c=>?_) (fun c=>?_)
 ·
  refine⟨(by show 1<=sizeLine;decide),fun c7 h7=>?_⟩;have g3:=g2.trans' (cJ h7 (.lst [V.int 7]));intro p' hp';obtain⟨S,g4⟩:=fin c7 [7] _ (g2.none h7) g3 aO (by decide) (by decide) p' hp';refine⟨_,rfl,?_,[(OZ (some ("cells":Str)),V.ref c7),(OZ (some ("turn":Str)),V.int 0)],rfl,(by show 2<=15;decide),?_⟩
  ·exact aO
  exact q p' c7 [7] _ (g3.none hp') (g2.none h7) S g4
 have c0:0<zs.length:=by
  cases zs with
  |nil=>rw[kA]at c;cases c
  |cons a r=>exact L3 _
 intro p' hp';obtain⟨S,g4⟩:=fin l zs _ hl0 g2 (hul _) c0 lz p' hp';refine⟨_,rfl,?_,[(OZ (some ("cells":Str)),V.ref l),(OZ (some ("turn":Str)),V.int 0)],rfl,(by show 2<=15;decide),?_⟩
 ·exact aO
 exact q p' l zs _ (g2.none hp') hl0 S g4
theorem scT:FnScope ["_law_state","_law_many","_law_turn","_law_place","_law_cell","_law_digit","_law_mixed"] ["_law_state","_law_many"] (az sY):=⟨rfl,rfl,rfl,by rfl',rfl,by rfl',by rfl'⟩
theorem E2(F:Fun K "_law_take" "_law_take" sY f fd)(T:Txt mg):FnOk P w K mg base CX0 1 f fd ["_law_state","_law_many"] Hd:=by
 refine F.ok scT (fun vs H Q E h=>?_) (fun cdv A outer s H vs Q E hr h=>?_)
 ·obtain⟨st,c,cs,t,m,rfl,_⟩:=h
  rfl
 obtain⟨st,c,cs,t,m,rfl,S,ht0,ht,hm0,hm1,q⟩:=h;have sc:=@scT;have hu:=k8 hr;refine⟨_,(dw (jY (i:=2) sc.nd rfl (d_ rfl) (g9 qe (oF hu (pv 0) lQ (fun _ _=>rfl)) fH))
  (dw (DC hu (pv 0) lQ (pv 2) rfl)
  (dw (jY (i:=3) sc.nd rfl (d_ rfl) (g9 lM (pv 2) (pL lW (by rfl) T.len (by rfl') (j3 (oF hu (pv 0) lQ (fun _ _=>rfl)) lH))))
  (dw (jY (i:=4) sc.nd rfl (d_ rfl) (G1 zE (oF hu (pv 0) lQ (fun _ _=>rfl)) (pv 3) (fun _ _=>rfl)))
  (dw (BN (sS JH (pv 4) (g9 HL fH fH) (aN _)) (dw (B8 (pL vo (by rfl) T.divmod (by rfl') (j3 (pv 4) (j3 (pv 1) lH))) (Bx rfl (pI (Cq (oF hu (pv 0) lQ (fun _ _=>rfl)) (pv 3) set_list) (pI (ye (i:=5) sc.nd rfl (d_ rfl)) xN))))
  (ml (sj (pv 5)))) t9)
  (dw (jY (i:=6) sc.nd rfl (d_ rfl) (g9 lM (g9 lG (g9 qe (g9 qe (g9 lM (pv 4) fH) (g9 lG (g9 lG (pv 2) (pv 2)) fH)) fH) fH) fH))
  (dw (jY (i:=6) sc.nd rfl (d_ rfl) (g9 lM (g9 lG (pv 6) (pv 6)) fH))
  (ml (sj (g9 lM (g9 yR (g9 lM (g9 lG (g9 qe (pv 6) (g9 lG (pv 2) fH)) fH) fH) fH) (pv 1))))))))))),?_⟩
 have D0:nz H st (.str ("turn":Str)) (some (.int t)):=by rw[<-y9 c t];exact nz.k (k:=OZ (some ("turn":Str))) S.d
 refine⟨_,rfl,st,_,rfl,D0,_,_,rfl,rfl,?_⟩;have hP:zY H st (.str ("turn":Str)) (.int (t+1)) (upd H st (.dK (stK c (t+1)))):=by rw[<-GN c t (t+1)];exact zY.k (k:=OZ (some ("turn":Str))) S.d (by show 2<sizeLine;decide)
 refine⟨_,rfl,_,rfl,st,_,rfl,hP,?_⟩;have S1:StAt (upd H st (.dK (stK c (t+1)))) st c cs (t+1):=⟨aO,by rw[aG S.ne.symm];exact S.l,S.pos,S.len⟩;have K1:Kp st c H (upd H st (.dK (stK c (t+1)))):=fun b o e n1 n2=>by rw[aG n1];exact e
 generalize upd H st (.dK (stK c (t+1)))=H1 at S1 K1 ⊢;have D1:nz H1 st (.str ("cells":Str)) (some (.ref c)):=by rw[<-vI c (t+1)];exact nz.k (k:=OZ (some ("cells":Str))) S1.d
 have hl:(cs.map V.int).length=cs.length:=a_ _;have hpos:(0:Int)<(((cs.map V.int).length:Nat):Int):=by rw[hl];have:=S.pos;omega
 refine⟨_,rfl,_,rfl,st,_,rfl,D1,c,_,rfl,.inl (SqL.of S1.l),_,_,rfl,rfl,hpos,?_⟩;have j0:0<=(t+1)%(((cs.map V.int).length:Nat):Int):=MF _ (by omega);have j1:(t+1)%(((cs.map V.int).length:Nat):Int)<(cs.length:Int):=by have:=Mk (t+1) hpos;rw[hl]at this ⊢;exact this
 obtain⟨v,hat⟩:∃v:Int,atI (cs.map V.int) ((t+1)%(((cs.map V.int).length:Nat):Int))=some (.int v):=⟨_,Cp j0 j1⟩;refine⟨_,rfl,st,_,rfl,D1,_,rfl,c,_,_,_,rfl,rfl,SqL.of S1.l,hat,?_⟩;refine⟨_,rfl,_,_,rfl,rfl,⟨by decide,by decide,by decide⟩,_,_,rfl,rfl,_,rfl,?_⟩;refine Io (fun hc=>?_) (fun hc=>?_)
 ·
  refine⟨_,rfl,_,rfl,_,_,rfl,⟨hm0,hm1⟩,fun p hp=>?_⟩;have g:=cJ hp (.tup [.int (v/m),.int (v%m)]);have S2:=S1.same g;have D2:nz (upd H1 p (.tup [.int (v/m),.int (v%m)])) st (.str ("cells":Str)) (some (.ref c)):=by rw[<-vI c (t+1)];exact nz.k (k:=OZ (some ("cells":Str))) S2.d
  refine⟨p,_,rfl,SqT.of aO,rfl,_,_,rfl,?_⟩;refine⟨_,rfl,st,_,rfl,D2,_,rfl,c,_,_,((t+1)%(((cs.map V.int).length:Nat):Int)).toNat,rfl,rfl,S2.l,yx j0 (by rw[hl];rw[hl]at j1;exact j1),?_⟩;refine⟨_,_,rfl,rfl,?_⟩;refine⟨_,rfl,?_⟩;have es:∀j:Nat,(cs.map V.int).set j (.int (v/m))=(cs.set j (v/m)).map V.int:=fun j=>by rw[List.map_set]
  refine q (v%m) (cs.set ((t+1)%(((cs.map V.int).length:Nat):Int)).toNat (v/m)) _ (MF _ (by omega)) (Mk _ hm0) ⟨?_,?_,?_,?_⟩ ?_
  ·rw[aG S2.ne];exact S2.d
  ·rw[aO,es]
  ·rw[KG];exact S.pos
  ·rw[KG];exact S.len
  intro b o e n1 n2;rw[aG n2];exact g b o (K1 b o e n1 n2)
 
 have mulR:∀(x y:Int),-(2 ^ 64)<y->y<2 ^ 64->wU x y:=fun x y h1 h2=>.inr ⟨h1,h2⟩;refine⟨_,rfl,_,_,rfl,rfl,(by show(0:Int)<2147483629;decide),_,rfl,_,rfl,_,_,rfl,rfl,mulR _ _ (by omega) (by omega),_,_,rfl,rfl,mulR _ _ (by decide) (by decide),_,_,rfl,rfl,_,_,rfl,rfl,_,_,rfl,rfl,mulR _ _ (by decide) (by decide),_,_,rfl,rfl,(by show(0:Int)<2147483647;decide),?_⟩;generalize hM:(v%2147483629+(t+1)*(t+1)*7919+11)*48271%2147483647=M;have m0:0<=M:=by rw[<-hM];exact MF _ (by decide)
 have m1:M<2147483647:=by rw[<-hM];exact Mk _ (by decide)
 refine⟨_,rfl,_,rfl,_,_,rfl,rfl,mulR _ _ (by omega) (by omega),_,_,rfl,rfl,(by show(0:Int)<2147483587;decide),?_⟩;refine⟨_,rfl,_,rfl,_,_,rfl,rfl,mulR _ _ (by decide) (by decide),_,_,rfl,rfl,_,_,rfl,rfl,mulR _ _ (by decide) (by decide),_,_,rfl,rfl,(by show(0:Int)<2147483629;decide),_,_,rfl,rfl,⟨by decide,by decide⟩,_,rfl,_,_,rfl,rfl,hm0,?_⟩;exact q _ cs H1 (MF _ (by omega)) (Mk _ hm0) S1 K1
end
open PySem L2 PL
structure Cells where
 cs:List Int
 pos:0<cs.length
 len:cs.length<=63
noncomputable def stT(c:Cells)(n:Nat):T:=.dK true [(OZ (some ("cells":Str)),.lst true (c.cs.map T.int)),(OZ (some ("turn":Str)),.int (n:Int))]
variable {n:Nat}
theorem fm{c:Cells}:isAny (stT c n)=false:=rfl
def Scr(K:OA)(t:T)(ns:List Int):Prop:=t=.lst false (ns.map T.int)\/∃a,t=.hole (.ref a)/\∀H,SqL K H a (ns.map V.int)
def sI(K:OA):FP:=fun ts k=>∃t,∃ns:List Int,ts=[t]/\Scr K t ns/\ns.length<=63/\∀c,k (stT c 0) ts
def kq:FP:=fun ts k=>∃c n m,ts=[stT c n,.int m]/\n<2 ^ 40/\0<m/\m<1073741824/\∀r c',0<=r->r<m->k (.int r) [stT c' (n+1),.int m]
variable {Γ:Fm}{α β:Type}
section
variable{P:OI}{w:OK}{K:OA}{mg:Str->Option Oy}{base:OM}
theorem Hi{l:List (α×β)}{a b:α}(h:[a,b]=l.map (·.1)):∃v w,l=[(a,v),(b,w)]:=by
 cases l with
 |nil=>cases h
 |cons x l=>
  cases l with
  |nil=>cases h
  |cons y l=>
   cases l with
   |nil=>
    have h1:=(Lg h).1;have h2:=(Lg (Lg h).2).1;exact⟨x.2,y.2,by rw[h1,h2]⟩
   |cons z l=>cases (Lg (Lg h).2).2
theorem vf{a:Oz}{o:HO}(h:H a=some o):Put H a o H:=⟨h,fun _ _=>rfl⟩
theorem IP{c:Cells}{v:V}(h:Rp K H ((stT c n,some v)::Γ)):∃st l,v=.ref st/\StAt H st l c.cs n/\Rp K H ((.bare,some (.ref st))::(.bare,some (.ref l))::Γ):=by
 obtain⟨st,kvs,ev,hs,ek,h2⟩:=pW h;cases ev;obtain⟨v1,v2,rfl⟩:=Hi ek;have h2:Rp K H ((.bare,some (.ref st))::(.lst true (c.cs.map T.int),some v1)::(.int (n:Int),some v2)::Γ):=h2;have e2:v2=.int n:=aT h2.tail.tail;subst e2;have h3:=h2.perm (.swap _ _ _);obtain⟨l,vs,el,hl,ll,h4⟩:=gW h3;cases el;have ev:vs=c.cs.map V.int:=jG ll h4.tail;subst ev;refine⟨st,l,rfl,⟨hs,hl,c.pos,c.len⟩,?_⟩;have h5:Rp K H ((.bare,some (.ref l))::(.bare,some (.ref st))::(.int (n:Int),some (.int n))::Γ):=by have:Rp K H (zz (c.cs.map T.int) (c.cs.map V.int)++((.bare,some (.ref l))::(.bare,some (.ref st))::(.int (n:Int),some (.int n))::Γ)):=h4.perm f'.symm;exact this.part
 exact(h5.perm (by refine u_ (.cons _ (.swap _ _ _)) ?_;refine u_ (.swap _ _ _) ?_;exact .cons _ (.swap _ _ _))).tail
theorem uB{H:Hp}{Γ:Fm}:∀(ns:List Int),Rp K H Γ->Rp K H (zz (ns.map T.int) (ns.map V.int)++Γ)
 | [],h=>h
 |n::r,h=>cM (uB r h) fun _=>.int
theorem Bb{l:Oz}(S:StAt H st l cs n)(h:Rp K H ((.bare,some (.ref st))::(.bare,some (.ref l))::Γ)):∃c,Rp K H ((stT c n,some (.ref st))::Γ):=by
 refine⟨⟨cs,S.pos,S.len⟩,?_⟩;have h1:Rp K H ((.bare,some (.ref l))::(zz (cs.map T.int) (cs.map V.int)++((.bare,some (.ref st))::Γ))):=(uB cs (h.perm (.swap _ _ _))).perm f';have h2:=iu h1 (by rw[a_,a_]) (vf S.l);have h3:Rp K H ((.bare,some (.ref st))::((.lst true (cs.map T.int),some (.ref l))::(.int (n:Int),some (.int n))::Γ)):=by refine(cM (t:=.int (n:Int)) h2 fun _=>.int).perm ?_;refine u_ (.swap _ _ _) ?_;refine u_ (.cons _ (.swap _ _ _)) ?_;exact .swap _ _ _
 exact qO (ts:=[(OZ (some ("cells":Str)),.lst true (cs.map T.int)),(OZ (some ("turn":Str)),.int (n:Int))]) (vs:=stK l n) h3 rfl (vf S.d)
theorem J8{a c:Oz}(h:Rp K H ((.bare,some (.ref a))::(.bare,some (.ref c))::Γ))(k:Kp a c H H')(ha:∃u,H' a=some u/\∀xs,u≠.tup xs)(hc:∃u,H' c=some u/\∀xs,u≠.tup xs):Rp K H' ((.bare,some (.ref a))::(.bare,some (.ref c))::Γ):=by
 obtain⟨ua,ea,na⟩:=ha;obtain⟨uc,ec,nc⟩:=hc;obtain⟨Hz,N,h,nd,g,d⟩:=h;cases h with
 |cons e1 h1 c1=>
  cases c1 with
  |cons e2 h2 c2=>
   rcases h1 with⟨z,_⟩|⟨v1,ev1,h1⟩
   ·cases z
   rcases h2 with⟨z,_⟩|⟨v2,ev2,h2⟩
   ·cases z
   cases ev1;cases ev2;cases h1;cases h2;rename_i M u1 hu1 nt1 u2 hu2 nt2;subst e2;subst e1;have nd':(a::c::M).Nodup:=nd;rw[C_,C_]at nd';have keep:∀b o,H b=some o->b≠a->b≠c->H' b=some o:=k;have tk:TK H H':=fun b xs r=>keep b _ r (fun z=>nt1 xs (z▸r)) (fun z=>nt2 xs (z▸r));have za:Hz a=none:=d a x_;have zc:Hz c=none:=d c (m_ _ x_);have g':Gr Hz H':=fun b u r=>by
    obtain⟨w',q⟩:=Rd.some r;have b1:b≠a:=fun z=>by rw[z,za]at q;cases q
    have b2:b≠c:=fun z=>by rw[z,zc]at q;cases q
    rcases g b u r with r|⟨o,r⟩
    ·exact .inl (keep b _ r b1 b2)
    exact .inr ⟨o,keep b _ r b1 b2⟩
   refine⟨Hz,[a]++([c]++M),.cons rfl (.inr ⟨_,rfl,.bare ea fun xs z=>?_⟩) (.cons rfl (.inr ⟨_,rfl,.bare ec fun xs z=>?_⟩) (c2.move tk .gy fun b m u e=>?_)),nd,g',d⟩
   ·rw[ea]at z;exact na xs (C' z)
   ·rw[ec]at z;exact nc xs (C' z)
   have b1:b≠a:=fun z=>nd'.1 (by rw[<-z];exact m_ _ m)
   have b2:b≠c:=fun z=>nd'.2.1 (by rw[<-z];exact m)
   exact⟨keep b u e b1 b2,fun nt xs r=>nt xs (by rw[keep b u e b1 b2]at r;exact e.trans r)⟩
theorem E4{a c:Oz}(h:Rp K H Γ)(ha:H a=none)(hc:H c=none)(ne:a≠c)(s:dm H H')(ea:∃u,H' a=some u/\∀xs,u≠.tup xs)(ec:∃u,H' c=some u/\∀xs,u≠.tup xs):Rp K H' ((.bare,some (.ref a))::(.bare,some (.ref c))::Γ):=by
 obtain⟨ua,ea,na⟩:=ea;obtain⟨uc,ec,nc⟩:=ec;obtain⟨Hz,N,h,nd,g,d⟩:=h;have n1:a ∉ N:=fun m=>by obtain⟨⟨u,e⟩,_⟩:=h.there a m;rw[ha]at e;cases e
 have n2:c ∉ N:=fun m=>by obtain⟨⟨u,e⟩,_⟩:=h.there c m;rw[hc]at e;cases e
 refine⟨Hz,[a]++([c]++N),.cons rfl (.inr ⟨_,rfl,.bare ea fun xs z=>?_⟩) (.cons rfl (.inr ⟨_,rfl,.bare ec fun xs z=>?_⟩) (h.move (dm.tk s) .gy fun b m u e=>jy s b u e)),?_,g.trans (.of s),?_⟩
 ·rw[ea]at z;exact na xs (C' z)
 ·rw[ec]at z;exact nc xs (C' z)
 ·show(a::c::N).Nodup;rw[C_,C_];exact⟨fun m=>(h_.mp m).elim (fun z=>ne z) n1,n2,nd⟩
 intro b m;have m:b∈a::c::N:=m;rcases h_.mp m with rfl|m
 ·exact g.none ha
 rcases h_.mp m with rfl|m
 ·exact g.none hc
 exact d b m
theorem B7(D:Dfn K mg "_law_take" sY ["_law_state","_law_many"])(TX:Txt mg):Cal P w K mg base 1 "_law_take" ["_law_state","_law_many"] (aI K 2 kq):=by
 refine(D.cal fun _ _ F=>E2 F TX).imp ?_;rintro vs H Q E ⟨ts,Fr,k,l,hn,rp,⟨c,n,m,rfl,h1,h2,h3,pk⟩,q⟩;obtain⟨x,y,rfl⟩:=zz2 l rfl;have rp:Rp K H ((stT c n,some x)::(.int m,some y)::Fr):=rp;have ey:=aT rp.tail;subst ey;obtain⟨st,lc,rfl,S,ge⟩:=IP rp;refine⟨st,lc,c.cs,n,m,rfl,S,by omega,by omega,h2,h3,fun r cs' H' hr0 hr1 S' kp=>?_⟩;have gl:=J8 ge kp ⟨_,S'.d,fun _ z=>by cases z⟩ ⟨_,S'.l,fun _ z=>by cases z⟩;have S'':StAt H' st lc cs' ((n+1:Nat):Int):=by push_cast;exact S'
 obtain⟨c',rp4⟩:=Bb S'' gl;exact q _ _ _ _ (pk r c' hr0 hr1) (cM rp4 fun _=>.int)
theorem wD{w y:V}(h:Rp K H ((.hole w,some y)::Γ)):y=w:=by
 obtain⟨_,_,r,_⟩:=jH h rfl;cases r
 rfl
theorem AG(D:Dfn K mg "_law_begin" oD ["_law_script"])(TX:Txt mg):Cal P w K mg base 1 "_law_begin" ["_law_script"] (aI K 1 (sI K)):=by
 refine(D.cal fun _ _ F=>By F TX).imp ?_;rintro vs H Q E ⟨ts,Fr,k,l,hn,rp,⟨t,ns,rfl,hs,h1,pk⟩,q⟩;obtain⟨x,rfl⟩:=zz1 l rfl;have rp:Rp K H ((t,some x)::Fr):=rp;obtain⟨a,rfl,hq⟩:∃a,x=.ref a/\SqL K H a (ns.map V.int):=by
  rcases hs with rfl|⟨a,rfl,hs⟩
  ·obtain⟨a,us,rfl,hq,l2,ge⟩:=aD rfl rp;have eu:=jG l2 ge;subst eu;exact⟨a,rfl,hq⟩
  exact⟨a,wD rp,hs H⟩
 refine⟨a,ns,rfl,hq,h1,fun st lc cs H' hs hl S g=>?_⟩;have gl:=E4 rp hs hl S.ne g ⟨_,S.d,fun _ z=>by cases z⟩ ⟨_,S.l,fun _ z=>by cases z⟩;obtain⟨c,rp4⟩:=Bb (n:=0) S gl;exact q _ _ _ _ (pk c) rp4
def Dw(K:OA):FP:=fun ts k=>∃t,∃ns:List Int,ts=[t]/\Scr K t ns/\ns.length<=63/\∀z,k (.bl true) [z]
def zq(K:OA):Sp:=fun vs H Q _=>∃(a:Oz) (ns:List Int),vs=[.ref a]/\SqL K H a (ns.map V.int)/\ns.length<=63/\∀H',Q (.bl true) H'
theorem vL{Hz H:Hp}:∀(ns:List Int),RepTs K Hz H (ns.map T.int) (ns.map V.int) []
 | []=>.nil
 | _::r=>.cons rfl .int (vL r)
theorem Gs{k:Nat}(F:FnOk P w K mg base CX0 k f fd ["_law_script"] (aI K 1 (Dw K))):FnOk P w K mg base CX0 k f fd ["_law_script"] (zq K):=by
 refine F.imp ?_;rintro vs H Q E ⟨a,ns,rfl,hq,h1,q⟩;have key:∀t,Scr K t ns->(∀Hz,RepT K H Hz t (.ref a) [])->aI K 1 (Dw K) [.ref a] H Q E:=fun t sc ht=>
  ⟨[t],[],fun t _=>t=.bl true,rfl,rfl,⟨H,[],.cons rfl (.inr ⟨_,rfl,ht H⟩) .nil,LY,.gy,fun _ m=>by cases m⟩,⟨t,ns,rfl,sc,h1,fun _=>rfl⟩,fun t ts' v H' e rp=>by subst e;rw[mL rp];exact q H'⟩
 rcases hq with hq|hq
 ·exact key _ (.inl rfl) fun Hz=>.lstZ hq (vL ns)
 exact key _ (.inr ⟨a,rfl,fun H=>.inr hq⟩) fun Hz=>.hole
end
open PySem L2 PL
abbrev yX:T:=.cst [.cst [.int 3,.int 2],.cst [.int 2,.int 3],.cst [.int 1,.int 2],.cst [.int 2,.int 1]]
abbrev Pt:=Int×Int
noncomputable def ptP(p:Pt):T:=pt p.1 p.2
variable {p:Pt}
theorem gK:er (ptP p)=ptP p:=rfl
theorem cN:dy (ptP p)=true:=rfl
theorem bU:aU (ptP p)=true:=rfl
theorem bN:isAny (ptP p)=false:=rfl
theorem dE{k:T->Prop}:ixT (ptP p) (.int 0) k=k (.int p.1):=rfl
theorem eK{k:T->Prop}:ixT (ptP p) (.int 1) k=k (.int p.2):=rfl
theorem fo{gs:oB}{env:Ev}{k:Ev->Prop}:gTp n gs (ptP p) env k=gTp n gs (.tup [.int p.1,.int p.2]) env k:=rfl
variable {i:Nat}
theorem map_take{g:α->β}{l:List α}{x:α}(h:l[i]?=some x):K' g (l.take (i+1))=K' g (l.take i)++[g x]:=by rw[KI,h,q_];rfl
theorem sizeLine_eq:sizeLine=16777216:=rfl
abbrev Qt:=Int×Int×Nat
noncomputable def qtT(q:Qt):T:=.tup [.int q.1,.int q.2.1,.int (q.2.2:Int)]
variable {q:Qt}
theorem i5:er (qtT q)=qtT q:=rfl
theorem dg:dy (qtT q)=true:=rfl
theorem cw:aU (qtT q)=true:=rfl
theorem ck:isAny (qtT q)=false:=rfl
theorem dU{k:T->Prop}:ixT (qtT q) (.int 2) k=k (.int (q.2.2:Int)):=rfl
theorem fv{k:T->Prop}:ixT (qtT q) (.int 0) k=k (.int q.1):=rfl
theorem fD{k:T->Prop}:ixT (qtT q) (.int 1) k=k (.int q.2.1):=rfl
theorem eU{gs:oB}{env:Ev}{k:Ev->Prop}:gTp n gs (qtT q) env k=gTp n gs (.tup [.int q.1,.int q.2.1,.int (q.2.2:Int)]) env k:=rfl
noncomputable def K6:List Pt:=[(3,2),(2,3),(1,2),(2,1)]
noncomputable def inn(s:Nat):Pt:=K6.getD s (0,0)
theorem HY{s:Nat}(h:s<4):atI [T.cst [.int 3,.int 2],.cst [.int 2,.int 3],.cst [.int 1,.int 2],.cst [.int 2,.int 1]] (s:Int)=some (.cst [.int (inn s).1,.int (inn s).2]):=by
 match s,h with
 |0,_=>rfl
 |1,_=>rfl
 |2,_=>rfl
 |3,_=>rfl
def sL(q:Qt):Pt:=(4*q.1+(inn q.2.2).1,4*q.2.1+(inn q.2.2).2)
theorem c4(x:Int):wU 4 x:=.inl ⟨by decide,by decide⟩
theorem f7{x:T}{n:String}{k:T->Prop}:Ci [x,.ty n] k=fL (Fs x) (k:=⟨fun t=>fL (AJ n) (k:=⟨fun c=>k (.bl (isA t c))⟩)⟩):=rfl
theorem bP:AJ "bool"=some .bl:=rfl
theorem aS(f:α->Bool)(l:List α):boolsOf (l.map fun x=>T.bl (f x))=some (l.map f):=by
 induction l with
 |nil=>rfl
 |cons x l ih=>rw[c_,boolsOf,ih];rfl
structure Oc where
 a:Int
 b:Int
 c:Int
 d:Int
 e:Int
 f:Int
 g:Int
 h:Int
noncomputable def ocT(o:Oc):T:=.tup [.int o.a,.int o.b,.int o.c,.int o.d,.int o.e,.int o.f,.int o.g,.int o.h]
theorem gJ{o:Oc}:er (ocT o)=ocT o:=rfl
theorem d5{o:Oc}:dy (ocT o)=true:=rfl
theorem cA{o:Oc}:aU (ocT o)=true:=rfl
theorem bY{o:Oc}:isAny (ocT o)=false:=rfl
noncomputable def Fp(o q:Oc):Oc:=⟨o.a+q.a,o.b+q.b,o.c+q.c,o.d+q.d,o.e+q.e,o.f+q.f,o.g+q.g,o.h+q.h⟩
noncomputable def oc1(p:Pt):Oc:=⟨p.1,p.1,p.2,p.2,p.1+p.2,p.1+p.2,p.1-p.2,p.1-p.2⟩
noncomputable def ocL(o:Oc):List Int:=[o.a,o.b,o.c,o.d,o.e,o.f,o.g,o.h]
theorem gB{o:Oc}{i:Int}{k:T->Prop}:ixT (ocT o) (.int i) k=ixT (.tup [.int o.a,.int o.b,.int o.c,.int o.d,.int o.e,.int o.f,.int o.g,.int o.h]) (.int i) k:=rfl
noncomputable def gO(j:Nat)(p:Pt):Int:=[p.1,p.2,p.1+p.2,p.1-p.2].getD j 0
def FA(ps:List Pt)(o:Oc):Prop:=((iD (ps.map (gO 0)) o.a/\iC (ps.map (gO 0)) o.b)/\(iD (ps.map (gO 1)) o.c/\iC (ps.map (gO 1)) o.d))/\(iD (ps.map (gO 2)) o.e/\iC (ps.map (gO 2)) o.f)/\iD (ps.map (gO 3)) o.g/\iC (ps.map (gO 3)) o.h
theorem C9{f:Nat->Int×Int}{m M:Int}:(A' (i+1)).flatMap (fun j=>[T.int (if j=i then(m,M)else f j).1,T.int (if j=i then(m,M)else f j).2])=(A' i).flatMap (fun j=>[T.int (f j).1,T.int (f j).2])++[T.int m]++[T.int M]:=by
 rw[Mf,ML,o_];have ec:(A' i).flatMap (fun j=>[T.int (if j=i then(m,M)else f j).1,T.int (if j=i then(m,M)else f j).2])=(A' i).flatMap fun j=>[T.int (f j).1,T.int (f j).2]:=by rw[NW,NW];refine congrArg List.flatten (Ly fun j hj=>?_);have:=Lz.mp hj;rw[if_neg (by lia)]
 rw[ec];congr 1;show [T.int (if i=i then(m,M)else f i).1,T.int (if i=i then(m,M)else f i).2]++[]=_;rw[if_pos rfl]
 rfl
theorem d3{ps:List α}{g:α->Int}:intsOf (ps.map fun p=>T.int (g p))=some (ps.map g):=by
 induction ps with
 |nil=>rfl
 |cons p ps ih=>rw[c_,intsOf,ih];rfl
theorem Ja{o:Oc}(h:FA [p] o):o=oc1 p:=by
 obtain⟨⟨⟨h1,h2⟩,h3,h4⟩,⟨h5,h6⟩,h7,h8⟩:=h;have k:∀{x y:Int},iD [x] y->y=x:=fun h=>y_.mp h.1;have k':∀{x y:Int},iC [x] y->y=x:=fun h=>y_.mp h.1;obtain⟨a,b,c,d,e,f,g,h⟩:=o;have e1:=k h1;have e2:=k' h2;have e3:=k h3;have e4:=k' h4;have e5:=k h5;have e6:=k' h6;have e7:=k h7;have e8:=k' h8;dsimp only at e1 e2 e3 e4 e5 e6 e7 e8;rw[e1,e2,e3,e4,e5,e6,e7,e8]
 rfl
def mkO(r k:Int)(p:Pt):Oc:=Fp ⟨-r,r,-r,r,-(r+k),r+k,-(r+k),r+k⟩ (oc1 p)
noncomputable def vw(o:Oc):Bool:=decide (o.a=o.b) || (decide (o.c=o.d) || (decide (o.e=o.f) || decide (o.g=o.h)))
noncomputable def inP(o:Oc)(x y:Int):Prop:=(4*o.a<x/\x<4*o.b)/\(4*o.c<y/\y<4*o.d)/\(4*o.e<x+y/\x+y<4*o.f)/\4*o.g<x-y/\x-y<4*o.h
instance (o:Oc) (x y:Int):Decidable (inP o x y):=by unfold inP;infer_instance
def inO(o:Oc)(q:Qt):Bool:=decide (inP o (sL q).1 (sL q).2)
noncomputable def cellQ(f:Nat->Bool)(x y:Int):List Qt:=((A' 4).filter f).map fun s=>(x,y,s)
theorem nC(f:Nat->Bool)(x y:Int):(cellQ f x y).length<=4:=by unfold cellQ;rw[a_];exact L4 _ (A' 4)
variable {x y:Int}
theorem vc{f:Nat->Bool}(h:q∈cellQ f x y):q.1=x/\q.2.1=y/\q.2.2<4/\f q.2.2=true:=by obtain⟨s,m,rfl⟩:=n_.mp h;have:=La.mp m;exact⟨rfl,rfl,Lz.mp this.1,this.2⟩
noncomputable def u6(f:Int->List α)(a:Int)(n:Nat):List α:=(A' n).flatMap fun(j:Nat)=>f (a+j)
variable {a:Int}
theorem iJ{f:Int->List α}:u6 f a (n+1)=u6 f a n++f (a+n):=by unfold u6;rw[Mf,ML,List.flatMap_singleton]
theorem oO{f:Int->List α}{x:α}(h:x∈u6 f a n):∃j:Nat,j<n/\x∈f (a+j):=by obtain⟨j,m,e⟩:=List.mem_flatMap.mp h;exact⟨j,Lz.mp m,e⟩
theorem tJ{f:Int->List α}{c:Nat}(h:∀y,(f y).length<=c)(n:Nat):(u6 f a n).length<=c*n:=by
 induction n with
 |zero=>exact b_ _
 |succ n ih=>
  rw[iJ,gV,Of];exact Nat.add_le_add ih (h _)
noncomputable def oR(o:Oc)(x:Int):Int:=max (max o.c (o.e-x-1)) (x-o.h)
noncomputable def xr(o:Oc)(x:Int):Int:=min (min o.d (o.f-x)) (x+1-o.g)
def ocC(o:Oc)(x:Int)(n:Nat):List Qt:=u6 (fun y=>cellQ (fun s=>inO o (x,y,s)) x y) (oR o x) n
def ocN(o:Oc)(n:Nat):List Qt:=u6 (fun x=>ocC o x (xr o x-oR o x).toNat) o.a n
noncomputable def bdO(o:Oc):Prop:=(((-100<=o.a/\o.a<=100)/\-100<=o.b/\o.b<=100)/\(-100<=o.c/\o.c<=100)/\-100<=o.d/\o.d<=100)/\((-100<=o.e/\o.e<=100)/\-100<=o.f/\o.f<=100)/\(-100<=o.g/\o.g<=100)/\-100<=o.h/\o.h<=100
theorem CK{o:Oc}(h:bdO o)(h0:-100<=x)(h1:x<=100):-100<=oR o x/\oR o x<=300/\-300<=xr o x/\xr o x<=100:=by obtain⟨⟨⟨⟨a0,a1⟩,b0,b1⟩,⟨c0,c1⟩,d0,d1⟩,⟨⟨e0,e1⟩,f0,f1⟩,⟨g0,g1⟩,h0,h1⟩:=h;unfold oR xr;omega
theorem yn{o:Oc}(n:Nat):(ocC o x n).length<=4*n:=tJ (fun y=>nC _ _ _) n
theorem E7{o:Oc}(h:bdO o)(n:Nat)(hn:(n:Int)<=o.b-o.a):(ocN o n).length<=800*n:=by
 induction n with
 |zero=>exact b_ _
 |succ n ih=>
  unfold ocN at *;rw[iJ,gV];have h1:=ih (by lia);have h2:=yn (o:=o) (x:=o.a+n) (xr o (o.a+n)-oR o (o.a+n)).toNat;have h3:=CK (x:=o.a+n) h (by have:=h.1.1.1.1;lia) (by have:=h.1.1.2.2;lia);lia
abbrev Tl:=Int×Int×Int×Int×Int
noncomputable def tlL(t:Tl):List T:=[.int t.1,.int t.2.1,.int t.2.2.1,.int t.2.2.2.1,.int t.2.2.2.2]
def tlT(b o:Bool)(t:Tl):T:=if b then .lst o (tlL t)else .tup (tlL t)
variable {b o:Bool}{t:Tl}
theorem fT:er (tlT b o t)=tlT b false t:=by cases b <;> rfl
theorem bV:isAny (tlT b o t)=false:=by cases b <;> rfl
theorem cp:aU (tlT b false t)=true:=by have:er (tlT b false t)=tlT b false t:=fT;rw[<-this];exact aL _
theorem fk{k:T->Prop}:ixT (tlT b o t) (.int 0) k=k (.int t.1):=by cases b <;> rfl
theorem eQ{k:T->Prop}:ixT (tlT b o t) (.int 1) k=k (.int t.2.1):=by cases b <;> rfl
noncomputable def tlO(t:Tl):Prop:=2<=t.1/\t.1<=4/\1<=t.2.1/\t.2.1<t.1
def mk0(t:Tl):Oc:=mkO t.1 t.2.1 (0,0)
def nrQ(t:Tl):List Qt:=ocN (mk0 t) ((mk0 t).b-(mk0 t).a).toNat
theorem FE(h:tlO t):vw (mk0 t)=false/\bdO (mk0 t):=by obtain⟨h1,h2,h3,h4⟩:=h;unfold mk0 vw bdO mkO Fp oc1;dsimp only;refine⟨?_,by omega⟩;rw[MG,MG,MG];exact⟨decide_eq_false (by lia),decide_eq_false (by lia),decide_eq_false (by lia),decide_eq_false (by lia)⟩
noncomputable def qC(q:Qt):List Int:=[q.1,q.2.1,(q.2.2:Int)]
def qbT(b o:Bool)(q:Qt):T:=if b then .lst o [.int q.1,.int q.2.1,.int (q.2.2:Int)]else qtT q
theorem fO:er (qbT b o q)=qbT b false q:=by cases b <;> rfl
theorem bZ:isAny (qbT b o q)=false:=by cases b <;> rfl
theorem cm:aU (qbT b false q)=true:=by cases b <;> rfl
theorem eJ{k:T->Prop}:sk [qbT b o q] k=k (.tup [.int q.1,.int q.2.1,.int (q.2.2:Int)]):=by cases b <;> rfl
def rgT(c o b u:Bool)(qs:List Qt):T:=if c then .tup (qs.map (qbT b u))else .lst o (qs.map (qbT b u))
variable {qs:List Qt}{u:Bool}
theorem vY:erL (qs.map (qbT b u))=qs.map (qbT b false):=by rw[cF];exact Ly fun k _=>fO
theorem fP{c:Bool}:er (rgT c o b u qs)=rgT c false b false qs:=by
 cases c
 ·show er (.lst o (qs.map (qbT b u)))=.lst false (qs.map (qbT b false));rw[er,vY]
 show er (.tup (qs.map (qbT b u)))=.tup (qs.map (qbT b false));rw[er,vY]
theorem bM{c:Bool}:items (rgT c o b u qs)=some (qs.map (qbT b u)):=by cases c <;> rfl
theorem cv{c:Bool}:isAny (rgT c o b u qs)=false:=by cases c <;> rfl
theorem cu{c:Bool}:aU (rgT c false b false qs)=true:=by have:er (rgT c false b false qs)=rgT c false b false qs:=fP;rw[<-this];exact aL _
theorem yH{κ:Type}[DecidableEq κ]{v:T}(l:List κ)(x:κ):jl (l.map fun k=>(k,v)) x=if x∈l then some v else none:=by
 unfold jl;induction l with
 |nil=>rfl
 |cons a l ih=>
  rw[c_,KQ];by_cases e:a=x
  ·rw[decide_eq_true e,if_pos (by rw[e];exact x_)]
   rfl
  rw[decide_eq_false e];show Ma _ (List.find? _ (l.map fun k=>(k,v)))=_;rw[ih];by_cases m:x∈l
  ·rw[if_pos m,if_pos (m_ _ m)]
  rw[if_neg m,if_neg fun h=>(h_.mp h).elim (fun z=>e z.symm) m]
theorem DO{κ:Type}[DecidableEq κ]{v:T}{l:List κ}{x:κ}(h:x ∉ l):iR (l.map fun k=>(k,v)) x v=(l++[x]).map fun k=>(k,v):=by
 unfold iR;rw[if_neg,q_]
 ·rfl
 intro g;obtain⟨kv,m,e⟩:=Lu.mp g;obtain⟨a,ma,rfl⟩:=n_.mp m;exact h (of_decide_eq_true e▸ma)
def kQ(q:Qt):List Key:=kI (qC q)
theorem nE{r:Qt}(h:kQ q=kQ r):q=r:=by have h:=CN h;unfold qC at h;simp only[Lj,and_true]at h;exact L8 h.1 (L8 h.2.1 (by have:=h.2.2;lia))
def dQ(qs:List Qt):List (List Key×T):=(qs.map kQ).map fun k=>(k,T.bl true)
theorem tf(h:q ∉ qs):iR (dQ qs) (kQ q) (.bl true)=dQ (qs++[q]):=by unfold dQ;rw[show(qs++[q]).map kQ=qs.map kQ++[kQ q]from q_ ..,DO];intro m;obtain⟨r,mr,e⟩:=n_.mp m;exact h (nE e▸mr)
theorem oP(qs:List Qt):(dQ qs).length=qs.length:=by unfold dQ;rw[a_,a_]
theorem Bi:(jl (dQ qs) (kQ q)).isSome=decide (q∈qs):=by
 unfold dQ;rw[yH];by_cases m:q∈qs
 ·rw[if_pos (v_ m),decide_eq_true m]
  rfl
 rw[if_neg fun h=>?_,decide_eq_false m]
 ·rfl
 obtain⟨r,mr,e⟩:=n_.mp h;exact m (nE e▸mr)
theorem gu(qs:List Qt):erT (dQ qs)=dQ qs:=by
 unfold dQ;induction qs with
 |nil=>rfl
 |cons a l ih=>rw[c_,c_,erT,ih];rfl
theorem cD(qs:List Qt):ik (dQ qs)=true:=by
 unfold dQ;induction qs with
 |nil=>rfl
 |cons a l ih=>rw[c_,c_,ik,ih];rfl
theorem cU(qs:List Qt):jT (dQ qs)=true:=by
 unfold dQ;induction qs with
 |nil=>rfl
 |cons a l ih=>rw[c_,c_,jT,ih];rfl
theorem j6(qs:List Qt):(dQ qs).map (fun p=>kyT p.1)=qs.map qtT:=by
 unfold dQ;rw[D_,D_]
 rfl
theorem pA{l:List α}{x:α}(h:l.Nodup)(e:l[i]?=some x):x ∉ l.take i:=by intro m;obtain⟨j,hj,ej⟩:=List.mem_take_iff_getElem.mp m;obtain⟨hi,e⟩:=f_.mp e;have:=(NQ h).mp (ej.trans e.symm);lia
noncomputable def JY(p:Pt):List Int:=[p.1,p.2]
noncomputable def mvQ(p:Pt)(m:Qt):Qt:=(p.1+m.1,p.2+m.2.1,m.2.2)
theorem zK{l:List α}{x:α}(e:l[i]?=some x):l.drop i=x::l.drop (i+1):=by obtain⟨h,e⟩:=f_.mp e;rw[List.drop_eq_getElem_cons h,e]
theorem zf{g:α->T}{l:List α}{t:T}(hn:n=l.length)(h:(Og (fun(i:Nat) (x:T)=>T.tup [.int (i:Int),x]) (A' n) (l.map g))[i]?=some t):∃x,l[i]?=some x/\t=.tup [.int (i:Int),g x]:=by
 subst hn;rw[Nm]at h;cases e:l[i]? with
 |none=>
  rw[p_,e]at h;cases hr:(A' l.length)[i]? <;> rw[hr]at h <;> cases h
 |some x=>
  have hi:i<l.length:=(f_.mp e).1;rw[p_,e,LN hi]at h;cases h;exact⟨x,rfl,rfl⟩
theorem qp{g:α->T}{l:List α}(hn:n=l.length):(Og (fun(i:Nat) (x:T)=>T.tup [.int (i:Int),x]) (A' n) (l.map g)).length=l.length:=by rw[Nz,K_,a_,hn,M5]
def Gd(t:T)(n:Nat):Prop:=isD t=true/\dpt (dt t)<=n
def GdL(ts:List T)(n:Nat):Prop:=l9 ts=true/\i8 (dtL ts)<=n
theorem xJ{i:Int}:Gd (.int i) n:=⟨rfl,by rw[dt,dpt.eq_def];exact F' _⟩
theorem lV:GdL [] n:=⟨rfl,by simp only[dtL,i8,F']⟩
variable {ts:List T}
theorem fN{t:T}(h:Gd t n)(r:GdL ts n):GdL (t::ts) n:=
 ⟨by rw[l9,h.1,r.1];rfl,by rw[dtL,i8];exact Ou.mpr ⟨h.2,r.2⟩⟩
theorem De(h:GdL ts n):Gd (.lst o ts) (n+1):=
 ⟨by rw[isD];exact h.1,by rw[dt,dpt];exact LA h.2⟩
theorem Gq(h:GdL ts n):Gd (.tup ts) (n+1):=
 ⟨by rw[isD];exact h.1,by rw[dt,dpt];exact LA h.2⟩
def fY(qs:List Qt):List (List Int):=qs.map qC
theorem lZ(qs:List Qt):(dQ qs).map (·.1)=(fY qs).map kI:=by
 unfold dQ fY;rw[D_,D_,D_]
 rfl
theorem m7(qs:List Qt):(fY qs).map iT=qs.map qtT:=by
 unfold fY;rw[D_]
 rfl
theorem mF(qs:List Qt):∀q∈fY qs,q≠[]:=fun q m=>by obtain⟨r,_,rfl⟩:=n_.mp m;exact List.cons_ne_nil _ _
theorem F2{k:T->Prop}(h:k (.lst true (qs.map qtT))):sh [.dT u (dQ qs)] k:=by rw[Ct];exact⟨fY qs,lZ qs,mF qs,fun _=>by rw[m7];exact h⟩
theorem Bp(qs:List Qt)(j:Nat):(dQ qs).eraseIdx j=dQ (qs.eraseIdx j):=by unfold dQ;rw[<-fW,<-fW]
theorem J5:iS [.int q.1,.int q.2.1,.int (q.2.2:Int)]=some (kQ q):=rfl
theorem vk{z:T}{k:T->T->Prop}(h:∀rs u,List.Sublist rs qs->(∀r∈qs,r≠q->r∈rs)->k (.dT true (dQ rs)) u):nK (.dT true (dQ qs)) (qtT q) z k:=by
 unfold qtT;rw[BG];refine cK J5 ?_;show match kz (dQ qs) (kQ q)with
   |some r=>k (.dT true r.2) r.1
   |none=>k (.dT true (dQ qs)) z
 cases e:kz (dQ qs) (kQ q)with
 |none=>exact h qs _ (List.Sublist.refl _) fun _ m _=>m
 |some r=>
  obtain⟨j,e1,e2⟩:=vv e;show k (.dT true r.2) r.1;rw[e2,Bp];refine h _ _ (Mz _ _) fun r m g=>?_;obtain⟨i,ei⟩:=Nn.mp m;refine List.mem_eraseIdx_iff_getElem?.mpr ⟨i,fun z=>g ?_,ei⟩;subst z;unfold dQ at e1;rw[p_,p_,ei]at e1;exact nE (NH.mp (C' e1)).1
theorem cV{k:T->Prop}:xZ [qtT q] k=k (.lst true [.int q.1,.int q.2.1,.int (q.2.2:Int)]):=rfl
noncomputable def jR(n i:Nat):Nat:=if i=0 then n-1 else i-1
theorem vh{g:α->T}{l:List α}(h:i<l.length)(z:α):atI (l.map g) ((i:Int)-1)=some (g (l.getD (jR l.length i) z)):=by
 unfold atI jR;rw[a_];by_cases hi:i=0
 ·subst hi;rw[if_pos rfl];have:ixN l.length (((0:Nat):Int)-1)=some (l.length-1):=by unfold ixN;rw[if_neg (by decide),if_pos (by lia)];congr 1;lia
  rw[this,Mu,p_,E_,e_ (by lia)]
  rfl
 rw[if_neg hi];have:ixN l.length ((i:Int)-1)=some (i-1):=by unfold ixN;rw[if_pos (by lia)];rw[if_pos (by lia)];congr 1;lia
 rw[this,Mu,p_,E_,e_ (by omega)]
 rfl
noncomputable def sm(p:Pt):Prop:=-8388608<p.1/\p.1<8388608/\-8388608<p.2/\p.2<8388608
noncomputable def bd(m:Int)(z:Int):Prop:=-m<=z/\z<=m
def bdP(m:Int)(p:Pt):Prop:=bd m p.1/\bd m p.2
noncomputable def bR(c z:Int):Prop:=c<=z/\z<=c+20
def inR(x y:Int):List Pt->Prop
 | []=>True
 |p::l=>(bR x p.1/\bR y p.2)/\inR x y l
theorem iY:∀{l:List Pt},inR x y l->p∈l->bR x p.1/\bR y p.2:=by
 intro l;induction l with
 |nil=>intro _ h;cases h
 |cons x l ih=>
  intro h q;rcases h_.mp q with rfl|q
  ·exact h.1
  exact ih h.2 q
theorem xh:∀{l:List Pt},(∀p∈l,bR x p.1/\bR y p.2)->inR x y l:=by
 intro l;induction l with
 |nil=>intro _;trivial
 |cons x l ih=>exact fun h=>⟨h x (x_ ..),ih fun p q=>h p (m_ _ q)⟩
theorem vq{l r:List Pt}(h:inR x y l)(e:∀p∈r,p∈l):inR x y r:=xh fun p q=>iY h (e p q)
theorem tq:∀{l:List Int},0<l.length->∃r,iD l r
 | [a],_=>⟨a,.head _,fun x m=>by rw[y_.mp m];exact Int.le_refl _⟩
 |a::b::l,_=>by
  obtain⟨r,m,h⟩:=tq (l:=b::l) (L3 _);by_cases e:a<=r
  ·exact⟨a,.head _,fun x mx=>(h_.mp mx).elim (fun z=>by lia) (fun z=>by have:=h x z;lia)⟩
  exact⟨r,.tail _ m,fun x mx=>(h_.mp mx).elim (fun z=>by lia) (h x)⟩
theorem Ft{l:List Int}(h:0<l.length):∃r,iC l r:=by obtain⟨r,m,k⟩:=tq (l:=l.map fun x=>-x) (by rw[a_];exact h);obtain⟨y,my,rfl⟩:=n_.mp m;exact⟨y,my,fun x mx=>by have:=k (-x) (n_.mpr ⟨x,mx,rfl⟩);lia⟩
theorem Eh{l:List Int}{b:Int}(h:iD l a)(g:iD l b):a=b:=by have:=h.2 b g.1;have:=g.2 a h.1;lia
theorem DX{l:List Int}{b:Int}(h:iC l a)(g:iC l b):a=b:=by have:=h.2 b g.1;have:=g.2 a h.1;lia
variable {c d:Int}{ps:List Pt}
theorem HP(h:inR x y ps){b:Int}(h1:iD (ps.map (·.1)) a)(h2:iC (ps.map (·.1)) b)(h3:iD (ps.map (·.2)) c)(h4:iC (ps.map (·.2)) d):(x<=a/\a<=b/\b<=x+20)/\y<=c/\c<=d/\d<=y+20:=by have l1:=h2.2 a h1.1;have l2:=h4.2 c h3.1;obtain⟨p,mp,rfl⟩:=n_.mp h1.1;obtain⟨q,mq,rfl⟩:=n_.mp h2.1;obtain⟨r,mr,rfl⟩:=n_.mp h3.1;obtain⟨t,mt,rfl⟩:=n_.mp h4.1;exact⟨⟨(iY h mp).1.1,l1,(iY h mq).1.2⟩,(iY h mr).2.1,l2,(iY h mt).2.2⟩
theorem Jy{b:Int}{c:Prop}[Decidable c]:atI [T.int a,.int b] (if c then 1 else 0)=some (.int (if c then b else a)):=by
 by_cases h:c
 ·rw[if_pos h,if_pos h];rfl
 rw[if_neg h,if_neg h];rfl
abbrev Ed:=Pt×Pt
noncomputable def sgE(e:Ed):Int:=(e.2.1-e.1.1)/max 1 ((e.2.1-e.1.1).natAbs:Int)
theorem tP(e:Ed):e.2.1=e.1.1/\sgE e=0\/e.1.1<e.2.1/\sgE e=1\/e.2.1<e.1.1/\sgE e=-1:=by
 unfold sgE;generalize e.2.1=y;generalize e.1.1=x;rcases NN x y with h|h|h
 ·exact .inr (.inl ⟨h,by rw[show max 1 ((y-x).natAbs:Int)=y-x by lia,Int.ediv_self (by lia)]⟩)
 ·exact .inl ⟨h.symm,by rw[h,Int.sub_self,Int.zero_ediv]⟩
 have e:=Int.neg_ediv_self (x-y) (by lia);exact .inr (.inr ⟨h,by rw[show max 1 ((y-x).natAbs:Int)=x-y by lia,show y-x=-(x-y) by lia,e]⟩)
def crB(s:Pt)(e:Ed):Bool:=decide (min e.1.2 e.2.2*8<=s.2/\s.2<max e.1.2 e.2.2*8)&&decide (s.1<8*(if e.2.2<e.1.2 then e.2.1 else e.1.1)+(if e.2.2<e.1.2 then -sgE e else sgE e)*(s.2-min e.1.2 e.2.2*8))
def cr(s:Pt)(e:Ed):Int:=if crB s e=true then 1 else 0
variable {s:Pt}
theorem jX{b:Int}:cr s ((a,c),(b,c))=0:=by
 unfold cr crB;rw[decide_eq_false (by dsimp only;lia)]
 rfl
theorem xX:cr s (p,p)=0:=jX
theorem sV{q:Pt}:cr s (q,p)=cr s (p,q):=by
 obtain⟨a,b⟩:=p;obtain⟨c,d⟩:=q;have g:sgE ((c,d),(a,b))=-sgE ((a,b),(c,d)):=by have g1:=tP ((c,d),(a,b));have g2:=tP ((a,b),(c,d));dsimp only at g1 g2;lia
 rcases NN b d with h|h|h
 ·unfold cr crB;rw[g];dsimp only;rw[if_pos h,if_pos h,if_neg (show ¬d<b by lia),if_neg (show ¬d<b by lia),Int.neg_neg,Oh d b,Oi d b]
 ·subst h;rw[jX,jX]
 unfold cr crB;rw[g];dsimp only;rw[if_pos h,if_pos h,if_neg (show ¬b<d by lia),if_neg (show ¬b<d by lia),Oh d b,Oi d b]
noncomputable def upI(s:Pt)(a b u k:Int):Int:=if(8*b<=s.2/\s.2<8*(b+k))/\s.1<8*a+u*(s.2-8*b)then 1 else 0
theorem up0{b u k:Int}(hu:u=0\/u=1\/u=-1)(hk:0<=k):cr s ((a,b),(a+u*k,b+k))=upI s a b u k:=by
 by_cases z:k=0
 ·subst z;rw[Int.mul_zero,Ls,Ls,xX];unfold upI;rw[if_neg fun h=>by have:=h.1;lia]
 have g:=tP ((a,b),(a+u*k,b+k));have e:sgE ((a,b),(a+u*k,b+k))=u:=by dsimp only at g;rcases hu with rfl|rfl|rfl <;> lia
 unfold cr crB upI;rw[e];dsimp only;rw[if_neg (show ¬b+k<b by lia),if_neg (show ¬b+k<b by lia),show min b (b+k)=b by lia,show max b (b+k)=b+k by lia,Oj b 8,Oj (b+k) 8];simp only[G',decide_eq_true_iff]
theorem vup{b:Int}(h:b<=c):cr s ((a,b),(a,c))=upI s a b 0 (c-b):=by have:=up0 (s:=s) (a:=a) (b:=b) (u:=0) (k:=c-b) (.inl rfl) (by lia);rwa[Int.zero_mul,Ls,show b+(c-b)=c by lia]at this
theorem vdn{b:Int}(h:b<=c):cr s ((a,c),(a,b))=upI s a b 0 (c-b):=sV.trans (vup h)
noncomputable def fI(F:Ed->Int):Pt->List Pt->Int
 | _,[]=>0
 |p,q::l=>F (p,q)+fI F q l
def lL(F:Ed->Int)(l:List Pt):Int:=fI F (l.getLastD (0,0)) l
variable {F:Ed->Int}
theorem mO{l r:List Pt}:∀{p:Pt},fI F p (l++r)=fI F p l+fI F (l.getLastD p) r:=by
 induction l with
 |nil=>intro p;exact(L5 _).symm
 |cons q l ih=>
  intro p;rw[KN,KH,fI,fI,ih,Ny]
theorem jP{l r:List Pt}:(l++r).getLastD p=r.getLastD (l.getLastD p):=by
 induction l generalizing p with
 |nil=>rfl
 |cons q l ih=>rw[KH,KN,KN,ih]
theorem kS{l:List Pt}(h:l≠[])(p q:Pt):l.getLastD p=l.getLastD q:=by
 cases l with
 |nil=>exact absurd rfl h
 |cons a l=>rw[KN,KN]
theorem Dv{l r:List Pt}:lL F (l++r)=lL F (r++l):=by
 by_cases h1:l=[]
 ·rw[h1,Lr,J']
 by_cases h2:r=[]
 ·rw[h2,Lr,J']
 unfold lL;rw[mO,mO,jP,jP,kS h2 (l.getLastD (0,0)) (0,0),kS h1 (r.getLastD (0,0)) (0,0),kS h2 (l.getLastD (0,0)) (0,0),Int.add_comm]
theorem B4(ho:∀p q,F (q,p)=F (p,q)){l:List Pt}:∀{p z:Pt},fI F z (l.reverse++[p])=fI F p l+F (l.getLastD p,z):=by
 induction l with
 |nil=>
  intro p z;show F (z,p)+0=0+F (p,z);rw[ho p z];lia
 |cons q l ih=>
  intro p z;rw[Li,mO,ih,KN,show fI F p (q::l)=F (p,q)+fI F q l from rfl];have:(l.reverse++[q]).getLastD z=q:=by rw[jP];rfl
  rw[this];show _+(F (q,p)+0)=_;rw[ho p q];lia
theorem BR(ho:∀p q,F (q,p)=F (p,q)){l:List Pt}:lL F l.reverse=lL F l:=by
 cases l with
 |nil=>rfl
 |cons p l=>
  unfold lL;rw[Li,KN,fI];have:(l.reverse++[p]).getLastD (0,0)=p:=by rw[jP];rfl
  rw[this,B4 ho];lia
theorem Ac{l:List Pt}{x:Pt}(e:l[i]?=some x):fI F (l.getLastD (0,0)) (l.take (i+1))=fI F (l.getLastD (0,0)) (l.take i)+F (l.getD (jR l.length i) (0,0),x):=by
 have hi:i<l.length:=(f_.mp e).1;have ek:(l.take i).getLastD (l.getLastD (0,0))=l.getD (jR l.length i) (0,0):=by
  unfold jR;by_cases h:i=0
  ·subst h;rw[if_pos rfl];show l.getLastD (0,0)=_;rw[Lk,LK,E_]
  rw[if_neg h,Lk,LK,B_,LQ (by lia),Mg (by lia),E_,e_ (by omega)]
  rfl
 rw[KI,e,mO,ek];show _+(F _+0)=_;rw[Ls]
def Wi(ps:List Pt)(x y:Int):Prop:=lL (cr (8*x+4,8*y+1)) ps%2=1/\(∃p∈ps,p.1<=x)/\(∃p∈ps,x<p.1)/\(∃p∈ps,p.2<=y)/\∃p∈ps,y<p.2
noncomputable def Thr(ps:List Pt):Prop:=∃x y,Wi ps x y/\Wi ps (x+3) y/\Wi ps (x+6) y
theorem Bv{qs:List Pt}(h:Wi ps x y)(e:∀s,lL (cr s) qs=lL (cr s) ps)(m:∀p∈ps,p∈qs):Wi qs x y:=by obtain⟨h1,⟨p1,m1,g1⟩,⟨p2,m2,g2⟩,⟨p3,m3,g3⟩,p4,m4,g4⟩:=h;exact⟨by rw[e];exact h1,⟨p1,m p1 m1,g1⟩,⟨p2,m p2 m2,g2⟩,⟨p3,m p3 m3,g3⟩,p4,m p4 m4,g4⟩
theorem Cv{qs:List Pt}(h:Thr ps)(e:∀s,lL (cr s) qs=lL (cr s) ps)(m:∀p∈ps,p∈qs):Thr qs:=by obtain⟨x,y,h1,h2,h3⟩:=h;exact⟨x,y,Bv h1 e m,Bv h2 e m,Bv h3 e m⟩
theorem oZ{n:Int}(hn:7<=n)(h:∀j:Int,0<=j->j<n->Wi ps (x+j) y):Thr ps:=⟨x,y,by have:=h 0 (by lia) (by lia);rwa[Ls]at this,h 3 (by lia) (by lia),h 6 (by lia) (by lia)⟩
noncomputable def ltQ(a b:Qt):Prop:=a.1<b.1\/a.1=b.1/\(a.2.1<b.2.1\/a.2.1=b.2.1/\a.2.2<b.2.2)
def upQ(qs:List Qt):Prop:=qs.Pairwise ltQ
def okQ(x y:Int)(q:Qt):Prop:=bR x q.1/\bR y q.2.1/\q.2.2<4
theorem F6(h:upQ qs)(g:∀r∈qs,ltQ r q):upQ (qs++[q]):=by refine Mc.mpr ⟨h,LO _ _,fun a ma b mb=>?_⟩;rw[y_.mp mb];exact g a ma
theorem Gb(g:∀r∈qs,ltQ r q):q ∉ qs:=fun m=>by have:=g q m;unfold ltQ at this;lia
theorem yr(h:upQ qs):qs.Nodup:=h.imp fun{a b} g z=>by subst z;unfold ltQ at g;lia
theorem Er{P R:Qt->Prop}(h:∀r∈qs,P r)(g:∀r,P r->R r)(gq:R q):∀r∈qs++[q],R r:=fun r m=>by
 rcases F_.mp m with m|m
 ·exact g r (h r m)
 rw[y_.mp m];exact gq
theorem BL{s:Nat}(h:s<4):(∃v,atI [T.int 6,.int 4,.int 2,.int 4] (s:Int)=some (.int v)/\(s=3->v=4))/\∃v,atI [T.int 5,.int 7,.int 3,.int 1] (s:Int)=some (.int v)/\(s=3->v=1):=by
 match s,h with
 |0,_=>exact⟨⟨_,rfl,fun h=>by cases h⟩,_,rfl,fun h=>by cases h⟩
 |1,_=>exact⟨⟨_,rfl,fun h=>by cases h⟩,_,rfl,fun h=>by cases h⟩
 |2,_=>exact⟨⟨_,rfl,fun h=>by cases h⟩,_,rfl,fun h=>by cases h⟩
 |3,_=>exact⟨⟨_,rfl,fun _=>rfl⟩,_,rfl,fun _=>rfl⟩
def Od(ps:List Pt)(x y:Int):Prop:=lL (cr (8*x+4,8*y+1)) ps%2=1
noncomputable def oW(x y w h a b c d:Int):List Pt:=[(x+a,y),(x+w-b,y),(x+w,y+b),(x+w,y+h-c),(x+w-c,y+h),(x+d,y+h),(x,y+h-d),(x,y+a)]
noncomputable def ddl:Pt->List Pt->List Pt
 | _,[]=>[]
 |p,q::l=>if q=p then ddl q l else q::ddl q l
def jD(x y w h a b c d:Int):List Pt:=ddl (x,y+a) (oW x y w h a b c d)
theorem ES{x:Pt}:∀{l:List Pt}{p:Pt},ddl p (l++[x])=ddl p l++(if x=l.getLastD p then []else [x]):=by
 intro l;induction l with
 |nil=>intro p;rfl
 |cons q l ih=>
  intro p;have e:(q::l).getLastD p=l.getLastD q:=by rw[KN]
  rw[e,KH,ddl,ddl,ih];split
  ·rfl
  rfl
variable {z:Pt}
theorem Bk{l:List Pt}{x:Pt}(hp:l.getD (l.length-1) z=p)(e:l[i]?=some x):ddl p (l.take (i+1))=ddl p (l.take i)++(if x=l.getD (jR l.length i) z then []else [x]):=by
 have hi:i<l.length:=(f_.mp e).1;have ek:(l.take i).getLastD p=l.getD (jR l.length i) z:=by
  unfold jR;by_cases h:i=0
  ·subst h;rw[if_pos rfl,hp];rfl
  rw[if_neg h,Lk,LK,B_,LQ (by lia),Mg (by lia),E_,e_ (by omega)]
  rfl
 rw[KI,e,<-ek];exact ES
theorem yG{q:Pt}:∀{l:List Pt}{p:Pt},q∈ddl p l->q∈l:=by
 intro l;induction l with
 |nil=>intro p h;exact h
 |cons x l ih=>
  intro p h;rw[ddl]at h;split at h
  ·exact m_ _ (ih h)
  rcases h_.mp h with rfl|h
  ·exact x_ ..
  exact m_ _ (ih h)
theorem xY:∀{l:List Pt}{p:Pt},(ddl p l).length<=l.length:=by
 intro l;induction l with
 |nil=>intro p;exact b_ _
 |cons x l ih=>
  intro p;rw[ddl];split
  ·exact MY ih
  exact LA ih
theorem E5{q:Pt}:∀{l:List Pt}{p:Pt},ddl p l=[]->q∈l->q=p:=by
 intro l;induction l with
 |nil=>intro p _ h;cases h
 |cons x l ih=>
  intro p h m;rw[ddl]at h;split at h
  ·rename_i e;rcases h_.mp m with rfl|m
   ·exact e
   rw[<-e];exact ih h m
  cases h
variable {h w:Int}
theorem mC{b:Int}(hw:w≠0):0<(jD x y w h a b c d).length:=by refine Ln fun z=>?_;have e:=E5 (J_ z) (show((x+w,y+b):Pt)∈oW x y w h a b c d from .tail _ (.tail _ (.head _)));have:=congrArg Prod.fst e;dsimp only at this;lia
theorem uo{b:Int}(hw:0<w):(jD x y w h a b c d).getLastD p=(x,y+a):=by
 have g2:∀{l:List Pt}{p:Pt},(ddl p l).getLastD p=l.getLastD p:=by
  intro l;induction l with
  |nil=>intro p;rfl
  |cons q l ih=>
   intro p;rw[ddl,KN];split
   ·rename_i e;subst e;exact ih
   rw[KN];exact ih
 have p0:=mC (x:=x) (y:=y) (w:=w) (h:=h) (a:=a) (b:=b) (c:=c) (d:=d) (by lia);rw[kS (fun z=>by rw[z]at p0;exact absurd p0 (Lf _)) p (x,y+a)];unfold jD;rw[g2]
 rfl
theorem DB(h0:∀p,F (p,p)=0){l:List Pt}:∀{p:Pt},fI F p (ddl p l)=fI F p l:=by
 induction l with
 |nil=>intro p;rfl
 |cons q l ih=>
  intro p;rw[ddl,fI];split
  ·rename_i e;subst e;rw[ih,h0,L5]
  rw[fI,ih]
theorem EC{l:List Pt}:∀{p:Pt},z∈l->z∈ddl p l\/z=p:=by
 induction l with
 |nil=>intro p m;cases m
 |cons q l ih=>
  intro p m;rw[ddl];rcases h_.mp m with rfl|m
  ·split
   ·rename_i e;exact .inr e
   exact .inl (.head _)
  split
  ·rename_i e;rcases ih (p:=q) m with g|g
   ·exact .inl g
   exact .inr (g.trans e)
  rcases ih (p:=q) m with g|g
  ·exact .inl (.tail _ g)
  rw[g];exact .inl (.head _)
theorem oE{b:Int}(hw:0<w)(m:z∈oW x y w h a b c d):z∈jD x y w h a b c d:=by
 rcases EC (p:=(x,y+a)) m with g|g
 ·exact g
 have e:=uo (x:=x) (y:=y) (w:=w) (h:=h) (a:=a) (b:=b) (c:=c) (d:=d) hw (p:=(0,0));have p0:=mC (x:=x) (y:=y) (w:=w) (h:=h) (a:=a) (b:=b) (c:=c) (d:=d) (by lia);rw[g,<-e];generalize jD x y w h a b c d=l at *;rw[Lk,LK,e_ (by lia)];exact KY _
theorem F9{b:Int}(hw:7<=w)(hh:1<=h)(ha:0<=a/\a<=min w h/2)(hb:0<=b/\b<=min w h/2)(hc:0<=c/\c<=min w h/2)(hd:0<=d/\d<=min w h/2):Thr (jD x y w h a b c d):=by
 refine oZ (x:=x) (y:=y+max a b) hw fun j j0 j1=>⟨?_,⟨(x,y+a),oE (by lia) (.tail _ (.tail _ (.tail _ (.tail _ (.tail _ (.tail _ (.tail _ (.head _)))))))),by dsimp only;lia⟩,⟨(x+w,y+b),oE (by lia) (.tail _ (.tail _ (.head _))),by dsimp only;lia⟩,⟨(x+a,y),oE (by lia) (.head _),by dsimp only;lia⟩,(x+d,y+h),oE (by lia) (.tail _ (.tail _ (.tail _ (.tail _ (.tail _ (.head _)))))),by dsimp only;lia⟩
 unfold lL;rw[uo (by lia)];show fI _ (x,y+a) (ddl (x,y+a) _)%2=1;rw[DB fun _=>xX];generalize es:((8*(x+j)+4,8*(y+max a b)+1):Pt)=s;have e1:cr s ((x,y+a),(x+a,y))=upI s (x+a) y (-1) a:=by have:=up0 (s:=s) (a:=x+a) (b:=y) (u:=-1) (k:=a) (.inr (.inr rfl)) ha.1;rw[show x+a + -1*a=x by lia]at this;exact sV.trans this
 have e2:cr s ((x+w-b,y),(x+w,y+b))=upI s (x+w-b) y 1 b:=by have:=up0 (s:=s) (a:=x+w-b) (b:=y) (u:=1) (k:=b) (.inr (.inl rfl)) hb.1;rwa[show x+w-b+1*b=x+w by lia]at this
 have e4:cr s ((x+w,y+h-c),(x+w-c,y+h))=upI s (x+w) (y+h-c) (-1) c:=by have:=up0 (s:=s) (a:=x+w) (b:=y+h-c) (u:=-1) (k:=c) (.inr (.inr rfl)) hc.1;rwa[show x+w + -1*c=x+w-c by lia,show y+h-c+c=y+h by lia]at this
 have e5:cr s ((x+d,y+h),(x,y+h-d))=upI s x (y+h-d) 1 d:=by have:=up0 (s:=s) (a:=x) (b:=y+h-d) (u:=1) (k:=d) (.inr (.inl rfl)) hd.1;rw[show x+1*d=x+d by lia,show y+h-d+d=y+h by lia]at this;exact sV.trans this
 unfold oW;simp only[fI,e1,e2,e4,e5,jX];rw[vup (by lia),vdn (by lia)];have z1:upI s (x+a) y (-1) a=0:=by subst es;exact if_neg (by dsimp only;lia)
 have z2:upI s (x+w-b) y 1 b=0:=by subst es;exact if_neg (by dsimp only;lia)
 have z5:upI s x (y+h-d) 1 d=0:=by subst es;exact if_neg (by dsimp only;lia)
 have z6:upI s x (y+a) 0 (y+h-d-(y+a))=0:=by subst es;exact if_neg (by dsimp only;lia)
 rw[z1,z2,z5,z6];by_cases g:max a b<h-c
 ·have z3:upI s (x+w) (y+b) 0 (y+h-c-(y+b))=1:=by subst es;exact if_pos (by dsimp only;lia)
  have z4:upI s (x+w) (y+h-c) (-1) c=0:=by subst es;exact if_neg (by dsimp only;lia)
  rw[z3,z4]
  rfl
 have z3:upI s (x+w) (y+b) 0 (y+h-c-(y+b))=0:=by subst es;exact if_neg (by dsimp only;lia)
 have z4:upI s (x+w) (y+h-c) (-1) c=1:=by subst es;exact if_pos (by dsimp only;lia)
 rw[z3,z4]
 rfl
theorem IB{l:Int}(hl:7<=l):Thr [(x,y),(x+l,y),(x,y+l)]:=by
 refine oZ (x:=x) (y:=y) hl fun j j0 j1=>⟨?_,⟨_,.head _,by dsimp only;lia⟩,⟨_,.tail _ (.head _),by dsimp only;lia⟩,⟨_,.head _,by dsimp only;lia⟩,_,.tail _ (.tail _ (.head _)),by dsimp only;lia⟩
 generalize es:((8*(x+j)+4,8*y+1):Pt)=s;have e2:cr s ((x+l,y),(x,y+l))=upI s (x+l) y (-1) l:=by have:=up0 (s:=s) (a:=x+l) (b:=y) (u:=-1) (k:=l) (.inr (.inr rfl)) (by lia);rwa[show x+l + -1*l=x by lia]at this
 show fI (cr s) (x,y+l) [(x,y),(x+l,y),(x,y+l)]%2=1;simp only[fI,jX,e2];rw[vdn (by lia)];have z1:upI s x y 0 (y+l-y)=0:=by subst es;exact if_neg (by dsimp only;lia)
 have z2:upI s (x+l) y (-1) l=1:=by subst es;exact if_pos (by dsimp only;lia)
 rw[z1,z2]
 rfl
variable {v:Int}
theorem Ip{u:Int}(h0:7<=w)(h1:0<v)(h2:v<h):Thr [(0,0),(w,0),(w,v),(u,v),(u,h),(0,h)]:=by
 refine oZ (x:=0) (y:=0) h0 fun j j0 j1=>⟨?_,⟨_,.head _,by dsimp only;lia⟩,⟨_,.tail _ (.head _),by dsimp only;lia⟩,⟨_,.head _,by dsimp only;lia⟩,_,.tail _ (.tail _ (.head _)),by dsimp only;omega⟩
 generalize es:((8*(0+j)+4,8*0+1):Pt)=s;show fI (cr s) (0,h) [(0,0),(w,0),(w,v),(u,v),(u,h),(0,h)]%2=1;simp only[fI,jX];rw[vdn (by lia),vup (by lia),vup (by lia)];have z1:upI s 0 0 0 (h-0)=0:=by subst es;exact if_neg (by dsimp only;lia)
 have z2:upI s w 0 0 (v-0)=1:=by subst es;exact if_pos (by dsimp only;lia)
 have z3:upI s u v 0 (h-v)=0:=by subst es;exact if_neg (by dsimp only;lia)
 rw[z1,z2,z3]
 rfl
theorem J2{u:Int}(h0:7<=w)(h1:0<v)(h2:v<h):Thr [(0,0),(w,0),(w,h),(w-u,h),(w-u,v),(u,v),(u,h),(0,h)]:=by
 refine oZ (x:=0) (y:=0) h0 fun j j0 j1=>⟨?_,⟨_,.head _,by dsimp only;lia⟩,⟨_,.tail _ (.head _),by dsimp only;lia⟩,⟨_,.head _,by dsimp only;lia⟩,_,.tail _ (.tail _ (.head _)),by dsimp only;lia⟩
 generalize es:((8*(0+j)+4,8*0+1):Pt)=s;show fI (cr s) (0,h) [(0,0),(w,0),(w,h),(w-u,h),(w-u,v),(u,v),(u,h),(0,h)]%2=1;simp only[fI,jX];rw[vdn (by lia),vup (by lia),vdn (by lia),vup (by lia)];have z1:upI s 0 0 0 (h-0)=0:=by subst es;exact if_neg (by dsimp only;lia)
 have z2:upI s w 0 0 (h-0)=1:=by subst es;exact if_pos (by dsimp only;lia)
 have z3:upI s (w-u) v 0 (h-v)=0:=by subst es;exact if_neg (by dsimp only;lia)
 have z4:upI s u v 0 (h-v)=0:=by subst es;exact if_neg (by dsimp only;lia)
 rw[z1,z2,z3,z4]
 rfl
theorem JX{u p r:Int}(h0:7<=w)(h1:0<p)(h2:p<r)(h3:r<h):Thr [(0,0),(u,0),(u,p),(w-u,p),(w-u,0),(w,0),(w,h),(w-u,h),(w-u,r),(u,r),(u,h),(0,h)]:=by
 refine oZ (x:=0) (y:=p) h0 fun j j0 j1=>⟨?_,⟨_,.head _,by dsimp only;lia⟩,⟨_,.tail _ (.tail _ (.tail _ (.tail _ (.tail _ (.head _))))),by dsimp only;lia⟩,⟨_,.head _,by dsimp only;lia⟩,_,.tail _ (.tail _ (.tail _ (.tail _ (.tail _ (.tail _ (.head _)))))),by dsimp only;lia⟩
 generalize es:((8*(0+j)+4,8*p+1):Pt)=s;show fI (cr s) (0,h) [(0,0),(u,0),(u,p),(w-u,p),(w-u,0),(w,0),(w,h),(w-u,h),(w-u,r),(u,r),(u,h),(0,h)]%2=1;simp only[fI,jX];rw[vdn (by lia),vup (by lia),vdn (by lia),vup (by lia),vdn (by lia),vup (by lia)];have z1:upI s 0 0 0 (h-0)=0:=by subst es;exact if_neg (by dsimp only;lia)
 have z2:upI s u 0 0 (p-0)=0:=by subst es;exact if_neg (by dsimp only;lia)
 have z3:upI s (w-u) 0 0 (p-0)=0:=by subst es;exact if_neg (by dsimp only;lia)
 have z4:upI s w 0 0 (h-0)=1:=by subst es;exact if_pos (by dsimp only;lia)
 have z5:upI s (w-u) r 0 (h-r)=0:=by subst es;exact if_neg (by dsimp only;lia)
 have z6:upI s u r 0 (h-r)=0:=by subst es;exact if_neg (by dsimp only;lia)
 rw[z1,z2,z3,z4,z5,z6]
 rfl
theorem Ik{u:Int}{q:Pt}:sgE ((u+p.1,v+p.2),(u+q.1,v+q.2))=sgE (p,q):=by unfold sgE;dsimp only;rw[show u+q.1-(u+p.1)=q.1-p.1 by lia]
theorem Iq{u:Int}{q:Pt}:cr (8*u+s.1,8*v+s.2) ((u+p.1,v+p.2),(u+q.1,v+q.2))=cr s (p,q):=by
 unfold cr;have k:crB (8*u+s.1,8*v+s.2) ((u+p.1,v+p.2),(u+q.1,v+q.2))=crB s (p,q):=by
  unfold crB;rw[Ik];dsimp only;congr 1
  ·rw[decide_eq_decide];lia
  rw[decide_eq_decide,show 8*v+s.2-min (v+p.2) (v+q.2)*8=s.2-min p.2 q.2*8 by lia];have k:v+q.2<v+p.2↔q.2<p.2:=by lia
  simp only[k];by_cases g:q.2<p.2
  ·rw[if_pos g,if_pos g,if_pos g];lia
  rw[if_neg g,if_neg g,if_neg g];lia
 rw[k]
theorem D5{u:Int}(h:Wi ps x y):Wi (ps.map fun p=>((u+p.1,v+p.2):Pt)) (u+x) (v+y):=by
 obtain⟨h1,⟨p1,m1,g1⟩,⟨p2,m2,g2⟩,⟨p3,m3,g3⟩,p4,m4,g4⟩:=h;have e:∀(l:List Pt) (p:Pt),fI (cr (8*(u+x)+4,8*(v+y)+1)) (u+p.1,v+p.2) (l.map fun p=>((u+p.1,v+p.2):Pt))=fI (cr (8*x+4,8*y+1)) p l:=fun l=>by
  induction l with
  |nil=>exact fun _=>rfl
  |cons q l ih=>
   intro p;rw[c_,fI,fI,ih,show 8*(u+x)+4=8*u+(8*x+4) by lia,show 8*(v+y)+1=8*v+(8*y+1) by lia];exact congrArg (·+_) (Iq (s:=(8*x+4,8*y+1)))
 refine⟨?_,⟨_,v_ m1,by dsimp only;lia⟩,⟨_,v_ m2,by dsimp only;lia⟩,⟨_,v_ m3,by dsimp only;lia⟩,_,v_ m4,by dsimp only;lia⟩;refine Ow (congrArg (·%2) ?_) h1;cases ps with
 |nil=>rfl
 |cons p l=>
  unfold lL;refine Ow ?_ (e (p::l) ((p::l).getLastD (0,0)));rw[c_,KN,KN,show(l.map fun p=>((u+p.1,v+p.2):Pt)).getLastD (u+p.1,v+p.2)=(u+(l.getLastD p).1,v+(l.getLastD p).2)from ?_];rw[Lk,Lk,List.getLast?_map];cases l.getLast? <;> rfl
theorem Hu{u:Int}(h:Thr ps):Thr (ps.map fun p=>((u+p.1,v+p.2):Pt)):=by obtain⟨x,y,h1,h2,h3⟩:=h;exact⟨u+x,v+y,D5 h1,by have:=D5 (u:=u) (v:=v) h2;rwa[<-Ny]at this,by have:=D5 (u:=u) (v:=v) h3;rwa[<-Ny]at this⟩
theorem z0{k l b:Int}(h0:bR k x)(h1:bR l y)(h2:bR k (x+w))(h3:bR l (y+h))(h4:bR k (x+a))(h5:bR k (x+w-b))(h6:bR l (y+b))(h7:bR l (y+h-c))(h8:bR k (x+w-c))(h9:bR k (x+d))(h10:bR l (y+h-d))(h11:bR l (y+a)):inR k l (jD x y w h a b c d):=
 xh fun p q=>iY (l:=oW x y w h a b c d) ⟨⟨h4,h1⟩,⟨h5,h1⟩,⟨h2,h6⟩,⟨h2,h7⟩,⟨h8,h3⟩,⟨h9,h3⟩,⟨h0,h10⟩,⟨h0,h11⟩,trivial⟩ (yG q)
theorem yz{l:List α}{i:Int}(h0:0<=i)(h1:i<l.length):∃x,x∈l/\atI l i=some x:=by
 have h:i.toNat<l.length:=by lia
 refine⟨l[i.toNat],KY h,?_⟩;have:=iG (xs:=l) (j:=i.toNat) (e_ h);rwa[Int.toNat_of_nonneg h0]at this
variable {ns:List Int}
theorem n5(P:Int->Prop){i:Int}(h0:0<=i)(h1:i<ns.length)(hp:∀x∈ns,P x):∃v,atI (ns.map T.int) i=some (.int v)/\P v:=by obtain⟨t,m,e⟩:=yz (l:=ns.map T.int) h0 (by rw[a_];exact h1);obtain⟨v,mv,rfl⟩:=n_.mp m;exact⟨v,e,hp v mv⟩
theorem four{P:Int->Prop}(h:cs.length=4)(hp:∀v∈cs,P v):∃a b c d,cs=[a,b,c,d]/\P a/\P b/\P c/\P d:=by
 match cs,h with
 | [a,b,c,d],_=>exact⟨a,b,c,d,rfl,hp a (.head _),hp b (.tail _ (.head _)),hp c (.tail _ (.tail _ (.head _))),hp d (.tail _ (.tail _ (.tail _ (.head _))))⟩
theorem K2:mQ ts (some (n:Int)) none=ts.drop n:=by
 unfold mQ;rw[HT.uM,HT.yt];rcases Nat.le_total n ts.length with h|h
 ·rw[LQ h,Mq (by rw[KU];lia)]
 rw[Nat.min_eq_right h,Nj (b_ _),Nj h,Nv]
theorem Jv{m:Int}(h:0<=m)(h2:m<ts.length):mQ ts (some m) none=ts.drop m.toNat/\mQ ts none (some m)=ts.take m.toNat:=by
 obtain⟨n,rfl⟩:=Int.eq_ofNat_of_zero_le h;refine⟨K2,?_⟩;unfold mQ;rw[HT.uM,HT.yt,LQ (by lia)]
 rfl
theorem G4{p q:Pt}{k:T->Prop}:neT (ptP p) (ptP q) k=k (.bl (decide (p≠q))):=by unfold ptP;rw[Ha,<-decide_not];congr 2;rw[decide_eq_decide];exact not_congr ⟨fun h=>L8 h.1 h.2,fun h=>by rw[h];exact⟨rfl,rfl⟩⟩
noncomputable def edL:List (List Pt):=[[(1,0),(1,1)],[(0,1),(1,1)],[(0,0),(0,1)],[(0,0),(1,0)]]
noncomputable def ptM(q:Qt):List Pt:=(2*q.1+1,2*q.2.1+1)::(edL.getD q.2.2 []).map fun e=>(2*(q.1+e.1),2*(q.2.1+e.2))
def inM(t:Tl)(q:Qt):Bool:=(ptM q).all fun p=>decide ((p.1.natAbs:Int)+p.2.natAbs<=2*(t.1+t.2.1))
theorem xV{s:Nat}(h:s<4):atI [T.lst true [.tup [.int 1,.int 0],.tup [.int 1,.int 1]],.lst true [.tup [.int 0,.int 1],.tup [.int 1,.int 1]],.lst true [.tup [.int 0,.int 0],.tup [.int 0,.int 1]],.lst true [.tup [.int 0,.int 0],.tup [.int 1,.int 0]]] (s:Int)=some (.lst true ((edL.getD s []).map ptP))/\(edL.getD s []).length=2:=by
 match s,h with
 |0,_=>exact⟨rfl,rfl⟩
 |1,_=>exact⟨rfl,rfl⟩
 |2,_=>exact⟨rfl,rfl⟩
 |3,_=>exact⟨rfl,rfl⟩
theorem xB{a b:Qt}(h:ltQ a b):ZS.ltL (qC b) (qC a)=false:=by
 unfold ltQ at h;unfold qC;rw[ZS.ltL,ZS.ltL,ZS.ltL,ZS.ltL];split
 ·split
  ·split
   ·rfl
   exact decide_eq_false (by lia)
  exact decide_eq_false (by lia)
 exact decide_eq_false (by lia)
theorem xI(h:upQ qs):vZ (fY qs)=fY qs:=(tR ZS.qD (List.Perm.refl _) (I_.mpr (h.imp xB))).symm
def mkC(r k x:Int)(m:Nat):List Qt:=u6 (fun y=>cellQ (fun s=>inM (r,k,0,0,0) (x,y,s)) x y) (-r) m
def mkN(r k:Int)(n:Nat):List Qt:=u6 (fun x=>mkC r k x (r - -r).toNat) (-r) n
theorem mk_eq(h:tlO t):mkN t.1 t.2.1 (t.1 - -t.1).toNat=nrQ t:=by
 obtain⟨r,k,a,b,c⟩:=t;obtain⟨h1,h2,h3,h4⟩:=h;show mkN r k (r - -r).toNat=nrQ (r,k,0,0,0);dsimp only at h1 h2 h3 h4;have e:(r=2/\k=1\/r=3/\k=1\/r=3/\k=2)\/r=4/\k=1\/r=4/\k=2\/r=4/\k=3:=by lia
 rcases e with (⟨rfl,rfl⟩|⟨rfl,rfl⟩|⟨rfl,rfl⟩)|⟨rfl,rfl⟩|⟨rfl,rfl⟩|⟨rfl,rfl⟩ <;> rfl'
theorem Gu{r k:Int}{j s:Nat}:((-r+(i:Int),-r+(j:Int),s):Qt) ∉ mkN r k i++mkC r k (-r+i) j++((A' s).filter fun s=>inM (r,k,0,0,0) (-r+i,-r+j,s)).map fun s=>(-r+(i:Int),-r+(j:Int),s):=by
 intro h;unfold mkN mkC at h;rcases F_.mp h with h|h
 ·rcases F_.mp h with h|h
  ·obtain⟨k,hk,mk⟩:=oO h;obtain⟨k',_,mk'⟩:=oO mk;have:=(vc mk').1;dsimp only at this;lia
  obtain⟨k,hk,mk⟩:=oO h;have:=(vc mk).2.1;dsimp only at this;lia
 obtain⟨s',m',e⟩:=n_.mp h;have:=Lz.mp (La.mp m').1;have:=(NH.mp (NH.mp e).2).2;dsimp only at this;omega
theorem G5{r k:Int}{j s:Nat}(hm:(r - -r).toNat<=100):(mkN r k i++mkC r k (-r+i) j++((A' s).filter fun s=>inM (r,k,0,0,0) (-r+i,-r+j,s)).map fun s=>((-r+(i:Int),-r+(j:Int),s):Qt)).length<=400*i+4*j+s:=by have lc:∀x m,(mkC r k x m).length<=4*m:=fun x m=>tJ (fun y=>nC _ _ _) m;have l1:(mkN r k i).length<=400*i:=tJ (fun x=>B' (lc x _) (by lia)) i;have l2:=lc (-r+i) j;have l3:=L4 (fun s=>inM (r,k,0,0,0) (-r+i,-r+j,s)) (A' s);rw[K_]at l3;rw[gV,gV,a_];lia
theorem HI{K:OA}{t:T}(h:Scr K t ns):er t=t/\isAny t=false:=by
 rcases h with rfl|⟨a,rfl,_⟩
 ·exact⟨by simp only[er,cF],rfl⟩
 exact⟨rfl,rfl⟩
theorem AV{c:Cells}:dy (stT c n)=true:=by simp only[stT,dy,qv,aV,dA,LI,Nw]
theorem BM(rs:List Qt):∃rs':List Qt,rs'.Perm rs/\vZ (fY rs)=fY rs':=by obtain⟨l,p,e⟩:=L2.zP (ny (lt:=ZS.ltL) (fY rs)) rs rfl;exact⟨l,p,e.symm⟩
def cbT(b o:Bool)(p:Pt):T:=if b then .lst o [.int p.1,.int p.2]else ptP p
theorem fU:er (cbT b o p)=cbT b false p:=by cases b <;> rfl
theorem cz:isAny (cbT b o p)=false:=by cases b <;> rfl
theorem cC:aU (cbT b false p)=true:=by cases b <;> rfl
theorem eh{k:T->Prop}:ixT (cbT b o p) (.int 0) k=k (.int p.1):=by cases b <;> rfl
theorem eW{k:T->Prop}:ixT (cbT b o p) (.int 1) k=k (.int p.2):=by cases b <;> rfl
noncomputable def nA(qs:List Qt)(q:Qt):List Qt:=if q∈qs then qs else qs++[q]
def addQ(qs rs:List Qt):List Qt:=rs.foldl nA qs
theorem CC:iR (dQ qs) (kQ q) (.bl true)=dQ (nA qs q):=by
 unfold nA;by_cases h:q∈qs
 ·rw[if_pos h];unfold iR dQ;rw[if_pos,D_]
  ·refine Ly fun k m=>?_;dsimp only[Xf];split
   ·rename_i e;rw[e]
   rfl
  exact Lu.mpr ⟨(kQ q,T.bl true),v_ (v_ h),decide_eq_true rfl⟩
 rw[if_neg h];exact tf h
theorem B0{z:Qt}:z∈nA qs q↔z∈qs\/z=q:=by
 unfold nA;by_cases h:q∈qs
 ·rw[if_pos h];exact⟨.inl,fun g=>g.elim id fun e=>e▸h⟩
 rw[if_neg h,F_,y_]
variable {rs:List Qt}
theorem BX:∀{qs:List Qt}{z:Qt},z∈addQ qs rs↔z∈qs\/z∈rs:=by
 induction rs with
 |nil=>intro qs z;exact⟨.inl,fun h=>h.elim id fun m=>by cases m⟩
 |cons q rs ih=>
  intro qs z;show z∈addQ (nA qs q) rs↔_;rw[ih,B0,h_,or_assoc]
theorem Ew(h:qs.Nodup):(nA qs q).Nodup:=by
 unfold nA;by_cases g:q∈qs
 ·rw[if_pos g];exact h
 rw[if_neg g];exact Lq.mpr ⟨h,by simp,fun a ma b mb e=>g (by rw[<-y_.mp mb,<-e];exact ma)⟩
theorem E3:∀{qs:List Qt},qs.Nodup->(addQ qs rs).Nodup:=by
 induction rs with
 |nil=>intro qs h;exact h
 |cons q rs ih=>intro qs h;exact ih (Ew h)
theorem Bc:(nA qs q).length<=qs.length+1:=by
 unfold nA;split
 ·lia
 rw[gV];exact b_ _
theorem pM:∀{qs:List Qt},(addQ qs rs).length<=qs.length+rs.length:=by
 induction rs with
 |nil=>intro qs;exact b_ _
 |cons q rs ih=>
  intro qs;have h1:=ih (qs:=nA qs q);have h2:=Bc (qs:=qs) (q:=q);show(addQ (nA qs q) rs).length<=_;rw[g_];lia
theorem rA(e:rs[i]?=some q):addQ qs (rs.take (i+1))=nA (addQ qs (rs.take i)) q:=by
 unfold addQ;rw[KI,e,MW]
 rfl
def iM(M:List Qt)(ps:List Pt):List Qt:=ps.foldl (fun qs p=>addQ qs (M.map (mvQ p))) []
variable {M:List Qt}
theorem rj(e:ps[i]?=some p):iM M (ps.take (i+1))=addQ (iM M (ps.take i)) (M.map (mvQ p)):=by
 unfold iM;rw[KI,e,MW]
 rfl
theorem HB:∀{qs:List Qt}{z:Qt},z∈ps.foldl (fun qs p=>addQ qs (M.map (mvQ p))) qs↔z∈qs\/∃p∈ps,∃m∈M,z=mvQ p m:=by
 induction ps with
 |nil=>intro qs z;exact⟨.inl,fun h=>h.elim id fun⟨_,m,_⟩=>by cases m⟩
 |cons p ps ih=>
  intro qs z;rw[Lw,ih,BX,or_assoc];refine or_congr_right ⟨fun h=>?_,fun⟨p',mp,m,mm,e⟩=>?_⟩
  ·rcases h with h|⟨p',mp,h⟩
   ·obtain⟨m,mm,e⟩:=n_.mp h;exact⟨p,.head _,m,mm,e.symm⟩
   exact⟨p',.tail _ mp,h⟩
  rcases h_.mp mp with rfl|mp
  ·exact .inl (n_.mpr ⟨m,mm,e.symm⟩)
  exact .inr ⟨p',mp,m,mm,e⟩
theorem ur{z:Qt}:z∈iM M ps↔∃p∈ps,∃m∈M,z=mvQ p m:=HB.trans ⟨fun h=>h.elim (fun m=>by cases m) id,.inr⟩
theorem IG:∀{qs:List Qt},qs.Nodup->(ps.foldl (fun qs p=>addQ qs (M.map (mvQ p))) qs).Nodup:=by
 induction ps with
 |nil=>intro qs h;exact h
 |cons p ps ih=>intro qs h;exact ih (E3 h)
theorem Bg:∀{qs:List Qt},(ps.foldl (fun qs p=>addQ qs (M.map (mvQ p))) qs).length<=qs.length+M.length*ps.length:=by
 induction ps with
 |nil=>intro qs;exact b_ _
 |cons p ps ih=>
  intro qs;have h1:=ih (qs:=addQ qs (M.map (mvQ p)));have h2:=pM (qs:=qs) (rs:=M.map (mvQ p));rw[a_]at h2;rw[Lw,g_,Of];lia
theorem sF[DecidableEq α]{l:List α}:∀{m:List α},l.Nodup->(∀x∈l,x∈m)->l.length<=m.length:=by
 induction l with
 |nil=>exact fun _ _=>F' _
 |cons x l ih=>
  intro m nd h;obtain⟨n1,n2⟩:=C_.mp nd;have hx:=h x x_;have:=ih (m:=m.erase x) n2 fun y hy=>(Nt (fun e:y=x=>n1 (by rw[<-e];exact hy))).mpr (h y (m_ _ hy))
  rw[M7 hx]at this;have:=Ms hx;rw[g_];lia
noncomputable def uO(a b:List Qt):Bool:=(a.all fun z=>decide (z∈b))&&b.all fun z=>decide (z∈a)
theorem pR{a b:List Qt}:uO a b=true↔∀z,z∈a↔z∈b:=by unfold uO;rw[G',KW,KW];exact⟨fun h z=>⟨fun m=>of_decide_eq_true (h.1 z m),fun m=>of_decide_eq_true (h.2 z m)⟩,fun h=>⟨fun z m=>decide_eq_true ((h z).mp m),fun z m=>decide_eq_true ((h z).mpr m)⟩⟩
theorem EY{a b:List Qt}(ha:a.Nodup)(hb:b.Nodup):A0 ((dQ a).map (·.1)) ((dQ b).map (·.1))=uO a b:=by
 have e:∀l:List Qt,(dQ l).map (·.1)=l.map kQ:=fun l=>by unfold dQ;rw[D_];exact Oa _
 have m:∀{l:List Qt}{q:Qt},kQ q∈l.map kQ↔q∈l:=fun{l q}=>⟨fun h=>by obtain⟨r,mr,e⟩:=n_.mp h;exact nE e▸mr,v_⟩
 refine Nd.mpr ?_;rw[uh,pR,e,e,a_,a_];constructor
 ·rintro⟨l,h⟩ z;have sub:a ⊆ b:=fun x mx=>m.mp (h _ (v_ mx));refine⟨fun mx=>sub mx,fun mz=>?_⟩;by_cases g:z∈a
  ·exact g
  have:=sF (C_.mpr ⟨g,ha⟩) (m:=b) fun x mx=>(h_.mp mx).elim (fun e=>e▸mz) fun m=>sub m;rw[g_]at this;lia
 intro h;have p:a.Perm b:=(List.perm_ext_iff_of_nodup ha hb).mpr h;refine⟨p.length_eq,fun k mk=>?_⟩;obtain⟨q,mq,rfl⟩:=n_.mp mk;exact v_ ((h q).mp mq)
variable {o':Bool}
theorem FU{a b:List Qt}{k:T->Prop}(ha:a.Nodup)(hb:b.Nodup)(q:k (.bl (uO a b))):IJ (.dT o (dQ a)) (.dT o' (dQ b)) k:=
 ⟨_,_,_,_,rfl,rfl,by unfold dQ;simp only[D_];rfl,by unfold dQ;simp only[D_];rfl,by rw[EY ha hb];exact q⟩
theorem xS:(iM M ps).Nodup:=IG LY
theorem oH{g:α->β}{p:α->Bool}{l:List α}{x:α}(h:l[i]?=some x):((l.take (i+1)).filter p).map g=((l.take i).filter p).map g++if p x=true then [g x]else []:=by rw[KI,h,MN,q_];congr 1;show K' g (NP p [x])=_;rw[LC,N2];cases p x <;> rfl
theorem xf(h:tlO t):(nrQ t).length<=256:=by
 obtain⟨r,k,a,b,c⟩:=t;obtain⟨h1,h2,h3,h4⟩:=h;show(nrQ (r,k,0,0,0)).length<=256;dsimp only at h1 h2 h3 h4;have e:(r=2/\k=1\/r=3/\k=1\/r=3/\k=2)\/r=4/\k=1\/r=4/\k=2\/r=4/\k=3:=by lia
 rcases e with (⟨rfl,rfl⟩|⟨rfl,rfl⟩|⟨rfl,rfl⟩)|⟨rfl,rfl⟩|⟨rfl,rfl⟩|⟨rfl,rfl⟩ <;> rfl'
theorem dR{kvs:List (List Key×T)}{t:T}{k:T->Prop}:A5 (.dT true kvs) (qtT q) t k=A5 (.dT true kvs) (.tup [.int q.1,.int q.2.1,.int (q.2.2:Int)]) t k:=rfl
def kP(p:Pt):List Key:=kI (JY p)
def dP(ps:List Pt):List (List Key×T):=(ps.map kP).map fun k=>(k,T.bl true)
theorem wF{q r:Pt}(h:kP q=kP r):q=r:=by have h:=CN h;unfold JY at h;simp only[Lj,and_true]at h;exact L8 h.1 h.2
theorem HQ:(jl (dP ps) (kP p)).isSome=decide (p∈ps):=by
 unfold dP;rw[yH];by_cases m:p∈ps
 ·rw[if_pos (v_ m),decide_eq_true m]
  rfl
 rw[if_neg fun h=>?_,decide_eq_false m]
 ·rfl
 obtain⟨r,mr,e⟩:=n_.mp h;exact m (wF e▸mr)
theorem dY{q:Pt}{d:List (List Key×T)}{k:T->Prop}:inT (ptP q) (.dT o d) k=inT (.tup [.int q.1,.int q.2]) (.dT o d) k:=rfl
theorem gQ(ps:List Pt):erT (dP ps)=dP ps:=by
 unfold dP;induction ps with
 |nil=>rfl
 |cons a l ih=>rw[c_,c_,erT,ih];rfl
theorem bG(ps:List Pt):ik (dP ps)=true:=by
 unfold dP;induction ps with
 |nil=>rfl
 |cons a l ih=>rw[c_,c_,ik,ih];rfl
theorem oG(h:upQ qs):js (fY qs):=by
 refine .inr (.inl ?_);unfold fY;rw[I_];refine(h.and (yr h)).imp fun{a b} g=>?_;cases e:ZS.ltL (qC a) (qC b)with
 |true=>rfl
 |false=>exact absurd (nE (congrArg kI (ZS.qD.tot _ _ e (xB g.1)))) g.2
theorem AI(h:upQ qs):js (fY qs.reverse):=by
 refine .inr (.inr ?_);unfold fY;rw[I_,List.pairwise_reverse];refine(h.and (yr h)).imp fun{a b} g=>?_;cases e:ZS.ltL (qC a) (qC b)with
 |true=>rfl
 |false=>exact absurd (nE (congrArg kI (ZS.qD.tot _ _ e (xB g.1)))) g.2
noncomputable def Far(qs:List Qt)(n:Nat):Prop:=∃as:List Qt,n<=as.length/\as.Pairwise (fun a b=>a.1+3<=b.1)/\∀a∈as,a∈qs
theorem Eo(h:Thr ps)(g:∀x y,Wi ps x y->((x,y,3):Qt)∈qs):Far qs 3:=by
 obtain⟨x,y,h1,h2,h3⟩:=h;refine⟨[(x,y,3),(x+3,y,3),(x+6,y,3)],b_ _,?_,fun a m=>?_⟩
 ·simp only[Lo,h_,Ld,or_false,forall_eq_or_imp,forall_eq,MV,and_true,false_implies,implies_true];lia
 simp only[h_,Ld,or_false]at m;rcases m with rfl|rfl|rfl
 ·exact g _ _ h1
 ·exact g _ _ h2
 exact g _ _ h3
theorem Ez(h:Far qs (n+1)):0<qs.length:=by
 obtain⟨as,h1,_,h3⟩:=h;cases as with
 |nil=>exact absurd h1 (Nat.not_succ_le_zero _)
 |cons a l=>exact Ms (h3 a (.head _))
variable {as:List Qt}
theorem EH(h:as.Pairwise fun a b=>a.1+3<=b.1):as.length<=(as.filter fun a=>decide ¬(c<=a.1/\a.1<c+3)).length+1:=by
 induction as with
 |nil=>exact F' _
 |cons a l ih=>
  obtain⟨h1,h2⟩:=Lo.mp h;by_cases g:c<=a.1/\a.1<c+3
  ·rw[LC,if_neg (by rw[decide_eq_true_iff];exact not_not_intro g),List.filter_eq_self.mpr fun b m=>decide_eq_true (by have:=h1 b m;lia)];exact b_ _
  rw[LC,if_pos (decide_eq_true g)];exact LA (ih h2)
theorem CJ(hl:n<=as.length)(h:as.Pairwise fun a b=>a.1+3<=b.1)(g:∀a∈as,¬(c<=a.1/\a.1<c+3)->a∈qs):Far qs (n-1):=
 ⟨as.filter fun a=>decide ¬(c<=a.1/\a.1<c+3),by have:=EH (c:=c) h;omega,h.sublist List.filter_sublist,fun a m=>g a (La.mp m).1 (of_decide_eq_true (La.mp m).2)⟩
theorem Ia(hw:0<=w):∀p∈jD x y w h 0 0 0 0,x<=p.1/\p.1<=x+w:=fun p m=>by have m:=yG m;unfold oW at m;simp only[h_,Ld,or_false]at m;rcases m with rfl|rfl|rfl|rfl|rfl|rfl|rfl|rfl <;> exact⟨by dsimp only;lia,by dsimp only;lia⟩
theorem FC(ps:List Pt):isD (.lst o (ps.map ptP))=true/\dpt (dt (.lst o (ps.map ptP)))<=2:=by
 have h:l9 (ps.map ptP)=true/\i8 (dtL (ps.map ptP))<=1:=by
  induction ps with
  |nil=>exact⟨rfl,by simp only[LX,dtL,i8,F']⟩
  |cons a l ih=>
   have g:Gd (ptP a) 1:=Gq (fN xJ (fN xJ lV));exact⟨by rw[c_,l9,ih.1,g.1];rfl,by rw[c_,dtL,i8];exact Ou.mpr ⟨g.2,ih.2⟩⟩
 exact⟨by rw[isD];exact h.1,by rw[dt,dpt];exact LA h.2⟩
theorem uP(ps:List Pt):eqD (dt (.lst o (ps.map ptP))) (dt (.lst o' []))=decide (ps=[]):=by
 cases ps with
 |nil=>simp[dt,dtL,eqD,eqL]
 |cons a l=>simp[dt,dtL,eqD,eqL]
theorem DW{k:T->Prop}(q:k (.bl (!decide (ps=[])))):neT (.lst o (ps.map ptP)) (.lst o' []) k:=by have g:=FC (o:=o) ps;exact⟨g.1,rfl,Lb g.2 (by decide),by rw[uP];exact q⟩
theorem AY(nd:ps.Nodup)(h:∀p∈ps,(p.1,p.2,0)∈rs):ps.length<=rs.length:=by
 have:=sF (l:=ps.map fun p=>((p.1,p.2,0):Qt)) (m:=rs) (I_.mpr (nd.imp fun{a b} g e=>g (by
  simp only[Prod.mk.injEq,and_true]at e;exact L8 e.1 e.2))) fun z m=>by
  obtain⟨p,mp,rfl⟩:=n_.mp m;exact h p mp
 rwa[a_]at this
theorem rB:∀(r a:List (List Key×T)),((a++r).map (·.1)).Nodup->r.foldl (fun a x=>iR a x.1 x.2) a=a++r:=fun r=>by
 induction r with
 |nil=>exact fun a _=>(J' a).symm
 |cons x r ih=>
  intro a h;have e:iR a x.1 x.2=a++[x]:=by unfold iR;rw[if_neg];intro g;obtain⟨y,my,ey⟩:=Lu.mp g;rw[q_]at h;exact(Mc.mp h).2.2 y.1 (v_ my) x.1 (.head _) (of_decide_eq_true ey)
  rw[Lw,e,ih (a++[x]) (by rw[o_];exact h),o_]
  rfl
def dD(l:List (Pt×Int)):List (List Key×T):=l.map fun x=>(kP x.1,.int x.2)
abbrev Wc(n:Nat)(ps:List Pt)(way:Int)(l:List (Pt×Int))(N:Nat)(env:Ev):Prop:=∃(c':Cells) (n':Nat) (o u b:Bool) (qs:List Pt) (z5:T),n'<=n+N/\qs.length<=1610/\env=[stT c' n',.lst o (ps.map ptP),.int way,.dT u (dD l),.lst b (qs.map ptP),z5]
abbrev Wb(n:Nat)(ps:List Pt)(way:Int)(l:List (Pt×Int))(N M:Nat)(env:Ev):Prop:=∃(c':Cells) (n':Nat) (o u b:Bool) (qs:List Pt) (z5:T),n'<=n+N/\qs.length<=M/\env=[stT c' n',.lst o (ps.map ptP),.int way,.dT u (dD l),.lst b (qs.map ptP),z5]
abbrev Wd(n:Nat)(ps:List Pt)(way:Int)(l:List (Pt×Int))(N:Nat)(env:Ev):Prop:=∃(c':Cells) (n':Nat) (o u b:Bool) (qs:List Pt) (z5:T),n'<=n+N/\qs.length<=1610/\(way=2->qs=ps)/\env=[stT c' n',.lst o (ps.map ptP),.int way,.dT u (dD l),.lst b (qs.map ptP),z5]
theorem Ky{l:List (Pt×Int)}(h:p∈l.map (·.1)):∃n,jl (dD l) (kP p)=some (.int n):=by
 induction l with
 |nil=>cases h
 |cons a l ih=>
  by_cases e:a.1=p
  ·exact⟨a.2,by simp[dD,jl,e]⟩
  obtain⟨n,en⟩:=ih (List.mem_of_ne_of_mem (Qv e) h);exact⟨n,by rw[<-en];unfold jl dD;rw[c_,List.find?_cons_of_neg (by simpa using fun g=>e (wF g))]⟩
theorem Av(lo hi:Option Int):∃qs:List Pt,qs.length<=ps.length/\mQ (ps.map ptP) lo hi=qs.map ptP:=by unfold mQ;rw[<-MT,<-MU];exact⟨_,by rw[B_,KU];lia,rfl⟩
theorem yY(ps:List Pt):erL (ps.map ptP)=ps.map ptP:=by
 rw[cF]
 rfl
theorem oV(ps:List Pt):cL (ps.map ptP)=true:=by rw[aV];exact KW.mpr fun _ _=>rfl
theorem Eg{k:T->Prop}(q:k (.bl (decide (ps=[])))):eqT (.lst o (ps.map ptP)) (.lst o' []) k:=by have g:=FC (o:=o) ps;exact⟨g.1,rfl,Lb g.2 (by decide),by rw[uP];exact q⟩
def prD(x:Pt×Int):T:=.tup [ptP x.1,.int x.2]
theorem DL(l:List (Pt×Int)):pairsOf (l.map prD)=some (dD l):=by
 induction l with
 |nil=>rfl
 |cons a l ih=>rw[c_,pairsOf,ih];rfl
theorem DF(ps:List Pt):pairsOf (ps.map fun p=>T.tup [ptP p,.bl true])=some (dP ps):=by
 induction ps with
 |nil=>rfl
 |cons a l ih=>rw[c_,pairsOf,ih];rfl
theorem bF(l:List (Pt×Int)):ik (dD l)=true:=by
 unfold dD;induction l with
 |nil=>rfl
 |cons a l ih=>rw[c_,ik,ih];rfl
theorem g6(l:List (Pt×Int)):erT (dD l)=dD l:=by
 unfold dD;induction l with
 |nil=>rfl
 |cons a l ih=>rw[c_,erT,ih];rfl
theorem G0(h:ps.Nodup):(ps.map kP).Nodup:=I_.mpr (h.imp fun g e=>g (wF e))
theorem Jx(h:ps.Nodup):putAll (dP ps)=dP ps:=by refine rB _ [] ?_;unfold dP;rw[Lr,D_];exact(Nh _).symm▸G0 h
theorem IT{l:List (Pt×Int)}(h:(l.map (·.1)).Nodup):putAll (dD l)=dD l:=by refine rB _ [] ?_;unfold dD;rw[Lr,D_];have:=G0 h;rwa[D_]at this
theorem DZ{k:T->Prop}(h:ps.Nodup)(q:k (.dT true (dP ps))):yN [.lst true (ps.map fun p=>T.tup [ptP p,.bl true])] k:=by show got (pairsOf _) _;rw[DF];exact⟨bG ps,by rw[Jx h];exact q⟩
theorem Ep{l:List (Pt×Int)}{k:T->Prop}(h:(l.map (·.1)).Nodup)(q:k (.dT true (dD l))):yN [.lst true (l.map prD)] k:=by show got (pairsOf _) _;rw[DL];exact⟨bF l,by rw[IT h];exact q⟩
theorem cX(ps:List Pt):jT (dP ps)=true:=by
 unfold dP;induction ps with
 |nil=>rfl
 |cons a l ih=>rw[c_,c_,jT,ih];rfl
theorem dc(l:List (Pt×Int)):jT (dD l)=true:=by
 unfold dD;induction l with
 |nil=>rfl
 |cons a l ih=>rw[c_,jT,ih];rfl
theorem few(c:Int)(h:∀z∈ns,bR c z):∃bs:List Int,bs.length<64/\∀z∈ns,z∈bs:=
 ⟨(A' 21).map fun(j:Nat)=>c+j,by rw[a_,K_];decide,fun z m=>n_.mpr ⟨(z-c).toNat,Lz.mpr (by have:=h z m;unfold bR at this;lia),by have:=h z m;unfold bR at this;lia⟩⟩
theorem yE{g:α->T}(h:∀a,Gd (g a) n)(l:List α):GdL (l.map g) n:=by
 induction l with
 |nil=>exact lV
 |cons a l ih=>exact fN (h a) ih
theorem Jn(q:Qt):Gd (qbT b u q) 1:=by
 have g:=fN (xJ (i:=q.1) (n:=0)) (fN (xJ (i:=q.2.1)) (fN (xJ (i:=(q.2.2:Int))) lV));cases b
 ·exact Gq g
 exact De g
theorem IS(p:Pt):Gd (cbT b u p) 1:=by
 have g:=fN (xJ (i:=p.1) (n:=0)) (fN (xJ (i:=p.2)) lV);cases b
 ·exact Gq g
 exact De g
def hdT(o o1 o2 b u:Bool)(rs:List Qt)(ps:List Pt):T:=.lst o [.lst o1 (rs.map (qbT b u)),.lst o2 (ps.map (cbT b u))]
variable {o1 o2:Bool}
theorem FL:Gd (hdT o o1 o2 b u rs ps) 3:=De (fN (De (yE Jn rs)) (fN (De (yE IS ps)) lV))
theorem Ih:erL (ps.map (cbT b u))=ps.map (cbT b false):=by rw[cF];exact Ly fun k _=>fU
theorem Bu:er (hdT o o1 o2 b u rs ps)=hdT false false false b false rs ps:=by unfold hdT;rw[er,erL,erL,erL,er,er,vY,Ih]
theorem JQ{o1' o2' u':Bool}{k:T->Prop}(q:k (.bl false)):neT (hdT o o1 o2 b u rs ps) (hdT o' o1' o2' b u' rs ps) k:=by
 have g:=FL (o:=o) (o1:=o1) (o2:=o2) (b:=b) (u:=u) (rs:=rs) (ps:=ps);refine⟨g.1,FL.1,Lb g.2 (by decide),?_⟩;have e:dt (hdT o o1 o2 b u rs ps)=dt (hdT o' o1' o2' b u' rs ps):=by rw[<-Bt,Bu,<-Bu (o:=o') (o1:=o1') (o2:=o2') (u:=u'),Bt]
 rw[e,kA];exact q
theorem Hs(h:tlO t):(0,0,0)∈nrQ t:=by
 obtain⟨r,k,a,b,c⟩:=t;obtain⟨h1,h2,h3,h4⟩:=h;show(0,0,0)∈nrQ (r,k,0,0,0);dsimp only at h1 h2 h3 h4;have e:(r=2/\k=1\/r=3/\k=1\/r=3/\k=2)\/r=4/\k=1\/r=4/\k=2\/r=4/\k=3:=by lia
 rcases e with (⟨rfl,rfl⟩|⟨rfl,rfl⟩|⟨rfl,rfl⟩)|⟨rfl,rfl⟩|⟨rfl,rfl⟩|⟨rfl,rfl⟩ <;> rfl'
theorem Cu(qs:List Qt):cL (qs.map qtT)=true:=by rw[aV];exact dA qs
theorem CM{r:Int}(h:upQ qs)(h0:0<=r)(h1:r<2):∃rs:List Qt,atI [T.lst true (qs.map qtT),.lst true (qs.map qtT).reverse] r=some (.lst true (rs.map qtT))/\rs.Nodup/\js (fY rs)/\rs.length=qs.length/\∀q,q∈rs↔q∈qs:=by
 by_cases e:r=0
 ·subst e;exact⟨qs,rfl,yr h,oG h,rfl,fun _=>.rfl⟩
 cases (by lia:r=1);exact⟨qs.reverse,by rw[M8];rfl,(MX qs).nodup_iff.mpr (yr h),AI h,KO,fun _=>L_⟩
theorem En{a:List Qt}{cs:List Pt}(h:∀p,p∈cs↔p∈ps):uO a (iM M cs)=uO a (iM M ps):=by refine Nd.mpr ?_;rw[pR,pR];refine forall_congr' fun z=>iff_congr .rfl ?_;rw[ur,ur];exact⟨fun⟨p,m,g⟩=>⟨p,(h p).mp m,g⟩,fun⟨p,m,g⟩=>⟨p,(h p).mpr m,g⟩⟩
theorem Ge(h:∀q,q∈rs↔q∈qs)(h0:(0,0,0)∈M)(p:Pt):((p.1,p.2,0)∈rs/\∀m∈M,mvQ p m∈rs)↔∀m∈M,mvQ p m∈qs:=by refine⟨fun g m mm=>(h _).mp (g.2 m mm),fun g=>⟨(h _).mpr ?_,fun m mm=>(h _).mpr (g m mm)⟩⟩;have:=g _ h0;unfold mvQ at this;rwa[Ls,Ls]at this
abbrev Wl(z:T)(N:Nat)(env:Ev):Prop:=∃(c:Cells) (n:Nat) (z2 z3 z4 z5 z6 z7 z8 z9 z10 z11 z12 z13 z14 z15 z16 z17:T),n<=N/\env=[z,stT c n,z2,z3,z4,z5,z6,z7,z8,z9,z10,z11,z12,z13,z14,z15,z16,z17]
noncomputable def mE:=@Mp.G4
noncomputable def mN:=@PL.aL
end Mp
local macro_rules | `(tactic| walk_at "go")=>do
 let l<-("!PL.jc !PL.i7 !PL.jb !PL.fy !PL.gC !PL.gf !PL.dN !PL.gZ !PL.eE !PL.fu !PL.cq !PL.d8 !PL.fE !PL.cS !PL.eS !PL.fZ !PL.fA !PL.df !PL.fw !PL.eV !PL.gM !PL.dX !PL.dH !PL.dG !PL.dC !PL.cR !PL.d4 !PL.gS !PL.eG !PL.dM !PL.cZ !PL.eN !PL.dh !PL.e9 !PL.hC !PL.eF !PL.f9 !PL.gI !PL.eX !PL.bX !PL.eZ !PL.jg !PL.eC !PL.cO !PL.dJ !PL.d7 !PL.eO !PL.hJ !PL.gL !PL.gU !PL.hZ !PL.gG !PL.hV !PL.gX !PL.dS !PL.fg !PL.eA !PL.eY !PL.eP !PL.dB !PL.gx !PL.gm !PL.i4 !PL.gv !PL.gc !PL.gD !PL.fx !PL.eB !PL.dW !PL.i0 !PL.hU !PL.f6 !PL.cT !PL.fX !PL.hW !PL.gP !PL.gE !PL.gH !PL.gj !PL.gR !PL.gF !PL.eR !PL.cY !PL.hX !PL.i6 !PL.jk !PL.gY !PL.bo !PL.br !PL.aY !PL.bA !PL.dF PL.gp PL.fq PL.dk PL.cP PL.iW PL.jd PL.je PL.ji PL.j5 PL.iX PL.j7 PL.j9 PL.bW PL.cG PL.bE PL.eD PL.cF PL.fC PL.bz PL.aL PL.aV PL.bS PL.dA PL.cQ PL.cc PL.cj PL.cn PL.cf PL.d6 PL.fB PL.bQ PL.cg PL.er PL.erL PL.aU PL.bK PL.dy PL.cL PL.lend PL.back PL.outs PL.frA PL.lK c_ LX g_ LP a_ Lx Lp List.set_cons_zero MM z_ KH Lr List.zipWith_cons_cons List.zipWith_nil_left List.zipWith_nil_right decide_eq_true_eq N4 Nw LI Bool.and_self true_and and_true Option.map_some Lh Nat.sub_self PySem.sizeLine_eq PL.Th.v if_true if_false Mp.fm Nat.reduceAdd Nat.reduceSub Nat.reduceLeDiff Mp.gK Mp.cN Mp.bU Mp.bN !Mp.dE !Mp.eK !Mp.fo Mp.i5 Mp.dg Mp.cw Mp.ck !Mp.fv !Mp.fD !Mp.dU !Mp.eU !Mp.f7 Mp.bP Mp.aS Mp.gJ Mp.d5 Mp.cA Mp.bY !Mp.gB Mp.d3 Mp.fT Mp.bV Mp.cp !Mp.fk !Mp.eQ Mp.fO Mp.bZ Mp.cm !Mp.eJ Mp.fP Mp.bM Mp.cv Mp.cu !PL.fj !PL.jj Mp.j6 Mp.gu Mp.cD Mp.cU !Mp.cV !PL.bL PL.eM !PL.dO !PL.eI Mp.fU Mp.cz Mp.cC !Mp.eh !Mp.eW !Mp.dR !PL.aZ !PL.cW !Mp.dY Mp.gQ Mp.bG !PL.bO Mp.bF Mp.g6 Mp.cX Mp.dc !PL.dZ !Mp.mE Mp.mN".splitOn " ").toArray.mapM fun s=>let i:Lean.Ident:=Lean.mkIdent (s.replace "!" "").toName;if s.front=='!' then `(Lean.Parser.Tactic.simpLemma|↓$i:ident) else `(Lean.Parser.Tactic.simpLemma|$i:ident)
 `(tactic| simp only[$l,*])
local macro_rules | `(tactic| nofun)=>`(tactic| walk_at "go")
local macro_rules | `(tactic| walk_at "take")=>`(tactic| refine⟨_,_,_,rfl,by lia,by first|decide|lia,by first|decide|lia,?_⟩)
namespace Mp
open PySem L2 PL
def kY:FP:=fun ts k=>∃q:Qt,ts=[qtT q]/\q.2.2<4/\k (ptP (sL q)) ts
variable {f:Oz}{fd:OR}
section
variable{P:OI}{w:OK}{K:OA}{mg:Str->Option Oy}{base:OM}
theorem jV:FnScope ["quarter","inner"] ["quarter"] (az jq):=⟨rfl,rfl,rfl,by rfl',rfl,by rfl',by rfl'⟩
theorem qi(F:Fun K "inner_point" "inner_point" jq f fd)(TX:Txt mg)(C_INNER:Glb K mg "INNER" yX) :FnOk P w K mg base CX0 1 f fd ["quarter"] (aI K 1 kY):=by refine cB F jV [true] rfl (fun cdv A outer s H E hr=>?_);have sc:=@jV;refine⟨_,(ah (ax (i:=1) sc.nd (by rfl) (d_ rfl) (by rfl) (aB (aA hr (Ka C_INNER (by rfl)) (aA hr (ae 0) ge_int)))) (aj (aM (aB (ay (aa (ag aq (ag bH ge_int (aA hr (ae 0) ge_int)) (aA hr (ae 1) ge_int)) (aa (ag aq (ag bH ge_int (aA hr (ae 0) ge_int)) (aA hr (ae 1) ge_int)) af))))))),fun ts kk hl hp=>?_⟩;clear hl;obtain⟨p,rfl,hs,q⟩:=hp;nofun;refine cK (HY hs) ?_;nofun;exact⟨c4 _,c4 _,q⟩
end
def rG:FP:=fun ts k=>∃(o:Bool) (ps:List Pt),ts=[.lst o (ps.map ptP)]/\ps≠[]/\ps.length<sizeLine/\∀oc,FA ps oc->k (ocT oc) ts
section
variable{P:OI}{w:OK}{K:OA}{mg:Str->Option Oy}{base:OM}
theorem p8:FnScope ["corners","bounds","numbers"] ["corners"] (az mV):=⟨rfl,rfl,rfl,by rfl',rfl,by rfl',by rfl'⟩
theorem vW(F:Fun K "octo_of" "octo_of" mV f fd)(TX:Txt mg)  :FnOk P w K mg base CX0 1 f fd ["corners"] (aI K 1 rG):=by
 refine cB F p8 [true] rfl (fun cdv A outer s H E hr=>?_);have sc:=@p8;have nd1:(["corner"]:List Str).Nodup:=by rfl'
 have nd2:(["corner"]:List Str).Nodup:=by rfl'
 have nd3:(["corner"]:List Str).Nodup:=by rfl'
 have nd4:(["corner"]:List Str).Nodup:=by rfl'
 refine⟨_,(ah (ax (i:=1) sc.nd (by rfl) (d_ rfl) (by rfl) (aB (aW af))) (ah (bB OQ (by rfl) (aX (ay (aa (aB (bT sc ["corner"] [none] nd4 (by rfl') (aX (ae 0)) (fun _ _ _=>(au (i:=0) nd4 (by rfl) (d_ rfl) (by rfl) (hf:=(j_ rfl)))) (fun _ _ _=>bI) (fun _ _ _=>(aA hr (ae 0) ge_int)))) (aa (aB (bT sc ["corner"] [none] nd3 (by rfl') (aX (ae 0)) (fun _ _ _=>(au (i:=0) nd3 (by rfl) (d_ rfl) (by rfl) (hf:=(j_ rfl)))) (fun _ _ _=>bI) (fun _ _ _=>(aA hr (ae 0) ge_int)))) (aa (aB (bT sc ["corner"] [none] nd2 (by rfl') (aX (ae 0)) (fun _ _ _=>(au (i:=0) nd2 (by rfl) (d_ rfl) (by rfl) (hf:=(j_ rfl)))) (fun _ _ _=>bI) (fun _ _ _=>(ag aq (aA hr (ae 0) ge_int) (aA hr (ae 0) ge_int))))) (aa (aB (bT sc ["corner"] [none] nd1 (by rfl') (aX (ae 0)) (fun _ _ _=>(au (i:=0) nd1 (by rfl) (d_ rfl) (by rfl) (hf:=(j_ rfl)))) (fun _ _ _=>bI) (fun _ _ _=>(ag aP (aA hr (ae 0) ge_int) (aA hr (ae 0) ge_int))))) af)))))) (au (i:=2) sc.nd (by rfl) (d_ rfl) (by rfl)) (ah (iE (kM 1 Ri Rj lA (aa (aB (aK (ig rfl) (by rfl) TX.min (by rfl') (aa (ae 2) af))) af))) (aj (iE (kM 1 Ri Rj lA (aa (aB (aK (iL rfl) (by rfl) TX.max (by rfl') (aa (ae 2) af))) af)))))) (aj (aM (aB (bD kH (by rfl) TX.tuple (by rfl') (aa (ae 1) af))))))),fun ts kk hl hp=>?_⟩;clear hl;obtain⟨o,ps,rfl,kw,hz,q⟩:=hp;have hne':∀j,ps.map (gO j)≠[]:=fun j z=>kw (NA.mp z);nofun;refine aJ (by rw[a_];exact hz) (fun i acc ie=>∃z,acc=(ps.take i).map (fun p=>T.int (gO 0 p))/\ie=[z]) ⟨_,rfl,rfl⟩ ?_ ?_
 ·rintro i u _ _ ⟨z,rfl,rfl⟩ eu;obtain⟨p,ep,rfl⟩:=aQ eu;nofun;exact⟨_,by rw[map_take ep];rfl,rfl⟩
 rintro _ _ ⟨z,rfl,rfl⟩;rw[a_,t_];nofun;refine aJ (by rw[a_];exact hz) (fun i acc ie=>∃z,acc=(ps.take i).map (fun p=>T.int (gO 1 p))/\ie=[z]) ⟨_,rfl,rfl⟩ ?_ ?_
 ·rintro i u _ _ ⟨z,rfl,rfl⟩ eu;obtain⟨p,ep,rfl⟩:=aQ eu;nofun;exact⟨_,by rw[map_take ep];rfl,rfl⟩
 rintro _ _ ⟨z,rfl,rfl⟩;rw[a_,t_];nofun;refine aJ (by rw[a_];exact hz) (fun i acc ie=>∃z,acc=(ps.take i).map (fun p=>T.int (gO 2 p))/\ie=[z]) ⟨_,rfl,rfl⟩ ?_ ?_
 ·rintro i u _ _ ⟨z,rfl,rfl⟩ eu;obtain⟨p,ep,rfl⟩:=aQ eu;nofun;exact⟨_,by rw[map_take ep];rfl,rfl⟩
 rintro _ _ ⟨z,rfl,rfl⟩;rw[a_,t_];nofun;refine aJ (by rw[a_];exact hz) (fun i acc ie=>∃z,acc=(ps.take i).map (fun p=>T.int (gO 3 p))/\ie=[z]) ⟨_,rfl,rfl⟩ ?_ ?_
 ·rintro i u _ _ ⟨z,rfl,rfl⟩ eu;obtain⟨p,ep,rfl⟩:=aQ eu;nofun;exact⟨_,by rw[map_take ep];rfl,rfl⟩
 rintro _ _ ⟨z,rfl,rfl⟩;rw[a_,t_];nofun;have eL:[T.lst false (K' (fun p=>T.int (gO 0 p)) ps),T.lst false (K' (fun p=>T.int (gO 1 p)) ps),T.lst false (K' (fun p=>T.int (gO 2 p)) ps),T.lst false (K' (fun p=>T.int (gO 3 p)) ps)]=(A' 4).map fun j=>T.lst false (K' (fun p=>T.int (gO j p)) ps):=rfl;rw[eL];refine aR (fun i env=>∃(f:Nat->Int×Int) (z:T),(∀j,j<i->iD (ps.map (gO j)) (f j).1/\iC (ps.map (gO j)) (f j).2)/\env=[.lst o (ps.map ptP),.lst true ((A' i).flatMap fun j=>[.int (f j).1,.int (f j).2]),z]) ⟨fun _=>(0,0),_,fun j hj=>by lia,rfl⟩ ?_ ?_
 ·rintro i t _ ⟨f,z,hf,rfl⟩ ei;obtain⟨j,ej,rfl⟩:=aQ ei;have hi:i<4:=by have:=(f_.mp ej).1;rwa[K_]at this
  rw[LN hi]at ej;cases ej;have ll:∀n,((A' n).flatMap fun j=>[T.int (f j).1,T.int (f j).2]).length=2*n:=fun n=>by
   induction n with
   |zero=>rfl
   |succ n ih=>rw[Mf,ML,gV,ih];rfl
  nofun;refine⟨hne' i,fun m hm=>⟨by rw[ll];lia,hne' i,fun M hM=>⟨by rw[gV,ll];show 2*i+1<_;lia,fun j=>if j=i then(m,M)else f j,.lst false (ps.map fun p=>T.int (gO i p)),fun j hj=>?_,by rw[C9]⟩⟩⟩;show iD _ (if j=i then(m,M)else f j).1/\iC _ (if j=i then(m,M)else f j).2;by_cases e:j=i
  ·rw[if_pos e,e];exact⟨hm,hM⟩
  rw[if_neg e];exact hf j (by lia)
 rintro _ ⟨f,z,hf,rfl⟩;have e4:(A' (K' (fun j=>T.lst false (K' (fun p=>T.int (gO j p)) ps)) (A' 4)).length).flatMap (fun j=>[T.int (f j).1,T.int (f j).2])=[T.int (f 0).1,T.int (f 0).2,T.int (f 1).1,T.int (f 1).2,T.int (f 2).1,T.int (f 2).2,T.int (f 3).1,T.int (f 3).2]:=by rw[a_];rfl
 rw[e4];rw[a_]at hf;have f0:=hf 0 (by decide);have f1:=hf 1 (by decide);have f2:=hf 2 (by decide);have f3:=hf 3 (by decide);nofun;exact q ⟨(f 0).1,(f 0).2,(f 1).1,(f 1).2,(f 2).1,(f 2).2,(f 3).1,(f 3).2⟩ ⟨⟨f0,f1⟩,f2,f3⟩
end
def zl:FP:=fun ts k=>∃o q,ts=[ocT o,ocT q]/\k (ocT (Fp o q)) ts
section
variable{P:OI}{w:OK}{K:OA}{mg:Str->Option Oy}{base:OM}
theorem ve:FnScope ["one","other"] ["one","other"] (az sf):=⟨rfl,rfl,rfl,by rfl',rfl,by rfl',by rfl'⟩
theorem Dp(F:Fun K "added" "added" sf f fd)(TX:Txt mg)  :FnOk P w K mg base CX0 1 f fd ["one","other"] (aI K 2 zl):=by
 refine cB F ve [true,true] rfl (fun cdv A outer s H E hr=>?_);have sc:=@ve;have nd1:(["bound","more"]:List Str).Nodup:=by rfl'
 refine⟨_,(aj (aM (aB (bD kH (by rfl) TX.tuple (by rfl') (aa (bT sc ["bound","more"] [none,none] nd1 (by rfl') (G8 (by rfl) TX.zip (aa (ae 0) (aa (ae 1) af))) (fun _ _ _=>(fM (n:=2) (by rfl) (aC (au (i:=0) nd1 (by rfl) (d_ rfl) (by rfl) (hf:=(j_ rfl))) (aC (au (i:=1) nd1 (by rfl) (d_ rfl) (by rfl) (hf:=(j_ rfl))) du)))) (fun _ _ _=>bI) (fun _ _ _=>(ag aq (ae 0) (ae 1)))) af))))),fun ts kk hl hp=>?_⟩;clear hl;obtain⟨o,q',rfl,q⟩:=hp;have e1:∀o:Oc,ocT o=.tup ((ocL o).map T.int):=fun o=>rfl;rw[e1,e1];nofun;have ez:(K' (fun p=>T.tup [p.1,p.2]) ((K' (fun x=>T.int x) (ocL o)).zip (K' (fun x=>T.int x) (ocL q'))))=((ocL o).zip (ocL q')).map fun p=>T.tup [.int p.1,.int p.2]:=by rw[List.zip_map,D_];rfl
 rw[ez];refine aJ (by rw[a_];show 8<sizeLine;decide) (fun i acc ie=>∃z1 z2,acc=(((ocL o).zip (ocL q')).take i).map (fun p=>T.int (p.1+p.2))/\ie=[z1,z2]) ⟨_,_,rfl,rfl⟩ ?_ ?_
 ·rintro i u _ _ ⟨z1,z2,rfl,rfl⟩ eu;obtain⟨p,ep,rfl⟩:=aQ eu;nofun;exact⟨_,_,by rw[map_take ep],rfl⟩
 rintro _ _ ⟨z1,z2,rfl,rfl⟩;rw[a_,t_];nofun;exact q
end
def yQ:FP:=fun ts k=>∃o p,ts=[ocT o,ptP p]/\k (ocT (Fp o (oc1 p))) ts
section
variable{P:OI}{w:OK}{K:OA}{mg:Str->Option Oy}{base:OM}
theorem uE:FnScope ["octo","corner"] ["octo","corner"] (az u7):=⟨rfl,rfl,rfl,by rfl',rfl,by rfl',by rfl'⟩
theorem CP(F:Fun K "moved" "moved" u7 f fd)(TX:Txt mg)  (xz:Cal P w K mg base 1 "octo_of" ["corners"] (aI K 1 rG))(np:Cal P w K mg base 1 "added" ["one","other"] (aI K 2 zl)):FnOk P w K mg base CX0 2 f fd ["octo","corner"] (aI K 2 yQ):=by refine cB F uE [true,true] rfl (fun cdv A outer s H E hr=>?_);have sc:=@uE;refine⟨_,(aj (aM (aB (av np hr (by rfl) (ai (ae 0) (ai (av xz hr (by rfl) (ai (aW (aa (ae 1) af)) aw)) aw)))))),fun ts kk hl hp=>?_⟩;clear hl;obtain⟨o,p,rfl,q⟩:=hp;nofun;refine⟨true,[p],rfl,(fun z=>nomatch z),by show 1<sizeLine;decide,fun oc h=>?_⟩;rw[Ja h];nofun;refine⟨o,oc1 p,rfl,?_⟩;nofun;exact q
end
def qX:FP:=fun ts k=>∃o,ts=[ocT o]/\k (.bl (vw o)) ts
section
variable{P:OI}{w:OK}{K:OA}{mg:Str->Option Oy}{base:OM}
theorem qq:FnScope ["octo"] ["octo"] (az mX):=⟨rfl,rfl,rfl,by rfl',rfl,by rfl',by rfl'⟩
theorem wX(F:Fun K "is_flat" "is_flat" mX f fd)(TX:Txt mg)  :FnOk P w K mg base CX0 1 f fd ["octo"] (aI K 1 qX):=by
 refine cB F qq [true] rfl (fun cdv A outer s H E hr=>?_);have sc:=@qq;refine⟨_,(aj (aM (aB (BY (jO (cE hr) (aA hr (ae 0) ge_int) (aA hr (ae 0) ge_int) (aN _)) (BY (jO (cE hr) (aA hr (ae 0) ge_int) (aA hr (ae 0) ge_int) (aN _)) (BY (jO (cE hr) (aA hr (ae 0) ge_int) (aA hr (ae 0) ge_int) (aN _)) (Cm (jO (cE hr) (aA hr (ae 0) ge_int) (aA hr (ae 0) ge_int) (aN _))))))))),fun ts kk hl hp=>?_⟩;clear hl;obtain⟨o,rfl,q⟩:=hp;nofun;unfold vw at q;refine aF (fun h1=>?_) (fun h1=>?_)
 ·rw[decide_eq_true h1]at q;nofun;exact q
 rw[decide_eq_false h1,MQ]at q;nofun;refine aF (fun h2=>?_) (fun h2=>?_)
 ·rw[decide_eq_true h2]at q;nofun;exact q
 rw[decide_eq_false h2,MQ]at q;nofun;refine aF (fun h3=>?_) (fun h3=>?_)
 ·rw[decide_eq_true h3]at q;nofun;exact q
 rw[decide_eq_false h3,MQ]at q;nofun;exact q
end
def yf:FP:=fun ts k=>∃(o:Oc) (p:Qt),ts=[ocT o,qtT p]/\p.2.2<4/\k (.bl (inO o p)) ts
section
variable{P:OI}{w:OK}{K:OA}{mg:Str->Option Oy}{base:OM}
theorem uN:FnScope ["octo","quarter","point","x","y"] ["octo","quarter"] (az sO):=⟨rfl,rfl,rfl,by rfl',rfl,by rfl',by rfl'⟩
theorem Dk(F:Fun K "holds" "holds" sO f fd)(TX:Txt mg)  (sB:Cal P w K mg base 1 "inner_point" ["quarter"] (aI K 1 kY)):FnOk P w K mg base CX0 2 f fd ["octo","quarter"] (aI K 2 yf):=by
 refine cB F uN [true,true] rfl (fun cdv A outer s H E hr=>?_);have sc:=@uN;refine⟨_,(ah (ax (i:=2) sc.nd (by rfl) (d_ rfl) (by rfl) (aB (av sB hr (by rfl) (ai (ae 1) aw)))) (ah (ax (i:=3) sc.nd (by rfl) (d_ rfl) (by rfl) (aB (aA hr (ae 2) ge_int))) (ah (ax (i:=4) sc.nd (by rfl) (d_ rfl) (by rfl) (aB (aA hr (ae 2) ge_int))) (aj (aM (aB (xF (mB iz iz (ag bH ge_int (aA hr (ae 0) ge_int)) (ae 3) (ag bH ge_int (aA hr (ae 0) ge_int))) (xF (mB iz iz (ag bH ge_int (aA hr (ae 0) ge_int)) (ae 4) (ag bH ge_int (aA hr (ae 0) ge_int))) (xF (mB iz iz (ag bH ge_int (aA hr (ae 0) ge_int)) (ag aq (ae 3) (ae 4)) (ag bH ge_int (aA hr (ae 0) ge_int))) (Cm (mB iz iz (ag bH ge_int (aA hr (ae 0) ge_int)) (ag aP (ae 3) (ae 4)) (ag bH ge_int (aA hr (ae 0) ge_int))))))))))))),fun ts kk hl hp=>?_⟩;clear hl;obtain⟨o,p,rfl,hs,q⟩:=hp;nofun;refine⟨p,rfl,hs,?_⟩;nofun;unfold inO at q;have no:¬inP o (sL p).1 (sL p).2->kk (.bl false) [ocT o,qtT p]:=fun h=>by rw[decide_eq_false h]at q;exact q
 refine⟨c4 _,aF (fun h0=>?_) (fun h0=>?_)⟩
 rotate_left
 ·nofun;exact no fun h=>h0 h.1.1
 nofun;refine⟨c4 _,aF (fun h1=>?_) (fun h1=>?_)⟩
 rotate_left
 ·nofun;exact no fun h=>h1 h.1.2
 nofun;refine⟨c4 _,aF (fun h2=>?_) (fun h2=>?_)⟩
 rotate_left
 ·nofun;exact no fun h=>h2 h.2.1.1
 nofun;refine⟨c4 _,aF (fun h3=>?_) (fun h3=>?_)⟩
 rotate_left
 ·nofun;exact no fun h=>h3 h.2.1.2
 nofun;refine⟨c4 _,aF (fun h4=>?_) (fun h4=>?_)⟩
 rotate_left
 ·nofun;exact no fun h=>h4 h.2.2.1.1
 nofun;refine⟨c4 _,aF (fun h5=>?_) (fun h5=>?_)⟩
 rotate_left
 ·nofun;exact no fun h=>h5 h.2.2.1.2
 nofun;refine⟨c4 _,aF (fun h6=>?_) (fun h6=>?_)⟩
 rotate_left
 ·nofun;exact no fun h=>h6 h.2.2.2.1
 nofun;refine⟨c4 _,?_⟩;rw[show decide (inP o (sL p).1 (sL p).2)=decide ((sL p).1-(sL p).2<4*o.h)from decide_eq_decide.mpr ⟨fun h=>h.2.2.2.2,fun h=>⟨⟨h0,h1⟩,⟨h2,h3⟩,⟨h4,h5⟩,h6,h⟩⟩]at q;exact q
end
def l8:FP:=fun ts k=>∃o:Oc,ts=[ocT o]/\vw o=false/\bdO o/\k (.lst true ((ocN o (o.b-o.a).toNat).map qtT)) ts
section
variable{P:OI}{w:OK}{K:OA}{mg:Str->Option Oy}{base:OM}
theorem jW:FnScope ["octo","region","x","low","high","y"] ["octo"] (az jm):=⟨rfl,rfl,rfl,by rfl',rfl,by rfl',by rfl'⟩
theorem oT(F:Fun K "quarters_in" "quarters_in" jm f fd)(TX:Txt mg)  (ul:Cal P w K mg base 1 "is_flat" ["octo"] (aI K 1 qX))(sn:Cal P w K mg base 2 "holds" ["octo","quarter"] (aI K 2 yf)):FnOk P w K mg base CX0 3 f fd ["octo"] (aI K 1 l8):=by
 refine cB F jW [true] rfl (fun cdv A outer s H E hr=>?_);have sc:=@jW;have nd1:(["side","y","x","octo"]:List Str).Nodup:=by rfl'
 refine⟨_,(ah (ax (i:=1) sc.nd (by rfl) (d_ rfl) (by rfl) (aB (aW af))) (ah (dv (iF (lJ (av ul hr (by rfl) (ai (ae 0) aw)))) (aj (aM (jx 1))) ba) (ah (bB OQ (by rfl) (i9 (by rfl) TX.range (aa (aB (aA hr (ae 0) ge_int)) (aa (aB (aA hr (ae 0) ge_int)) af))) (au (i:=2) sc.nd (by rfl) (j_ rfl) (by rfl)) (ah (ax (i:=3) sc.nd (by rfl) (d_ rfl) (by rfl) (aB (aK (iL rfl) (by rfl) TX.max (by rfl') (aa (aA hr (ae 0) ge_int) (aa (ag aP (ag aP (aA hr (ae 0) ge_int) (ae 2)) ge_int) (aa (ag aP (ae 2) (aA hr (ae 0) ge_int)) af)))))) (ah (ax (i:=4) sc.nd (by rfl) (d_ rfl) (by rfl) (aB (aK (ig rfl) (by rfl) TX.min (by rfl') (aa (aA hr (ae 0) ge_int) (aa (ag aP (aA hr (ae 0) ge_int) (ae 2)) (aa (ag aP (ag aq (ae 2) ge_int) (aA hr (ae 0) ge_int)) af)))))) (aj (bB OQ (by rfl) (i9 (by rfl) TX.range (aa (bg 3) (aa (bg 4) af))) (au (i:=5) sc.nd (by rfl) (j_ rfl) (by rfl)) (aj (iE (kM 1 PySem.F.slot_list_extend PySem.F.type_list_extend xG (aa (aB (bT sc ["side","y","x","octo"] [none,some 5,some 2,some 0] nd1 (by rfl') (fJ (by rfl) TX.range (aa ge_int af)) (fun _ _ _=>(au (i:=0) nd1 (by rfl) (d_ rfl) (by rfl) (hf:=(j_ rfl)))) (fun _ _ _=>(kL (lJ (av sn hr (by rfl) (ai (ae 3) (ai (ay (aa (ae 2) (aa (ae 1) (aa (ae 0) af)))) aw)))))) (fun _ _ _=>(ay (aa (ae 2) (aa (ae 1) (aa (ae 0) af))))))) af))))))))) (aj (aM (jx 1)))))),fun ts kk hl hp=>?_⟩;clear hl;obtain⟨o,rfl,hf,hb,q⟩:=hp;nofun;refine⟨o,rfl,?_⟩;nofun;rw[hf];nofun;have ab:=hb.1.1;refine⟨by omega,aR (fun i env=>∃z2 z3 z4 z5,env=[ocT o,.lst true ((ocN o i).map qtT),z2,z3,z4,z5]) ⟨_,_,_,_,rfl⟩ ?_ ?_⟩
 ·rintro i t _ ⟨z2,z3,z4,z5,rfl⟩ ei;have hi:=fV ei;have et:=jn ei;subst et;nofun;rw[show max (max o.c (o.e-(o.a+i)-1)) (o.a+i-o.h)=oR o (o.a+i)from rfl,show min (min o.d (o.f-(o.a+i))) (o.a+i+1-o.g)=xr o (o.a+i)from rfl];have lb:=CK (x:=o.a+i) hb (by lia) (by omega);have ll:=E7 hb i (by lia);refine⟨by lia,aR (fun j env=>∃z5,env=[ocT o,.lst true ((ocN o i++ocC o (o.a+i) j).map qtT),.int (o.a+i),.int (oR o (o.a+i)),.int (xr o (o.a+i)),z5]) ⟨_,by rw[show ocC o (o.a+i) 0=[]from rfl,J']⟩ ?_ ?_⟩
  ·rintro j t _ ⟨z5,rfl⟩ ej;have hj:=fV ej;have et:=jn ej;subst et;have l2:=yn (o:=o) (x:=o.a+i) j;have ec:ocC o (o.a+i) (j+1)=ocC o (o.a+i) j++cellQ (fun s=>inO o (o.a+i,oR o (o.a+i)+j,s)) (o.a+i) (oR o (o.a+i)+j):=iJ;rw[ec];generalize oR o (o.a+i)+j=y at *;generalize o.a+(i:Int)=x at *;nofun;refine⟨by decide,aJ (by rw[de];decide) (fun s acc ie=>∃z1,acc=(((A' s).filter fun s=>inO o (x,y,s)).map fun s=>(x,y,s)).map qtT/\ie=[z1,.int y,.int x,ocT o]) ⟨_,rfl,rfl⟩ ?_ ?_⟩
   ·rintro s t _ _ ⟨z1,rfl,rfl⟩ es;have hs:s<4:=fV es;have et:=jn es;subst et;rw[L5];nofun;refine⟨o,(x,y,s),rfl,hs,?_⟩;nofun;rw[Mf,MN,q_,q_];refine nr (fun h=>?_) (fun h=>?_)
    ·nofun;exact⟨_,by rw[LC,h];rfl,rfl⟩
    nofun;exact⟨_,by rw[LC,h];exact(J' _).symm,rfl⟩
   rintro _ _ ⟨z1,rfl,rfl⟩;rw[de];nofun;have l3:=nC (fun s=>inO o (x,y,s)) x y;have l4:((A' (Ov 4)).filter fun s=>inO o (x,y,s)).length=(cellQ (fun s=>inO o (x,y,s)) x y).length:=(a_ ..).symm;exact⟨by rw[l4,gV];lia,_,by rw[<-o_,q_ (l₁:=_++_)];rfl⟩
  rintro _ ⟨z5,rfl⟩;rw[de];have e1:ocN o (i+1)=ocN o i++_:=iJ;exact⟨_,_,_,_,by rw[e1]⟩
 rintro _ ⟨z2,z3,z4,z5,rfl⟩;rw[de];nofun;exact q
end
def rM:FP:=fun ts k=>∃(b o:Bool) (t:Tl) (p:Pt),ts=[tlT b o t,ptP p]/\k (ocT (mkO t.1 t.2.1 p)) ts
section
variable{P:OI}{w:OK}{K:OA}{mg:Str->Option Oy}{base:OM}
theorem pQ:FnScope ["tool","corner","r","both"] ["tool","corner"] (az nP):=⟨rfl,rfl,rfl,by rfl',rfl,by rfl',by rfl'⟩
theorem xE(F:Fun K "mark_of" "mark_of" nP f fd)(TX:Txt mg)  (ww:Cal P w K mg base 2 "moved" ["octo","corner"] (aI K 2 yQ)):FnOk P w K mg base CX0 3 f fd ["tool","corner"] (aI K 2 rM):=by refine cB F pQ [true,true] rfl (fun cdv A outer s H E hr=>?_);have sc:=@pQ;refine⟨_,(ah (ax (i:=2) sc.nd (by rfl) (d_ rfl) (by rfl) (aB (aA hr (ae 0) ge_int))) (ah (ax (i:=3) sc.nd (by rfl) (d_ rfl) (by rfl) (aB (ag aq (aA hr (ae 0) ge_int) (aA hr (ae 0) ge_int)))) (aj (aM (aB (av ww hr (by rfl) (ai (ay (aa (jZ (ae 2)) (aa (ae 2) (aa (jZ (ae 2)) (aa (ae 2) (aa (jZ (ae 3)) (aa (ae 3) (aa (jZ (ae 3)) (aa (ae 3) af))))))))) (ai (ae 1) aw)))))))),fun ts kk hl hp=>?_⟩;clear hl;obtain⟨b,o,t,p,rfl,q⟩:=hp;nofun;refine⟨⟨-t.1,t.1,-t.1,t.1,-(t.1+t.2.1),t.1+t.2.1,-(t.1+t.2.1),t.1+t.2.1⟩,p,rfl,?_⟩;nofun;exact q
end
def iw:FP:=fun ts k=>∃(b o:Bool) (t:Tl),ts=[tlT b o t]/\tlO t/\k (.lst true ((nrQ t).map qtT)) ts
section
variable{P:OI}{w:OK}{K:OA}{mg:Str->Option Oy}{base:OM}
theorem jA:FnScope ["tool"] ["tool"] (az iB):=⟨rfl,rfl,rfl,by rfl',rfl,by rfl',by rfl'⟩
theorem nU(F:Fun K "near_quarters" "near_quarters" iB f fd)(TX:Txt mg)  (At:Cal P w K mg base 3 "quarters_in" ["octo"] (aI K 1 l8))(wn:Cal P w K mg base 3 "mark_of" ["tool","corner"] (aI K 2 rM)):FnOk P w K mg base CX0 4 f fd ["tool"] (aI K 1 iw):=by refine cB F jA [true] rfl (fun cdv A outer s H E hr=>?_);have sc:=@jA;refine⟨_,(aj (aM (aB (av At hr (by rfl) (ai (av wn hr (by rfl) (ai (ae 0) (ai (ay (aa ge_int (aa ge_int af))) aw))) aw))))),fun ts kk hl hp=>?_⟩;clear hl;obtain⟨b,o,t,rfl,ht,q⟩:=hp;nofun;refine⟨b,false,t,(0,0),rfl,?_⟩;nofun;refine⟨mk0 t,rfl,(FE ht).1,(FE ht).2,?_⟩;nofun;exact q
end
def yv:FP:=fun ts k=>∃(c o b u:Bool) (qs:List Qt),ts=[rgT c o b u qs]/\qs.Nodup/\qs.length<250000/\k (.dT true (dQ qs)) [rgT c false b false qs]
section
variable{P:OI}{w:OK}{K:OA}{mg:Str->Option Oy}{base:OM}
theorem vH:FnScope ["region","there","quarter"] ["region"] (az t6):=⟨rfl,rfl,rfl,by rfl',rfl,by rfl',by rfl'⟩
theorem Df(F:Fun K "noted" "noted" t6 f fd)(TX:Txt mg)  :FnOk P w K mg base CX0 1 f fd ["region"] (aI K 1 yv):=by
 refine cB F vH [true] rfl (fun cdv A outer s H E hr=>?_);have sc:=@vH;refine⟨_,(ah (ax (i:=1) sc.nd (by rfl) (d_ rfl) (by rfl) (aB qr)) (ah (bB OQ (by rfl) (aX (bg 0)) (au (i:=2) sc.nd (by rfl) (d_ rfl) (by rfl)) (aj (lE iZ (pV (i:=1) hr (aB (bD kH (by rfl) TX.tuple (by rfl') (aa (ae 2) af))))))) (aj (aM (jx 1))))),fun ts kk hl hp=>?_⟩;clear hl;obtain⟨c,o,b,u,qs,rfl,hd,hl,q⟩:=hp;nofun;refine⟨rfl,aR (fun i env=>∃z,env=[rgT c false b false qs,.dT true (dQ (qs.take i)),z]) ⟨_,rfl⟩ ?_ ?_⟩
 ·rintro i t _ ⟨z,rfl⟩ ei;obtain⟨r,e1,rfl⟩:=aQ ei;nofun;have hn:=pA hd e1;exact⟨by rw[oP,B_];lia,_,by rw[KI,e1,Option.toList_some,<-tf hn];rfl⟩
 rintro _ ⟨z,rfl⟩;rw[a_,t_];nofun;exact q
end
def qK:FP:=fun ts k=>∃(o:Bool) (ps:List Pt) (sp:Pt),ts=[.lst o (ps.map ptP),ptP sp]/\0<ps.length/\ps.length<1000/\(∀p∈ps,sm p)/\k (.int (lL (cr sp) ps)) [.lst false (ps.map ptP),ptP sp]
section
variable{P:OI}{w:OK}{K:OA}{mg:Str->Option Oy}{base:OM}
theorem qg:FnScope ["_law_corners_here","_law_spot","_law_many","_law_k","_law_corner","_law_ahead","_law_low","_law_high","_law_slope","_law_start"] ["_law_corners_here","_law_spot"] (az mU):=⟨rfl,rfl,rfl,by rfl',rfl,by rfl',by rfl'⟩
theorem w6(F:Fun K "_law_crossed" "_law_crossed" mU f fd)(TX:Txt mg)  :FnOk P w K mg base CX0 1 f fd ["_law_corners_here","_law_spot"] (aI K 2 qK):=by
 refine cB F qg [true,true] rfl (fun cdv A outer s H E hr=>?_);have sc:=@qg;refine⟨_,(ah (ax (i:=2) sc.nd (by rfl) (d_ rfl) (by rfl) ge_int) (ah (bB OQ (by rfl) (yy (by rfl) TX.enumerate (aa (bg 0) af)) (fM (n:=2) (by rfl) (aC (au (i:=3) sc.nd (by rfl) (d_ rfl) (by rfl)) (aC (au (i:=4) sc.nd (by rfl) (d_ rfl) (by rfl)) du))) (ah (ax (i:=5) sc.nd (by rfl) (d_ rfl) (by rfl) (aB (aA hr (ae 0) (ag aP (ae 3) ge_int)))) (ah (mY (i:=6) (j:=7) (by rfl) sc.nd (by rfl) (by rfl) (by decide) (by rfl) (by rfl) (by rfl) (by rfl) (aa (aB (ag bH (aK (ig rfl) (by rfl) TX.min (by rfl') (aa (aA hr (ae 5) ge_int) (aa (aA hr (ae 4) ge_int) af))) ge_int)) (aa (aB (ag bH (aK (iL rfl) (by rfl) TX.max (by rfl') (aa (aA hr (ae 5) ge_int) (aa (aA hr (ae 4) ge_int) af))) ge_int)) af)) (by rfl)) (aj (dv (iF (C7 Dl iz (ae 6) (aA hr (ae 1) ge_int) (ae 7))) (ah (ax (i:=8) sc.nd (by rfl) (d_ rfl) (by rfl) (aB (ag kN (ag aP (aA hr (ae 4) ge_int) (aA hr (ae 5) ge_int)) (aK (iL rfl) (by rfl) TX.max (by rfl') (aa ge_int (aa (aK ng (by rfl) TX.abs (by rfl') (aa (ag aP (aA hr (ae 4) ge_int) (aA hr (ae 5) ge_int)) af)) af)))))) (bJ (dv (iF (bj iz (aA hr (ae 4) ge_int) (aA hr (ae 5) ge_int) (aN _))) (aj (ax (i:=8) sc.nd (by rfl) (d_ rfl) (by rfl) (aB (jZ (ae 8))))) ba) (ah (ax (i:=9) sc.nd (by rfl) (d_ rfl) (by rfl) (aB (ag bH ge_int (aA hr (aW (aa (aA hr (ae 5) ge_int) (aa (aA hr (ae 4) ge_int) af))) (bD rX (by rfl) TX.int (by rfl') (aa (jO iz (aA hr (ae 4) ge_int) (aA hr (ae 5) ge_int) (aN _)) af)))))) (aj (ax (i:=2) sc.nd (by rfl) (d_ rfl) (by rfl) (aB (ag aq (ae 2) (bD rX (by rfl) TX.int (by rfl') (aa (jO GH (ag aq (ae 9) (ag bH (ae 8) (ag aP (aA hr (ae 1) ge_int) (ae 6)))) (aA hr (ae 1) ge_int) (aN _)) af))))))))) ba))))) (aj (aM (jx 2))))),fun ts kk hl hp=>?_⟩;clear hl;obtain⟨o,ps,sp,rfl,h0,h1,hs,q⟩:=hp;nofun;refine aR (fun i env=>∃z3 z4 z5 z6 z7 z8 z9,env=[.lst false (ps.map ptP),ptP sp,.int (fI (cr sp) (ps.getLastD (0,0)) (ps.take i)),z3,z4,z5,z6,z7,z8,z9]) ⟨_,_,_,_,_,_,_,rfl⟩ ?_ ?_
 ·rintro i t _ ⟨z3,z4,z5,z6,z7,z8,z9,rfl⟩ ei;obtain⟨p,ep,rfl⟩:=zf rfl ei;have hi:i<ps.length:=(f_.mp ep).1;have sp1:=hs p (H_ ep);nofun;refine cK (vh (g:=ptP) (l:=ps) hi (0,0)) ?_;have sp2:=hs (ps.getD (jR ps.length i) (0,0)) (by
   rw[E_];have hj:jR ps.length i<ps.length:=by unfold jR;split <;> omega
   rw[e_ hj];exact KY hj)
  rw[Ac ep];generalize ps.getD (jR ps.length i) (0,0)=a at *;generalize fI (cr sp) (ps.getLastD (0,0)) (ps.take i)=n at *;have no:¬(min a.2 p.2*8<=sp.2/\sp.2<max a.2 p.2*8)->cr sp (a,p)=0:=fun g=>by
   unfold cr crB;rw[decide_eq_false g]
   rfl
  nofun;refine⟨.inr ⟨by decide,by decide⟩,.inr ⟨by decide,by decide⟩,aF (fun g1=>?_) (fun g1=>?_)⟩
  ·nofun;refine aF (fun g2=>?_) (fun g2=>?_)
   ·nofun;obtain⟨s11,s12,s13,s14⟩:=sp1;obtain⟨s21,s22,s23,s24⟩:=sp2;refine⟨⟨by omega,by lia⟩,?_⟩;rw[show(p.1-a.1)/max 1 ((p.1-a.1).natAbs:Int)=sgE (a,p)from rfl];have sg:=tP (a,p);refine dq (fun env=>env=[T.lst false (K' ptP ps),ptP sp,T.int n,T.int (i:Int),ptP p,ptP a,T.int (min a.2 p.2*8),T.int (max a.2 p.2*8),T.int (if p.2<a.2 then -sgE (a,p)else sgE (a,p)),z9]) ?_ ?_
    ·nofun;refine aF (fun g=>?_) (fun g=>?_)
     ·nofun;rw[if_pos g]
     nofun;rw[if_neg g]
    rintro _ rfl;have e:cr sp (a,p)=if sp.1<8*(if p.2<a.2 then p.1 else a.1)+(if p.2<a.2 then -sgE (a,p)else sgE (a,p))*(sp.2-min a.2 p.2*8)then 1 else 0:=by unfold cr crB;rw[decide_eq_true ⟨g1,g2⟩,LI];simp only[decide_eq_true_iff]
    rw[e];have sg2:-1<=(if p.2<a.2 then -sgE (a,p)else sgE (a,p))/\(if p.2<a.2 then -sgE (a,p)else sgE (a,p))<=1:=by split <;> lia
    generalize (if p.2<a.2 then -sgE (a,p)else sgE (a,p))=σ at *;nofun;refine cK Jy ?_;nofun;exact⟨.inl ⟨by decide,by decide⟩,.inl ⟨by lia,by lia⟩,_,_,_,_,_,_,_,rfl⟩
   nofun;rw[no fun g=>g2 g.2,Ls];exact⟨_,_,_,_,_,_,_,rfl⟩
  nofun;rw[no fun g=>g1 g.1,Ls];exact⟨_,_,_,_,_,_,_,rfl⟩
 rintro _ ⟨z3,z4,z5,z6,z7,z8,z9,rfl⟩;rw[qp rfl,t_];nofun;exact q
end
def uR:FP:=fun ts k=>∃(o:Bool) (ps:List Pt) (cx cy:Int),ts=[.lst o (ps.map ptP)]/\0<ps.length/\ps.length<1000/\bd 40 cx/\bd 40 cy/\inR cx cy ps/\∀(qs:List Qt) (z:T),upQ qs->(∀q∈qs,okQ cx cy q)->qs.length<=1600->(∀q∈qs,∀a b,(∀p∈ps,a<=p.1/\p.1<=b)->a<=q.1/\q.1<b)->(∀x y,Wi ps x y->((x,y,3):Qt)∈qs)->k (.dT true (dQ qs)) [z]
section
variable{P:OI}{w:OK}{K:OA}{mg:Str->Option Oy}{base:OM}
theorem rh:FnScope ["_law_corners_here","_law_found","_law_xs","_law_ys","_law_x","_law_y","_law_side","_law_spot"] ["_law_corners_here"] (az pE):=⟨rfl,rfl,rfl,by rfl',rfl,by rfl',by rfl'⟩
theorem AQ(F:Fun K "_law_inside" "_law_inside" pE f fd)(TX:Txt mg)  (po:Cal P w K mg base 1 "_law_crossed" ["_law_corners_here","_law_spot"] (aI K 2 qK)):FnOk P w K mg base CX0 2 f fd ["_law_corners_here"] (aI K 1 uR):=by
 refine cB F rh [true] rfl (fun cdv A outer s H E hr=>?_);have sc:=@rh;have nd1:(["_law_corner"]:List Str).Nodup:=by rfl'
 have nd2:(["_law_corner"]:List Str).Nodup:=by rfl'
 refine⟨_,(ah (ax (i:=1) sc.nd (by rfl) (d_ rfl) (by rfl) (aB qr)) (ah (kB sc (i:=2) ["_law_corner"] [none] nd1 (by rfl') (by rfl) (d_ rfl) (by rfl) (aX (ae 0)) (fun _ _ _=>(au (i:=0) nd1 (by rfl) (d_ rfl) (by rfl) (hf:=(j_ rfl)))) (fun _ _ _=>bI) (fun _ _ _=>(aA hr (ae 0) ge_int)) (by rfl)) (ah (kB sc (i:=3) ["_law_corner"] [none] nd2 (by rfl') (by rfl) (d_ rfl) (by rfl) (aX (ae 0)) (fun _ _ _=>(au (i:=0) nd2 (by rfl) (d_ rfl) (by rfl) (hf:=(j_ rfl)))) (fun _ _ _=>bI) (fun _ _ _=>(aA hr (ae 0) ge_int)) (by rfl)) (ah (bB OQ (by rfl) (i9 (by rfl) TX.range (aa (aB (aK (ig rfl) (by rfl) TX.min (by rfl') (aa (ae 2) af))) (aa (aB (aK (iL rfl) (by rfl) TX.max (by rfl') (aa (ae 2) af))) af))) (au (i:=4) sc.nd (by rfl) (d_ rfl) (by rfl)) (aj (bB OQ (by rfl) (i9 (by rfl) TX.range (aa (aB (aK (ig rfl) (by rfl) TX.min (by rfl') (aa (ae 3) af))) (aa (aB (aK (iL rfl) (by rfl) TX.max (by rfl') (aa (ae 3) af))) af))) (au (i:=5) sc.nd (by rfl) (d_ rfl) (by rfl)) (aj (bB OQ (by rfl) (fJ (by rfl) TX.range (aa ge_int af)) (au (i:=6) sc.nd (by rfl) (d_ rfl) (by rfl)) (ah (ax (i:=7) sc.nd (by rfl) (d_ rfl) (by rfl) (aB (ay (aa (ag aq (ag bH ge_int (ae 4)) (aA hr (aW (aa ge_int (aa ge_int (aa ge_int (aa ge_int af))))) (ae 6))) (aa (ag aq (ag bH ge_int (ae 5)) (aA hr (aW (aa ge_int (aa ge_int (aa ge_int (aa ge_int af))))) (ae 6))) af))))) (aj (dv (iF (bj (cE hr) (ag F7 (av po hr (by rfl) (ai (ae 0) (ai (ae 7) aw))) ge_int) ge_int (aN _))) (aj (lE iZ (pV (i:=1) hr (aB (ay (aa (ae 4) (aa (ae 5) (aa (ae 6) af)))))))) ba)))))))) (aj (aM (jx 1))))))),fun ts kk hl hp=>?_⟩;clear hl;obtain⟨o,ps,cx,cy,rfl,h0,h1,⟨c1,c2⟩,⟨c3,c4⟩,hb,q⟩:=hp;have kw:∀f:Pt->Int,ps.map f≠[]:=fun f z=>by rw[NA]at z;rw[z]at h0;exact absurd h0 (by decide)
 nofun;refine⟨rfl,aJ (by rw[a_,sizeLine_eq];lia) (fun i acc ie=>∃z1,acc=(ps.take i).map (fun p=>T.int p.1)/\ie=[z1]) ⟨_,rfl,rfl⟩ ?_ ?_⟩
 ·rintro i t _ _ ⟨z1,rfl,rfl⟩ ei;obtain⟨l,el,rfl⟩:=aQ ei;nofun;exact⟨_,by rw[map_take el],rfl⟩
 rintro _ _ ⟨z1,rfl,rfl⟩;rw[a_,t_];nofun;refine aJ (by rw[a_,sizeLine_eq];lia) (fun i acc ie=>∃z1,acc=(ps.take i).map (fun p=>T.int p.2)/\ie=[z1]) ⟨_,rfl,rfl⟩ ?_ ?_
 ·rintro i t _ _ ⟨z1,rfl,rfl⟩ ei;obtain⟨l,el,rfl⟩:=aQ ei;nofun;exact⟨_,by rw[map_take el],rfl⟩
 rintro _ _ ⟨z1,rfl,rfl⟩;rw[a_,t_];nofun;refine⟨kw _,fun x0 hx0=>⟨kw _,fun x1 hx1=>?_⟩⟩;obtain⟨y0,hy0⟩:=tq (l:=ps.map (·.2)) (by rw[a_];omega);obtain⟨y1,hy1⟩:=Ft (l:=ps.map (·.2)) (by rw[a_];omega);have bb:=HP hb hx0 hx1 hy0 hy1;have hs:∀p∈ps,sm p:=fun p m=>by obtain⟨⟨g1,g2⟩,g3,g4⟩:=iY hb m;exact⟨by lia,by lia,by lia,by lia⟩
 refine⟨by omega,aR (fun i env=>∃(qs:List Qt) (z4 z5 z6 z7:T),upQ qs/\(∀q∈qs,okQ cx cy q/\x0<=q.1/\q.1<x0+i)/\qs.length<=80*i/\(∀x y,Od ps x y->y0<=y->y<y1->x0<=x->x<x0+i->((x,y,3):Qt)∈qs)/\env=[.lst o (ps.map ptP),.dT true (dQ qs),.lst true (ps.map fun p=>T.int p.1),.lst true (ps.map fun p=>T.int p.2),z4,z5,z6,z7]) ⟨[],_,_,_,_,.nil,(fun q m=>by cases m),F' _,(fun x y _ _ _ a b=>by lia),rfl⟩ ?_ ?_⟩
 ·rintro i t _ ⟨qs,z4,z5,z6,z7,u1,u2,u3,u4,rfl⟩ ei;have hi:=fV ei;have et:=jn ei;subst et;nofun;refine⟨kw _,fun y0' hy0'=>?_⟩;cases Eh hy0 hy0';refine⟨kw _,fun y1' hy1'=>?_⟩;cases DX hy1 hy1';clear hy0' hy1';refine⟨by omega,aR (fun j env=>∃(qs:List Qt) (z5 z6 z7:T),upQ qs/\(∀q∈qs,okQ cx cy q/\x0<=q.1/\(q.1<x0+i\/q.1=x0+i/\q.2.1<y0+j))/\qs.length<=80*i+4*j/\(∀x y,Od ps x y->y0<=y->y<y1->x0<=x->(x<x0+i\/x=x0+i/\y<y0+j)->((x,y,3):Qt)∈qs)/\env=[.lst o (ps.map ptP),.dT true (dQ qs),.lst true (ps.map fun p=>T.int p.1),.lst true (ps.map fun p=>T.int p.2),.int (x0+i),z5,z6,z7]) ⟨qs,_,_,_,u1,fun q m=>⟨(u2 q m).1,(u2 q m).2.1,.inl (u2 q m).2.2⟩,u3,(fun x y o a b c d=>u4 x y o a b c (by lia)),rfl⟩ ?_ ?_⟩
  ·clear u1 u2 u3 u4 qs;rintro j t _ ⟨qs,z5,z6,z7,u1,u2,u3,u4,rfl⟩ ej;have hj:=fV ej;have et:=jn ej;subst et;nofun;refine⟨by decide,aR (fun s env=>∃(qs:List Qt) (z6 z7:T),upQ qs/\(∀q∈qs,okQ cx cy q/\x0<=q.1/\(q.1<x0+i\/q.1=x0+i/\(q.2.1<y0+j\/q.2.1=y0+j/\q.2.2<s)))/\qs.length<=80*i+4*j+s/\(∀x y,Od ps x y->y0<=y->y<y1->x0<=x->(x<x0+i\/x=x0+i/\(y<y0+j\/y=y0+j/\s=4))->((x,y,3):Qt)∈qs)/\env=[.lst o (ps.map ptP),.dT true (dQ qs),.lst true (ps.map fun p=>T.int p.1),.lst true (ps.map fun p=>T.int p.2),.int (x0+i),.int (y0+j),z6,z7]) ⟨qs,_,_,u1,fun q m=>⟨(u2 q m).1,by have:=(u2 q m).2;lia⟩,u3,(fun x y o a b c d=>u4 x y o a b c (by lia)),rfl⟩ ?_ ?_⟩
   ·clear u1 u2 u3 u4 qs;rintro s t _ ⟨qs,z6,z7,u1,u2,u3,u4,rfl⟩ es;have hs4:s<4:=fV es;have et:=jn es;subst et;rw[L5];obtain⟨⟨v1,e1,f1⟩,v2,e2,f2⟩:=BL hs4;nofun;refine⟨.inl ⟨by decide,by decide⟩,cK e1 ?_⟩;nofun;refine⟨.inl ⟨by decide,by decide⟩,cK e2 ?_⟩;nofun;refine⟨false,ps,(8*(x0+i)+v1,8*(y0+j)+v2),rfl,h0,h1,hs,?_⟩;nofun;refine⟨by decide,aF (fun h=>?_) (fun h=>?_)⟩
    ·nofun;have gn:∀r∈qs,ltQ r (x0+i,y0+j,s):=fun r m=>by have:=(u2 r m).2.2;unfold ltQ;dsimp only;omega
     refine⟨by rw[oP];lia,qs++[(x0+i,y0+j,s)],_,_,F6 u1 gn,Er u2 (fun r g=>⟨g.1,by have:=g.2;lia⟩) ⟨⟨⟨by dsimp only;lia,by dsimp only;lia⟩,⟨by dsimp only;lia,by dsimp only;lia⟩,hs4⟩,by dsimp only;lia⟩,by rw[gV];show qs.length+1<=_;lia,(fun x y o a b c d=>?_),by rw[<-tf (Gb gn)];rfl⟩;by_cases z:x=x0+i/\y=y0+j
     ·obtain⟨rfl,rfl⟩:=z;obtain rfl:s=3:=by lia
      exact w_ _ (.head _)
     exact KP _ (u4 x y o a b c (by lia))
    nofun;refine⟨qs,_,_,u1,fun r m=>⟨(u2 r m).1,by have:=(u2 r m).2;lia⟩,by lia,(fun x y o a b c d=>?_),rfl⟩;by_cases z:x=x0+i/\y=y0+j
    ·obtain⟨rfl,rfl⟩:=z;obtain rfl:s=3:=by lia
     cases f1 rfl;cases f2 rfl;exact absurd o h
    exact u4 x y o a b c (by lia)
   clear u1 u2 u3 u4 qs;rintro _ ⟨qs,z6,z7,u1,u2,u3,u4,rfl⟩;have u3:qs.length<=80*i+4*j+4:=u3;exact⟨qs,_,_,_,u1,fun r m=>⟨(u2 r m).1,by have:=(u2 r m).2;lia⟩,by omega,(fun x y o a b c d=>u4 x y o a b c (by have e:(nM 0 (Ov 4)).length=4:=rfl;lia)),rfl⟩
  clear u1 u2 u3 u4 qs;rintro _ ⟨qs,z5,z6,z7,u1,u2,u3,u4,rfl⟩;rw[de]at u3 u2 u4;exact⟨qs,_,_,_,_,u1,fun r m=>⟨(u2 r m).1,by have:=(u2 r m).2;lia⟩,by lia,(fun x y o a b c d=>u4 x y o a b c (by lia)),rfl⟩
 rintro _ ⟨qs,z4,z5,z6,z7,u1,u2,u3,u4,rfl⟩;rw[de]at u3 u2 u4;nofun;refine q qs _ u1 (fun r m=>(u2 r m).1) (by lia) (fun r m a b h=>?_) fun x y ⟨o,⟨p1,m1,g1⟩,⟨p2,m2,g2⟩,⟨p3,m3,g3⟩,p4,m4,g4⟩=>?_
 ·obtain⟨p,mp,rfl⟩:=n_.mp hx0.1;obtain⟨p',mp',rfl⟩:=n_.mp hx1.1;have h1:=(h p mp).1;have h2:=(h p' mp').2;have h3:=u2 r m;lia
 have h1:=hx0.2 _ (v_ m1);have h2:=hx1.2 _ (v_ m2);have h3:=hy0.2 _ (v_ m3);have h4:=hy1.2 _ (v_ m4);exact u4 x y o (by lia) (by lia) (by lia) (by lia)
end
def Bd:FP:=fun ts k=>∃x y w h,∃(o:Bool),∃a b c d,ts=[.int x,.int y,.int w,.int h,.lst o [.int a,.int b,.int c,.int d]]/\k (.lst true ((jD x y w h a b c d).map ptP)) [.int x,.int y,.int w,.int h,.lst false [.int a,.int b,.int c,.int d]]
section
variable{P:OI}{w:OK}{K:OA}{mg:Str->Option Oy}{base:OM}
theorem B9:FnScope ["_law_x","_law_y","_law_wide","_law_high","_law_cuts","_law_a","_law_b","_law_c","_law_d","_law_corners_here"] ["_law_x","_law_y","_law_wide","_law_high","_law_cuts"] (az Dx):=⟨rfl,rfl,rfl,by rfl',rfl,by rfl',by rfl'⟩
theorem Ie(F:Fun K "_law_box" "_law_box" Dx f fd)(TX:Txt mg)  :FnOk P w K mg base CX0 1 f fd ["_law_x","_law_y","_law_wide","_law_high","_law_cuts"] (aI K 5 Bd):=by
 refine cB F B9 [true,true,true,true,true] rfl (fun cdv A outer s H E hr=>?_);have sc:=@B9;have nd1:(["_law_k","_law_corner","_law_corners_here"]:List Str).Nodup:=by rfl'
 refine⟨_,(ah (lE (bg 4) (yM (n:=4) (by rfl) (aC (au (i:=5) sc.nd (by rfl) (d_ rfl) (by rfl)) (aC (au (i:=6) sc.nd (by rfl) (d_ rfl) (by rfl)) (aC (au (i:=7) sc.nd (by rfl) (d_ rfl) (by rfl)) (aC (au (i:=8) sc.nd (by rfl) (d_ rfl) (by rfl)) du)))))) (ah (ax (i:=9) sc.nd (by rfl) (j_ rfl) (by rfl) (aB (aW (aa (ay (aa (ag aq (ae 0) (ae 5)) (aa (ae 1) af))) (aa (ay (aa (ag aP (ag aq (ae 0) (ae 2)) (ae 6)) (aa (ae 1) af))) (aa (ay (aa (ag aq (ae 0) (ae 2)) (aa (ag aq (ae 1) (ae 6)) af))) (aa (ay (aa (ag aq (ae 0) (ae 2)) (aa (ag aP (ag aq (ae 1) (ae 3)) (ae 7)) af))) (aa (ay (aa (ag aP (ag aq (ae 0) (ae 2)) (ae 7)) (aa (ag aq (ae 1) (ae 3)) af))) af)))))))) (ah (ax (i:=9) sc.nd (by rfl) (j_ rfl) (by rfl) (aB (ag aq (ae 9) (aW (aa (ay (aa (ag aq (ae 0) (ae 8)) (aa (ag aq (ae 1) (ae 3)) af))) (aa (ay (aa (ae 0) (aa (ag aP (ag aq (ae 1) (ae 3)) (ae 8)) af))) (aa (ay (aa (ae 0) (aa (ag aq (ae 1) (ae 5)) af))) af))))))) (aj (aM (aB (bT sc ["_law_k","_law_corner","_law_corners_here"] [none,none,some 9] nd1 (by rfl') (yy (by rfl) TX.enumerate (aa (ae 9) af)) (fun _ _ _=>(yM (n:=2) (by rfl) (aC (au (i:=0) nd1 (by rfl) (d_ rfl) (by rfl) (hf:=(j_ rfl))) (aC (au (i:=1) nd1 (by rfl) (d_ rfl) (by rfl) (hf:=(j_ rfl))) du)))) (fun _ _ _=>(kL (bj (sG hr) (ae 1) (aA hr (ae 2) (ag aP (ae 0) ge_int)) (aN _)))) (fun _ _ _=>(ae 1))))))))),fun ts kk hl hp=>?_⟩;clear hl;obtain⟨x,y,w,h,o,a,b,c,d,rfl,q⟩:=hp;nofun;have el:[T.tup [T.int (x+a),T.int y],T.tup [T.int (x+w-b),T.int y],T.tup [T.int (x+w),T.int (y+b)],T.tup [T.int (x+w),T.int (y+h-c)],T.tup [T.int (x+w-c),T.int (y+h)],T.tup [T.int (x+d),T.int (y+h)],T.tup [T.int x,T.int (y+h-d)],T.tup [T.int x,T.int (y+a)]]=(oW x y w h a b c d).map ptP:=rfl;rw[el];have hl:8=(oW x y w h a b c d).length:=rfl;have hp:(oW x y w h a b c d).getD ((oW x y w h a b c d).length-1) (0,0)=(x,y+a):=rfl;unfold jD at q;generalize oW x y w h a b c d=ps at *;generalize (x,y+a)=p at *;refine aJ (by rw[qp hl,<-hl];decide) (fun i acc ie=>∃z1 z2,acc=(ddl p (ps.take i)).map ptP/\ie=[z1,z2,.lst false (ps.map ptP)]) ⟨_,_,rfl,rfl⟩ ?_ ?_
 ·rintro i u _ _ ⟨z1,z2,rfl,rfl⟩ eu;obtain⟨c,ec,rfl⟩:=zf hl eu;have hi:i<ps.length:=(f_.mp ec).1;nofun;refine cK (vh (g:=ptP) (l:=ps) hi (0,0)) ?_;nofun;rw[Bk hp ec];refine aF (fun h=>?_) (fun h=>?_)
  ·nofun;rw[if_neg h];exact⟨_,_,by rw[q_];rfl,rfl⟩
  nofun;rw[if_pos (WA h),J'];exact⟨_,_,rfl,rfl⟩
 rintro _ _ ⟨z1,z2,rfl,rfl⟩;rw[qp hl,t_];nofun;exact q
end
def vN:FP:=fun ts k=>∃x y w h m,ts=[.int x,.int y,.int w,.int h,.int m]/\bd 15 x/\bd 15 y/\7<=w/\w<=20/\5<=h/\h<=20/\∀(ps:List Pt),0<ps.length->ps.length<=12->inR x y ps->Thr ps->k (.lst true (ps.map ptP)) ts
section
variable{P:OI}{w:OK}{K:OA}{mg:Str->Option Oy}{base:OM}
theorem qS:FnScope ["_law_x","_law_y","_law_wide","_law_high","_law_way","_law_u","_law_v","_law_rows","_law_p","_law_q"] ["_law_x","_law_y","_law_wide","_law_high","_law_way"] (az ql):=⟨rfl,rfl,rfl,by rfl',rfl,by rfl',by rfl'⟩
theorem Au(F:Fun K "_law_angled" "_law_angled" ql f fd)(TX:Txt mg)  :FnOk P w K mg base CX0 1 f fd ["_law_x","_law_y","_law_wide","_law_high","_law_way"] (aI K 5 vN):=by
 refine cB F qS [true,true,true,true,true] rfl (fun cdv A outer s H E hr=>?_);have sc:=@qS;have nd1:(["_law_one","_law_other","_law_y","_law_x"]:List Str).Nodup:=by rfl'
 refine⟨_,(ah (mY (i:=5) (j:=6) (by rfl) sc.nd (by rfl) (by rfl) (by decide) (by rfl) (by rfl) (by rfl) (by rfl) (aa (aB (ag aq ge_int (ag kN (ae 2) ge_int))) (aa (aB (ag aq ge_int (ag kN (ae 3) ge_int))) af)) (by rfl)) (bJ (dv (iF (bj (cE hr) (ae 4) ge_int (aN _))) (aj (ax (i:=7) sc.nd (by rfl) (d_ rfl) (by rfl) (aB (aW (aa (ay (aa ge_int (aa ge_int af))) (aa (ay (aa (ae 2) (aa ge_int af))) (aa (ay (aa (ae 2) (aa (ae 6) af))) (aa (ay (aa (ae 5) (aa (ae 6) af))) (aa (ay (aa (ae 5) (aa (ae 3) af))) (aa (ay (aa ge_int (aa (ae 3) af))) af)))))))))) (aj (dv (iF (bj (cE hr) (ae 4) ge_int (aN _))) (aj (ax (i:=7) sc.nd (by rfl) (d_ rfl) (by rfl) (aB (aW (aa (ay (aa ge_int (aa ge_int af))) (aa (ay (aa (ae 2) (aa ge_int af))) (aa (ay (aa (ae 2) (aa (ae 3) af))) (aa (ay (aa (ag aP (ae 2) (ae 5)) (aa (ae 3) af))) (aa (ay (aa (ag aP (ae 2) (ae 5)) (aa (ae 6) af))) (aa (ay (aa (ae 5) (aa (ae 6) af))) (aa (ay (aa (ae 5) (aa (ae 3) af))) (aa (ay (aa ge_int (aa (ae 3) af))) af)))))))))))) (ah (mY (i:=8) (j:=9) (by rfl) sc.nd (by rfl) (by rfl) (by decide) (by rfl) (by rfl) (by rfl) (by rfl) (aa (aB (ag kN (ae 3) ge_int)) (aa (aB (ag aP (ae 3) (ag kN (ae 3) ge_int))) af)) (by rfl)) (ah (ax (i:=7) sc.nd (by rfl) (d_ rfl) (by rfl) (aB (aW (aa (ay (aa ge_int (aa ge_int af))) (aa (ay (aa (ae 5) (aa ge_int af))) (aa (ay (aa (ae 5) (aa (ae 8) af))) (aa (ay (aa (ag aP (ae 2) (ae 5)) (aa (ae 8) af))) (aa (ay (aa (ag aP (ae 2) (ae 5)) (aa ge_int af))) (aa (ay (aa (ae 2) (aa ge_int af))) (aa (ay (aa (ae 2) (aa (ae 3) af))) (aa (ay (aa (ag aP (ae 2) (ae 5)) (aa (ae 3) af))) af))))))))))) (aj (ax (i:=7) sc.nd (by rfl) (d_ rfl) (by rfl) (aB (ag aq (ae 7) (aW (aa (ay (aa (ag aP (ae 2) (ae 5)) (aa (ae 9) af))) (aa (ay (aa (ae 5) (aa (ae 9) af))) (aa (ay (aa (ae 5) (aa (ae 3) af))) (aa (ay (aa ge_int (aa (ae 3) af))) af)))))))))))))) (aj (aM (aB (bT sc ["_law_one","_law_other","_law_y","_law_x"] [none,none,some 1,some 0] nd1 (by rfl') (aX (ae 7)) (fun _ _ _=>(fM (n:=2) (by rfl) (aC (au (i:=0) nd1 (by rfl) (d_ rfl) (by rfl) (hf:=(j_ rfl))) (aC (au (i:=1) nd1 (by rfl) (d_ rfl) (by rfl) (hf:=(j_ rfl))) du)))) (fun _ _ _=>bI) (fun _ _ _=>(ay (aa (ag aq (ae 3) (ae 0)) (aa (ag aq (ae 2) (ae 1)) af)))))))))),fun ts kk hl hp=>?_⟩;clear hl;obtain⟨x,y,w,h,m,rfl,⟨x0,x1⟩,⟨y0,y1⟩,w0,w1,h0,h1,q⟩:=hp;nofun;refine⟨⟨by decide,by decide⟩,⟨by decide,by decide⟩,?_⟩;have b0:bR 0 0:=⟨by decide,by decide⟩;have bw:bR 0 w:=⟨by lia,by lia⟩;have bh:bR 0 h:=⟨by lia,by lia⟩;have bu:bR 0 (1+w/4):=⟨by lia,by lia⟩;have bv:bR 0 (1+h/3):=⟨by lia,by lia⟩;have bwu:bR 0 (w-(1+w/4)):=⟨by lia,by lia⟩;have bp:bR 0 (h/3):=⟨by lia,by lia⟩;have bq:bR 0 (h-h/3):=⟨by lia,by lia⟩;refine dq (fun env=>∃(rs:List Pt) (z8 z9:T),0<rs.length/\rs.length<=12/\inR 0 0 rs/\Thr rs/\env=[.int x,.int y,.int w,.int h,.int m,.int (1+w/4),.int (1+h/3),.lst true (rs.map ptP),z8,z9]) ?_ ?_
 ·nofun;refine aF (fun g=>?_) (fun g=>?_)
  ·nofun;exact⟨[(0,0),(w,0),(w,1+h/3),(1+w/4,1+h/3),(1+w/4,h),(0,h)],_,_,L3 _,L6 rfl,⟨⟨b0,b0⟩,⟨bw,b0⟩,⟨bw,bv⟩,⟨bu,bv⟩,⟨bu,bh⟩,⟨b0,bh⟩,trivial⟩,Ip (by omega) (by lia) (by lia),rfl⟩
  nofun;refine aF (fun g=>?_) (fun g=>?_)
  ·nofun;exact⟨[(0,0),(w,0),(w,h),(w-(1+w/4),h),(w-(1+w/4),1+h/3),(1+w/4,1+h/3),(1+w/4,h),(0,h)],_,_,L3 _,L6 rfl,⟨⟨b0,b0⟩,⟨bw,b0⟩,⟨bw,bh⟩,⟨bwu,bh⟩,⟨bwu,bv⟩,⟨bu,bv⟩,⟨bu,bh⟩,⟨b0,bh⟩,trivial⟩,J2 (by omega) (by lia) (by lia),rfl⟩
  nofun;refine⟨⟨by decide,by decide⟩,⟨by decide,by decide⟩,?_⟩;exact⟨[(0,0),(1+w/4,0),(1+w/4,h/3),(w-(1+w/4),h/3),(w-(1+w/4),0),(w,0),(w,h),(w-(1+w/4),h),(w-(1+w/4),h-h/3),(1+w/4,h-h/3),(1+w/4,h),(0,h)],_,_,L3 _,L6 rfl,⟨⟨b0,b0⟩,⟨bu,b0⟩,⟨bu,bp⟩,⟨bwu,bp⟩,⟨bwu,b0⟩,⟨bw,b0⟩,⟨bw,bh⟩,⟨bwu,bh⟩,⟨bwu,bq⟩,⟨bu,bq⟩,⟨bu,bh⟩,⟨b0,bh⟩,trivial⟩,JX (by omega) (by lia) (by lia) (by lia),rfl⟩
 rintro _ ⟨rs,z8,z9,l0,l1,hb,ht,rfl⟩;nofun;refine aJ (by rw[a_,sizeLine_eq];lia) (fun i acc ie=>∃z1 z2,acc=(rs.take i).map (fun p=>ptP (x+p.1,y+p.2))/\ie=[z1,z2,.int y,.int x]) ⟨_,_,rfl,rfl⟩ ?_ ?_
 ·rintro i u _ _ ⟨z1,z2,rfl,rfl⟩ eu;obtain⟨p,ep,rfl⟩:=aQ eu;nofun;exact⟨_,_,by rw[map_take ep];rfl,rfl⟩
 rintro _ _ ⟨z1,z2,rfl,rfl⟩;rw[a_,t_];nofun;have e:rs.map (fun p=>ptP (x+p.1,y+p.2))=(rs.map fun p=>((x+p.1,y+p.2):Pt)).map ptP:=by rw[D_];rfl
 rw[e];refine q _ (by rw[a_];exact l0) (by rw[a_];exact l1) (xh fun p m=>?_) (Hu ht);obtain⟨r,mr,rfl⟩:=n_.mp m;obtain⟨⟨r1,r2⟩,r3,r4⟩:=iY hb mr;exact⟨⟨by dsimp only;lia,by dsimp only;lia⟩,by dsimp only;lia,by dsimp only;lia⟩
end
def qP:FP:=fun ts k=>∃c n x y w h,ts=[stT c n,.int x,.int y,.int w,.int h]/\n<2 ^ 39/\bd 15 x/\bd 15 y/\7<=w/\w<=20/\7<=h/\h<=20/\∀(c':Cells) (n':Nat) (ps:List Pt),n<=n'->n'<=n+20->0<ps.length->ps.length<=12->inR x y ps->Thr ps->k (.lst true (ps.map ptP)) [stT c' n',.int x,.int y,.int w,.int h]
section
variable{P:OI}{w:OK}{K:OA}{mg:Str->Option Oy}{base:OM}
theorem qj:FnScope ["_law_state","_law_x","_law_y","_law_wide","_law_high","_law_way","_law_most","_law_cuts","_law_corners_here","_law_least","_law_first"] ["_law_state","_law_x","_law_y","_law_wide","_law_high"] (az nO):=⟨rfl,rfl,rfl,by rfl',rfl,by rfl',by rfl'⟩
theorem vS(F:Fun K "_law_outline" "_law_outline" nO f fd)(TX:Txt mg)  (Cl:Cal P w K mg base 1 "_law_take" ["_law_state","_law_many"] (aI K 2 kq))(on:Cal P w K mg base 1 "_law_box" ["_law_x","_law_y","_law_wide","_law_high","_law_cuts"] (aI K 5 Bd))(nw:Cal P w K mg base 1 "_law_angled" ["_law_x","_law_y","_law_wide","_law_high","_law_way"] (aI K 5 vN)):FnOk P w K mg base CX0 2 f fd ["_law_state","_law_x","_law_y","_law_wide","_law_high"] (aI K 5 qP):=by
 refine cB F qj [true,true,true,true,true] rfl (fun cdv A outer s H E hr=>?_);have sc:=@qj;have nd1:(["_law_turn","_law_most","_law_state"]:List Str).Nodup:=by rfl'
 refine⟨_,(ah (ax (i:=5) sc.nd (by rfl) (d_ rfl) (by rfl) (av Cl hr (by rfl) (aH 0 (ai ge_int aw)))) (ah (ax (i:=6) sc.nd (by rfl) (j_ rfl) (by rfl) (aB (ag kN (aK (ig rfl) (by rfl) TX.min (by rfl') (aa (ae 3) (aa (ae 4) af))) ge_int))) (ah (yF sc (i:=7) ["_law_turn","_law_most","_law_state"] [none,some 6,some 0] nd1 (by rfl') (by rfl) (d_ rfl) (by rfl) (fJ (by rfl) TX.range (aa ge_int af)) (fun _ _ _=>(au (i:=0) nd1 (by rfl) (d_ rfl) (by rfl) (hf:=(j_ rfl)))) (fun _ _ _=>bI) (fun _ _ _=>(av Cl hr (by rfl) (aH 2 (ai (aA hr (aB (aW (aa ge_int (aa ge_int (aa (ag aq (ae 1) ge_int) af))))) (av Cl hr (by rfl) (aH 2 (ai ge_int aw)))) aw)))) (by rfl)) (ah (ax (i:=8) sc.nd (by rfl) (d_ rfl) (by rfl) (aB (av on hr (by rfl) (ai (ae 1) (ai (ae 2) (ai (ae 3) (ai (ae 4) (ai (ae 7) aw)))))))) (bJ (dv (iF (bj iz (ae 5) ge_int (aN _))) (aj (ax (i:=8) sc.nd (by rfl) (d_ rfl) (by rfl) (aB (av nw hr (by rfl) (ai (ae 1) (ai (ae 2) (ai (ae 3) (ai (ae 4) (ai (ae 5) aw))))))))) ba) (bJ (dv (iF (bj (cE hr) (ae 5) ge_int (aN _))) (ah (ax (i:=9) sc.nd (by rfl) (d_ rfl) (by rfl) (aB (aK (ig rfl) (by rfl) TX.min (by rfl') (aa (ae 3) (aa (ae 4) af))))) (aj (ax (i:=8) sc.nd (by rfl) (d_ rfl) (by rfl) (aB (aW (aa (ay (aa (ae 1) (aa (ae 2) af))) (aa (ay (aa (ag aq (ae 1) (ae 9)) (aa (ae 2) af))) (aa (ay (aa (ae 1) (aa (ag aq (ae 2) (ae 9)) af))) af)))))))) ba) (ah (ax (i:=10) sc.nd (by rfl) (d_ rfl) (by rfl) (av Cl hr (by rfl) (aH 0 (ai (aB (aK jB (by rfl) TX.len (by rfl') (aa (ae 8) af))) aw)))) (ah (ax (i:=8) sc.nd (by rfl) (d_ rfl) (by rfl) (aB (ag aq (iq (ae 8) (iH (ae 10)) jM) (iq (ae 8) jM (iH (ae 10)))))) (bJ (dv (bj (cE hr) (av Cl hr (by rfl) (aH 0 (ai ge_int aw))) ge_int (aN _)) (aj (iE (CL 8 PySem.F.slot_list_reverse PySem.F.type_list_reverse uw))) ba) (aj (aM (jx 8)))))))))))),fun ts kk hl hp=>?_⟩;clear hl;obtain⟨c,n,x,y,w,h,rfl,hn,⟨x0,x1⟩,⟨y0,y1⟩,w0,w1,h0,h1,q⟩:=hp;nofun;walk_at "take";intro way c1 a1 b1;nofun;refine⟨⟨by decide,by decide⟩,by decide,aJ (by rw[de,sizeLine_eq];decide) (fun i acc ie=>∃c' n' cs z,n+1<=n'/\n'<=n+1+2*i/\acc=K' T.int cs/\cs.length=i/\(∀v∈cs,0<=v/\v<=min w h/2)/\ie=[z,.int (min w h/2),stT c' n']) ⟨c1,n+1,[],_,b_ _,by lia,rfl,rfl,(fun _ m=>by cases m),rfl⟩ ?_ ?_⟩
 ·rintro i t _ _ ⟨c',n',cs,z,l1,l2,rfl,hl,hv,rfl⟩ ei;have hi:i<4:=fV ei;nofun;walk_at "take";intro r c2 a2 b2;nofun;obtain⟨v,ev,v0,v1⟩:=n5 (fun v=>1<=v/\v<=min w h/2+1) (ns:=[1,2,min w h/2+1]) (i:=r) (by omega) (by show r<3;omega) (by intro v hv;simp only[h_,Ld,or_false]at hv;lia)
  refine cK ev ?_;nofun;walk_at "take";intro r2 c3 a3 b3;nofun;refine⟨c3,n'+1+1,cs++[r2],_,by lia,by lia,by rw[q_];rfl,by rw[gV,hl];rfl,fun v m=>?_,rfl⟩;rcases F_.mp m with m|m
  ·exact hv v m
  rw[y_.mp m];lia
 rintro _ _ ⟨c2,n2,cs,z,l1,l2,rfl,hl,hv,rfl⟩;rw[de]at l2 hl;obtain⟨a,b,c',d,rfl,ha,hb,hc,hd⟩:=four (P:=fun v=>0<=v/\v<=min w h/2) hl hv;nofun;refine⟨x,y,w,h,false,a,b,c',d,rfl,?_⟩;have pb:inR x y (jD x y w h a b c' d):=z0 ⟨by lia,by lia⟩ ⟨by lia,by lia⟩ ⟨by lia,by lia⟩ ⟨by lia,by lia⟩ ⟨by lia,by lia⟩ ⟨by lia,by lia⟩ ⟨by lia,by lia⟩ ⟨by lia,by lia⟩ ⟨by lia,by lia⟩ ⟨by lia,by lia⟩ ⟨by lia,by lia⟩ ⟨by lia,by lia⟩;have pl:(jD x y w h a b c' d).length<=8:=xY;have pt:Thr (jD x y w h a b c' d):=F9 (by omega) (by lia) ha hb hc hd;have p0:0<(jD x y w h a b c' d).length:=mC (by lia);generalize jD x y w h a b c' d=ps at *;nofun;refine dq (fun env=>∃(ps:List Pt) (z9 z10:T),0<ps.length/\ps.length<=12/\inR x y ps/\Thr ps/\env=[stT c2 n2,.int x,.int y,.int w,.int h,.int way,.int (min w h/2),.lst true [.int a,.int b,.int c',.int d],.lst true (ps.map ptP),z9,z10]) ?_ ?_
 ·nofun;refine aF (fun g=>?_) (fun g=>?_)
  ·nofun;refine⟨x,y,w,h,way,rfl,⟨x0,x1⟩,⟨y0,y1⟩,by omega,w1,by lia,h1,fun ps' g1 g2 g3 g4=>?_⟩;nofun;exact⟨ps',_,_,g1,g2,g3,g4,rfl⟩
  nofun;exact⟨ps,_,_,p0,by lia,pb,pt,rfl⟩
 clear pb pl p0 pt ps;rintro _ ⟨ps,z9,z10,p0,pl,pb,pt,rfl⟩;refine dq (fun env=>∃(ps:List Pt) (z9 z10:T),0<ps.length/\ps.length<=12/\inR x y ps/\Thr ps/\env=[stT c2 n2,.int x,.int y,.int w,.int h,.int way,.int (min w h/2),.lst true [.int a,.int b,.int c',.int d],.lst true (ps.map ptP),z9,z10]) ?_ ?_
 ·nofun;refine aF (fun g=>?_) (fun g=>?_)
  ·nofun;exact⟨[(x,y),(x+min w h,y),(x,y+min w h)],_,_,L3 _,L6 rfl,⟨⟨⟨by dsimp only;lia,by dsimp only;lia⟩,by dsimp only;lia,by dsimp only;lia⟩,⟨⟨by dsimp only;lia,by dsimp only;lia⟩,by dsimp only;lia,by dsimp only;lia⟩,⟨⟨by dsimp only;lia,by dsimp only;lia⟩,by dsimp only;lia,by dsimp only;lia⟩,trivial⟩,IB (by lia),rfl⟩
  nofun;exact⟨ps,_,_,p0,pl,pb,pt,rfl⟩
 clear pb pl p0 pt ps;rintro _ ⟨ps,z9,z10,p0,pl,pb,pt,rfl⟩;nofun;walk_at "take";intro first c3 a3 b3
 nofun;obtain⟨e1,e2⟩:=Jv (ts:=ps.map ptP) (m:=first) a3 (by rw[a_];exact b3);rw[e1,e2,<-MT,<-MU,aV,aV,<-q_];have l1:(ps.drop first.toNat++ps.take first.toNat).length=ps.length:=by rw[gV,KU,B_];lia
 have m1:inR x y (ps.drop first.toNat++ps.take first.toNat):=vq pb fun p m=>(F_.mp m).elim Np Nq;have t1:Thr (ps.drop first.toNat++ps.take first.toNat):=Cv pt (fun s=>by rw[Dv,Ll]) fun p m=>F_.mpr (Or.symm (F_.mp (by rwa[Ll])))
 refine⟨by rw[a_,a_,KU,B_];lia,by rw[show((ps.drop first.toNat).all fun x=>dy (ptP x))=true from dA _,show((ps.take first.toNat).all fun x=>dy (ptP x))=true from dA _];rfl,?_⟩;generalize ps.drop first.toNat++ps.take first.toNat=qs at *;refine dq (fun env=>∃(c4:Cells) (qs:List Pt),qs.length=ps.length/\inR x y qs/\Thr qs/\env=[stT c4 (n2+1+1),.int x,.int y,.int w,.int h,.int way,.int (min w h/2),.lst true [.int a,.int b,.int c',.int d],.lst true (qs.map ptP),z9,.int first]) ?_ ?_
 ·nofun;walk_at "take";intro r c4 a4 b4;nofun;refine aF (fun g=>?_) (fun g=>?_)
  ·nofun;exact⟨c4,qs.reverse,by rw[KO,l1],vq m1 fun p m=>L_.mp m,Cv t1 (fun s=>BR fun _ _=>sV) fun p m=>L_.mpr m,by rw[M8]⟩
  nofun;exact⟨c4,qs,l1,m1,t1,rfl⟩
 rintro _ ⟨c4,qs,l2,m2,t2,rfl⟩;nofun;exact q c4 (n2+1+1) qs (by lia) (by lia) (by lia) (by lia) m2 t2
end
def rO:FP:=fun ts k=>∃(b o:Bool) (t:Tl) (x y:Int) (s:Nat),ts=[tlT b o t,.int x,.int y,.int (s:Int)]/\s<4/\k (.bl (inM t (x,y,s))) ts
section
variable{P:OI}{w:OK}{K:OA}{mg:Str->Option Oy}{base:OM}
theorem qa:FnScope ["_law_tool_here","_law_x","_law_y","_law_side","_law_ends","_law_points"] ["_law_tool_here","_law_x","_law_y","_law_side"] (az nX):=⟨rfl,rfl,rfl,by rfl',rfl,by rfl',by rfl'⟩
theorem xy(F:Fun K "_law_in_mark" "_law_in_mark" nX f fd)(TX:Txt mg)  :FnOk P w K mg base CX0 1 f fd ["_law_tool_here","_law_x","_law_y","_law_side"] (aI K 4 rO):=by
 refine cB F qa [true,true,true,true] rfl (fun cdv A outer s H E hr=>?_);have sc:=@qa;have nd1:(["_law_one","_law_other","_law_y","_law_x"]:List Str).Nodup:=by rfl'
 have nd2:(["_law_one","_law_other","_law_tool_here"]:List Str).Nodup:=by rfl'
 refine⟨_,(@ah _ _ _ _ _ _ (@ax _ _ _ _ _ 4 _ _ sc.nd (by rfl) (d_ rfl) (by rfl) (@aB _ _ _ (@aA _ _ _ _ _ _ _ hr (@aW _ _ _ _ (@aa _ _ _ _ _ (@aW _ _ _ _ (@aa _ _ _ _ _ (@ay _ _ _ _ _ (@aa _ _ _ _ _ (@ge_int _ _ _ _) (@aa _ _ _ _ _ (@ge_int _ _ _ _) (@af _) (by rfl)) (by rfl))) (@aa _ _ _ _ _ (@ay _ _ _ _ _ (@aa _ _ _ _ _ (@ge_int _ _ _ _) (@aa _ _ _ _ _ (@ge_int _ _ _ _) (@af _) (by rfl)) (by rfl))) (@af _) (by rfl)) (by rfl))) (@aa _ _ _ _ _ (@aW _ _ _ _ (@aa _ _ _ _ _ (@ay _ _ _ _ _ (@aa _ _ _ _ _ (@ge_int _ _ _ _) (@aa _ _ _ _ _ (@ge_int _ _ _ _) (@af _) (by rfl)) (by rfl))) (@aa _ _ _ _ _ (@ay _ _ _ _ _ (@aa _ _ _ _ _ (@ge_int _ _ _ _) (@aa _ _ _ _ _ (@ge_int _ _ _ _) (@af _) (by rfl)) (by rfl))) (@af _) (by rfl)) (by rfl))) (@aa _ _ _ _ _ (@aW _ _ _ _ (@aa _ _ _ _ _ (@ay _ _ _ _ _ (@aa _ _ _ _ _ (@ge_int _ _ _ _) (@aa _ _ _ _ _ (@ge_int _ _ _ _) (@af _) (by rfl)) (by rfl))) (@aa _ _ _ _ _ (@ay _ _ _ _ _ (@aa _ _ _ _ _ (@ge_int _ _ _ _) (@aa _ _ _ _ _ (@ge_int _ _ _ _) (@af _) (by rfl)) (by rfl))) (@af _) (by rfl)) (by rfl))) (@aa _ _ _ _ _ (@aW _ _ _ _ (@aa _ _ _ _ _ (@ay _ _ _ _ _ (@aa _ _ _ _ _ (@ge_int _ _ _ _) (@aa _ _ _ _ _ (@ge_int _ _ _ _) (@af _) (by rfl)) (by rfl))) (@aa _ _ _ _ _ (@ay _ _ _ _ _ (@aa _ _ _ _ _ (@ge_int _ _ _ _) (@aa _ _ _ _ _ (@ge_int _ _ _ _) (@af _) (by rfl)) (by rfl))) (@af _) (by rfl)) (by rfl))) (@af _) (by rfl)) (by rfl)) (by rfl)) (by rfl))) (@ae _ _ 3 _ (by rfl) (by first|exact d_ rfl|exact j_ (d_ rfl)|exact j_ (j_ rfl)) (by decide) (by decide)) (by intro _ _;rfl))) (by rfl) (by first|exact .inl rfl|exact .inr rfl)) (@ah _ _ _ _ _ _ (@ax _ _ _ _ _ 5 _ _ sc.nd (by rfl) (d_ rfl) (by rfl) (@aB _ _ _ (@ag _ _ _ _ _ _ _ _ aq (@aW _ _ _ _ (@aa _ _ _ _ _ (@ay _ _ _ _ _ (@aa _ _ _ _ _ (@ag _ _ _ _ _ _ _ _ aq (@ag _ _ _ _ _ _ _ _ bH (@ge_int _ _ _ _) (@ae _ _ 1 _ (by rfl) (by first|exact d_ rfl|exact j_ (d_ rfl)|exact j_ (j_ rfl)) (by decide) (by decide))) (@ge_int _ _ _ _)) (@aa _ _ _ _ _ (@ag _ _ _ _ _ _ _ _ aq (@ag _ _ _ _ _ _ _ _ bH (@ge_int _ _ _ _) (@ae _ _ 2 _ (by rfl) (by first|exact d_ rfl|exact j_ (d_ rfl)|exact j_ (j_ rfl)) (by decide) (by decide))) (@ge_int _ _ _ _)) (@af _) (by rfl)) (by rfl))) (@af _) (by rfl))) (@bT _ _ _ _ sc ["_law_one","_law_other","_law_y","_law_x"] [none,none,some 2,some 1] nd1 _ _ _ _ _ _ _ _ _ _ (by rfl') (@aX _ _ _ _ (@ae _ _ 4 _ (by rfl) (by first|exact d_ rfl|exact j_ (d_ rfl)|exact j_ (j_ rfl)) (by decide) (by decide))) (fun _ _ _=>(@fM _ _ _ _ _ _ 2 (by rfl) (@aC _ _ _ _ _ _ (@au _ _ _ 0 _ nd1 (by rfl) (d_ rfl) (by rfl) (j_ rfl)) (@aC _ _ _ _ _ _ (@au _ _ _ 1 _ nd1 (by rfl) (d_ rfl) (by rfl) (j_ rfl)) (@du _ _) (by rfl)) (by rfl)) (by rfl) (by rfl))) (fun _ _ _=>(@bI _)) (fun _ _ _=>(@ay _ _ _ _ _ (@aa _ _ _ _ _ (@ag _ _ _ _ _ _ _ _ bH (@ge_int _ _ _ _) (@ag _ _ _ _ _ _ _ _ aq (@ae _ _ 3 _ (by rfl) (by first|exact d_ rfl|exact j_ (d_ rfl)|exact j_ (j_ rfl)) (by decide) (by decide)) (@ae _ _ 0 _ (by rfl) (by first|exact d_ rfl|exact j_ (d_ rfl)|exact j_ (j_ rfl)) (by decide) (by decide)))) (@aa _ _ _ _ _ (@ag _ _ _ _ _ _ _ _ bH (@ge_int _ _ _ _) (@ag _ _ _ _ _ _ _ _ aq (@ae _ _ 2 _ (by rfl) (by first|exact d_ rfl|exact j_ (d_ rfl)|exact j_ (j_ rfl)) (by decide) (by decide)) (@ae _ _ 1 _ (by rfl) (by first|exact d_ rfl|exact j_ (d_ rfl)|exact j_ (j_ rfl)) (by decide) (by decide)))) (@af _) (by rfl)) (by rfl)))) (by rfl) (by rfl) (by rfl) (by intro _;rfl)))) (by rfl) (by first|exact .inl rfl|exact .inr rfl)) (@aj _ _ _ _ (@aM _ _ _ _ _ (@aB _ _ _ (@aK _ _ _ _ _ _ _ _ _ (Ak rfl) (by rfl) TX.all (by rfl') (@aa _ _ _ _ _ (@bT _ _ _ _ sc ["_law_one","_law_other","_law_tool_here"] [none,none,some 0] nd2 _ _ _ _ _ _ _ _ _ _ (by rfl') (@aX _ _ _ _ (@ae _ _ 5 _ (by rfl) (by first|exact d_ rfl|exact j_ (d_ rfl)|exact j_ (j_ rfl)) (by decide) (by decide))) (fun _ _ _=>(@fM _ _ _ _ _ _ 2 (by rfl) (@aC _ _ _ _ _ _ (@au _ _ _ 0 _ nd2 (by rfl) (d_ rfl) (by rfl) (j_ rfl)) (@aC _ _ _ _ _ _ (@au _ _ _ 1 _ nd2 (by rfl) (d_ rfl) (by rfl) (j_ rfl)) (@du _ _) (by rfl)) (by rfl)) (by rfl) (by rfl))) (fun _ _ _=>(@bI _)) (fun _ _ _=>(@jO _ _ _ _ _ _ _ _ Dl (@ag _ _ _ _ _ _ _ _ aq (@aK _ _ _ _ _ _ _ _ _ ng (by rfl) TX.abs (by rfl') (@aa _ _ _ _ _ (@ae _ _ 0 _ (by rfl) (by first|exact d_ rfl|exact j_ (d_ rfl)|exact j_ (j_ rfl)) (by decide) (by decide)) (@af _) (by rfl)) (by decide) (by decide) (by rfl) (by rfl)) (@aK _ _ _ _ _ _ _ _ _ ng (by rfl) TX.abs (by rfl') (@aa _ _ _ _ _ (@ae _ _ 1 _ (by rfl) (by first|exact d_ rfl|exact j_ (d_ rfl)|exact j_ (j_ rfl)) (by decide) (by decide)) (@af _) (by rfl)) (by decide) (by decide) (by rfl) (by rfl))) (@ag _ _ _ _ _ _ _ _ bH (@ge_int _ _ _ _) (@ag _ _ _ _ _ _ _ _ aq (@aA _ _ _ _ _ _ _ hr (@ae _ _ 2 _ (by rfl) (by first|exact d_ rfl|exact j_ (d_ rfl)|exact j_ (j_ rfl)) (by decide) (by decide)) (@ge_int _ _ _ _) (by intro _ _;rfl)) (@aA _ _ _ _ _ _ _ hr (@ae _ _ 2 _ (by rfl) (by first|exact d_ rfl|exact j_ (d_ rfl)|exact j_ (j_ rfl)) (by decide) (by decide)) (@ge_int _ _ _ _) (by intro _ _;rfl)))) (aN _))) (by rfl) (by rfl) (by rfl) (by intro _;rfl)) (@af _) (by rfl)) (by decide) (by decide) (by rfl) (by rfl))))))),fun ts kk hl hp=>?_⟩;clear hl;obtain⟨b,o,t,x,y,s,rfl,hs,q⟩:=hp;nofun;refine cK (xV hs).1 ?_;have l2:=(xV hs).2;unfold inM ptM at q;dsimp only at q;generalize edL.getD s []=es at *;nofun;refine⟨.inl ⟨by decide,by decide⟩,.inl ⟨by decide,by decide⟩,aJ (by rw[a_,sizeLine_eq];lia) (fun i acc ie=>∃z1 z2,acc=(es.take i).map (fun e=>ptP (2*(x+e.1),2*(y+e.2)))/\ie=[z1,z2,.int y,.int x]) ⟨_,_,rfl,rfl⟩ ?_ ?_⟩
 ·rintro i u _ _ ⟨z1,z2,rfl,rfl⟩ ei;obtain⟨e,ee,rfl⟩:=aQ ei;nofun;exact⟨.inl ⟨by decide,by decide⟩,.inl ⟨by decide,by decide⟩,_,_,by rw[map_take ee];rfl,rfl⟩
 rintro _ _ ⟨z1,z2,rfl,rfl⟩;rw[a_,t_];nofun;have ep:T.tup [T.int (2*x+1),T.int (2*y+1)]::K' (fun e=>ptP (2*(x+e.1),2*(y+e.2))) es=((2*x+1,2*y+1)::es.map fun e=>((2*(x+e.1),2*(y+e.2)):Pt)).map ptP:=by rw[c_,D_];rfl
 have lp:((2*x+1,2*y+1)::es.map fun e=>((2*(x+e.1),2*(y+e.2)):Pt)).length=3:=by rw[g_,a_,l2]
 rw[ep];generalize ((2*x+1,2*y+1)::es.map fun e=>((2*(x+e.1),2*(y+e.2)):Pt))=ps at *;refine⟨by lia,aJ (by rw[a_,sizeLine_eq];lia) (fun i acc ie=>∃z1 z2,acc=(ps.take i).map (fun p=>T.bl (decide ((p.1.natAbs:Int)+p.2.natAbs<=2*(t.1+t.2.1))))/\ie=[z1,z2,tlT b false t]) ⟨_,_,rfl,rfl⟩ ?_ ?_⟩
 ·rintro i u _ _ ⟨z1,z2,rfl,rfl⟩ ei;obtain⟨p,ee,rfl⟩:=aQ ei;nofun;exact⟨.inl ⟨by decide,by decide⟩,_,_,by rw[map_take ee],rfl⟩
 rintro _ _ ⟨z1,z2,rfl,rfl⟩;rw[a_,t_];nofun;rw[Mh];exact q
end
def CT:FP:=fun ts k=>∃(b o:Bool) (t:Tl),ts=[tlT b o t,ptP (0,0)]/\tlO t/\k (.dT true (dQ (nrQ t))) ts
section
variable{P:OI}{w:OK}{K:OA}{mg:Str->Option Oy}{base:OM}
theorem zk:FnScope ["_law_tool_here","_law_corner","_law_found","_law_x","_law_y","_law_side"] ["_law_tool_here","_law_corner"] (az x9):=⟨rfl,rfl,rfl,by rfl',rfl,by rfl',by rfl'⟩
theorem Fe(F:Fun K "_law_mark" "_law_mark" x9 f fd)(TX:Txt mg)  (sw:Cal P w K mg base 1 "_law_in_mark" ["_law_tool_here","_law_x","_law_y","_law_side"] (aI K 4 rO)):FnOk P w K mg base CX0 2 f fd ["_law_tool_here","_law_corner"] (aI K 2 CT):=by
 refine cB F zk [true,true] rfl (fun cdv A outer s H E hr=>?_);have sc:=@zk;refine⟨_,(ah (ax (i:=2) sc.nd (by rfl) (d_ rfl) (by rfl) (aB qr)) (ah (bB OQ (by rfl) (i9 (by rfl) TX.range (aa (aB (jZ (aA hr (ae 0) ge_int))) (aa (aB (aA hr (ae 0) ge_int)) af))) (au (i:=3) sc.nd (by rfl) (d_ rfl) (by rfl)) (aj (bB OQ (by rfl) (i9 (by rfl) TX.range (aa (aB (jZ (aA hr (ae 0) ge_int))) (aa (aB (aA hr (ae 0) ge_int)) af))) (au (i:=4) sc.nd (by rfl) (d_ rfl) (by rfl)) (aj (bB OQ (by rfl) (fJ (by rfl) TX.range (aa ge_int af)) (au (i:=5) sc.nd (by rfl) (d_ rfl) (by rfl)) (aj (dv (iF (lJ (av sw hr (by rfl) (ai (ae 0) (ai (ae 3) (ai (ae 4) (ai (ae 5) aw))))))) (aj (lE iZ (pV (i:=2) hr (aB (ay (aa (ag aq (aA hr (ae 1) ge_int) (ae 3)) (aa (ag aq (aA hr (ae 1) ge_int) (ae 4)) (aa (ae 5) af)))))))) ba))))))) (aj (aM (jx 2))))),fun ts kk hl hp=>?_⟩;clear hl;obtain⟨b,o,t,rfl,ht,q⟩:=hp;rw[<-mk_eq ht]at q;obtain⟨t1,t2,t3,t4⟩:=ht;have im:∀x y s,inM t (x,y,s)=inM (t.1,t.2.1,0,0,0) (x,y,s):=fun _ _ _=>rfl;nofun;refine⟨rfl,by lia,aR (fun i env=>∃z3 z4 z5,env=[tlT b o t,ptP (0,0),.dT true (dQ (mkN t.1 t.2.1 i)),z3,z4,z5]) ⟨_,_,_,rfl⟩ ?_ ?_⟩
 ·rintro i u _ ⟨z3,z4,z5,rfl⟩ ei;have hi:=fV ei;have et:=jn ei;subst et;nofun;refine⟨by lia,aR (fun j env=>∃z4 z5,env=[tlT b o t,ptP (0,0),.dT true (dQ (mkN t.1 t.2.1 i++mkC t.1 t.2.1 (-t.1+i) j)),.int (-t.1+i),z4,z5]) ⟨_,_,by rw[show mkC t.1 t.2.1 (-t.1+i) 0=[]from rfl,J']⟩ ?_ ?_⟩
  ·rintro j u _ ⟨z4,z5,rfl⟩ ej;have hj:=fV ej;have et:=jn ej;subst et;nofun;refine⟨by decide,aR (fun s env=>∃z5,env=[tlT b o t,ptP (0,0),.dT true (dQ (mkN t.1 t.2.1 i++mkC t.1 t.2.1 (-t.1+i) j++((A' s).filter fun s=>inM (t.1,t.2.1,0,0,0) (-t.1+i,-t.1+j,s)).map fun s=>(-t.1+(i:Int),-t.1+(j:Int),s))),.int (-t.1+i),.int (-t.1+j),z5]) ⟨_,by rw[List.range_zero,N2,LX,J']⟩ ?_ ?_⟩
   ·rintro s u _ ⟨z5,rfl⟩ es;have hs4:s<4:=fV es;have et:=jn es;subst et;rw[L5];nofun;refine⟨b,false,t,-t.1+i,-t.1+j,s,rfl,hs4,?_⟩;nofun;rw[Mf,MN,q_,im];refine nr (fun h=>?_) (fun h=>?_)
    ·nofun;have l1:=G5 (r:=t.1) (k:=t.2.1) (i:=i) (j:=j) (s:=s) (by lia);have ef:((NP (fun s=>inM (t.1,t.2.1,0,0,0) (-t.1+i,-t.1+j,s)) [s]).map fun s=>((-t.1+(i:Int),-t.1+(j:Int),s):Qt))=[(-t.1+(i:Int),-t.1+(j:Int),s)]:=by rw[LC,h];rfl
     rw[L5,L5];exact⟨by rw[oP];lia,_,by rw[ef,<-o_,<-tf Gu];rfl⟩
    nofun;have ef:((NP (fun s=>inM (t.1,t.2.1,0,0,0) (-t.1+i,-t.1+j,s)) [s]).map fun s=>((-t.1+(i:Int),-t.1+(j:Int),s):Qt))=[]:=by rw[LC,h];rfl
    exact⟨_,by rw[ef,J']⟩
   rintro _ ⟨z5,rfl⟩;have e1:mkC t.1 t.2.1 (-t.1+i) (j+1)=mkC t.1 t.2.1 (-t.1+i) j++_:=iJ;exact⟨_,_,by rw[e1,<-o_];rfl⟩
  rintro _ ⟨z4,z5,rfl⟩;rw[de];have e1:mkN t.1 t.2.1 (i+1)=mkN t.1 t.2.1 i++_:=iJ;exact⟨_,_,_,by rw[e1]⟩
 rintro _ ⟨z3,z4,z5,rfl⟩;rw[de];nofun;exact q
end
def Dc:FP:=fun ts k=>∃c n m,ts=[stT c n,.int m]/\n<2 ^ 39/\2<=m/\m<=4/\∀(c':Cells) (t:Tl),tlO t->k (tlT false false t) [stT c' (n+5),.int m]
section
variable{P:OI}{w:OK}{K:OA}{mg:Str->Option Oy}{base:OM}
theorem ym:FnScope ["_law_state","_law_most","_law_r","_law_k"] ["_law_state","_law_most"] (az xl):=⟨rfl,rfl,rfl,by rfl',rfl,by rfl',by rfl'⟩
theorem EB(F:Fun K "_law_tool" "_law_tool" xl f fd)(TX:Txt mg)  (Cl:Cal P w K mg base 1 "_law_take" ["_law_state","_law_many"] (aI K 2 kq)):FnOk P w K mg base CX0 2 f fd ["_law_state","_law_most"] (aI K 2 Dc):=by refine cB F ym [true,true] rfl (fun cdv A outer s H E hr=>?_);have sc:=@ym;refine⟨_,(ah (ax (i:=2) sc.nd (by rfl) (d_ rfl) (by rfl) (ag aq ge_int (av Cl hr (by rfl) (aH 0 (ai (aB (ag aP (ae 1) ge_int)) aw))))) (ah (ax (i:=3) sc.nd (by rfl) (d_ rfl) (by rfl) (ag aq ge_int (av Cl hr (by rfl) (aH 0 (ai (aB (ag aP (ae 2) ge_int)) aw))))) (aj (aM (ay (aa (bg 2) (aa (bg 3) (aa (ag aq ge_int (av Cl hr (by rfl) (aH 0 (ai ge_int aw)))) (aa (ag aq ge_int (av Cl hr (by rfl) (aH 0 (ai ge_int aw)))) (aa (ag aq ge_int (av Cl hr (by rfl) (aH 0 (ai ge_int aw)))) af)))))))))),fun ts kk hl hp=>?_⟩;clear hl;obtain⟨c,n,m,rfl,hn,m0,m1,q⟩:=hp;nofun;walk_at "take";intro r c1 a1 b1;nofun;walk_at "take";intro kk c2 a2 b2;nofun;walk_at "take";intro u c3 a3 b3;nofun;walk_at "take";intro v c4 a4 b4;nofun;walk_at "take";intro w' c5 a5 b5;nofun;exact q c5 (2+r,1+kk,_,_,_) ⟨by dsimp only;lia,by dsimp only;lia,by dsimp only;lia,by dsimp only;lia⟩
end
def BF:FP:=fun ts k=>∃(o b u:Bool) (M:List Qt) (p:Pt),ts=[.lst o (M.map qtT),cbT b u p]/\M.length<100000/\k (.lst true ((M.map (mvQ p)).map qtT)) ts
section
variable{P:OI}{w:OK}{K:OA}{mg:Str->Option Oy}{base:OM}
theorem zM:FnScope ["near","corner","x","y"] ["near","corner"] (az wW):=⟨rfl,rfl,rfl,by rfl',rfl,by rfl',by rfl'⟩
theorem El(F:Fun K "laid" "laid" wW f fd)(TX:Txt mg)  :FnOk P w K mg base CX0 1 f fd ["near","corner"] (aI K 2 BF):=by
 refine cB F zM [true,true] rfl (fun cdv A outer s H E hr=>?_);have sc:=@zM;have nd1:(["along","up","side","y","x"]:List Str).Nodup:=by rfl'
 refine⟨_,(ah (ax (i:=2) sc.nd (by rfl) (j_ rfl) (by rfl) (aB (aA hr (ae 1) ge_int))) (ah (ax (i:=3) sc.nd (by rfl) (j_ rfl) (by rfl) (aB (aA hr (ae 1) ge_int))) (aj (aM (aB (bT sc ["along","up","side","y","x"] [none,none,none,some 3,some 2] nd1 (by rfl') (aX (ae 0)) (fun _ _ _=>(fM (n:=3) (by rfl) (aC (au (i:=0) nd1 (by rfl) (d_ rfl) (by rfl) (hf:=(j_ rfl))) (aC (au (i:=1) nd1 (by rfl) (d_ rfl) (by rfl) (hf:=(j_ rfl))) (aC (au (i:=2) nd1 (by rfl) (d_ rfl) (by rfl) (hf:=(j_ rfl))) du))))) (fun _ _ _=>bI) (fun _ _ _=>(ay (aa (ag aq (ae 4) (ae 0)) (aa (ag aq (ae 3) (ae 1)) (aa (ae 2) af))))))))))),fun ts kk hl hp=>?_⟩;clear hl;obtain⟨o,b,u,M,p,rfl,hl,q⟩:=hp;nofun;refine aJ (by rw[a_,sizeLine_eq];lia) (fun i acc ie=>∃z1 z2 z3,acc=((M.take i).map (mvQ p)).map qtT/\ie=[z1,z2,z3,.int p.2,.int p.1]) ⟨_,_,_,rfl,rfl⟩ ?_ ?_
 ·rintro i t _ _ ⟨z1,z2,z3,rfl,rfl⟩ ei;obtain⟨m,em,rfl⟩:=aQ ei;nofun;exact⟨_,_,_,by rw[map_take em,q_];rfl,rfl⟩
 rintro _ _ ⟨z1,z2,z3,rfl,rfl⟩;rw[a_,t_];nofun;exact q
end
def Cj:FP:=fun ts k=>∃(o u:Bool) (M rs:List Qt) (p:Pt),ts=[.lst o (M.map qtT),ptP p,.dT u (dQ rs)]/\k (.bl ((M.map (mvQ p)).all fun z=>decide (z∈rs))) [.lst false (M.map qtT),ptP p,.dT u (dQ rs)]
section
variable{P:OI}{w:OK}{K:OA}{mg:Str->Option Oy}{base:OM}
theorem zb:FnScope ["near","corner","there","x","y","along","up","side"] ["near","corner","there"] (az wY):=⟨rfl,rfl,rfl,by rfl',rfl,by rfl',by rfl'⟩
theorem Fo(F:Fun K "fits" "fits" wY f fd)(TX:Txt mg)  :FnOk P w K mg base CX0 1 f fd ["near","corner","there"] (aI K 3 Cj):=by
 refine cB F zb [true,true,true] rfl (fun cdv A outer s H E hr=>?_);have sc:=@zb;refine⟨_,(ah (ax (i:=3) sc.nd (by rfl) (d_ rfl) (by rfl) (aB (aA hr (ae 1) ge_int))) (ah (ax (i:=4) sc.nd (by rfl) (d_ rfl) (by rfl) (aB (aA hr (ae 1) ge_int))) (ah (bB OQ (by rfl) (aX (bg 0)) (fM (n:=3) (by rfl) (aC (au (i:=5) sc.nd (by rfl) (d_ rfl) (by rfl)) (aC (au (i:=6) sc.nd (by rfl) (d_ rfl) (by rfl)) (aC (au (i:=7) sc.nd (by rfl) (d_ rfl) (by rfl)) du)))) (aj (dv (iF (bj (tI hr) (ay (aa (ag aq (ae 3) (ae 5)) (aa (ag aq (ae 4) (ae 6)) (aa (ae 7) af)))) (ae 2) (by with_unfolding_all rfl))) (aj (aM iZ)) ba))) (aj (aM iZ))))),fun ts kk hl hp=>?_⟩;clear hl;obtain⟨o,u,M,rs,p,rfl,q⟩:=hp;nofun;refine aR (fun i env=>∃z5 z6 z7,(((M.drop i).map (mvQ p)).all fun z=>decide (z∈rs))=((M.map (mvQ p)).all fun z=>decide (z∈rs))/\env=[.lst false (M.map qtT),ptP p,.dT u (dQ rs),.int p.1,.int p.2,z5,z6,z7]) ⟨_,_,_,rfl,rfl⟩ ?_ ?_
 ·rintro i t _ ⟨z5,z6,z7,ew,rfl⟩ ei;obtain⟨m,em,rfl⟩:=aQ ei;rw[zK em,c_,Md]at ew;nofun;rw[show(jl (dQ rs) [Qu (p.1+m.1),Qu (p.2+m.2.1),Qu (m.2.2:Int)]).isSome=decide (mvQ p m∈rs)from Bi (q:=mvQ p m)];refine aF (fun h=>?_) (fun h=>?_)
  ·nofun;rw[decide_eq_true h,LI]at ew;exact⟨_,_,_,ew,rfl⟩
  nofun;rw[decide_eq_false h,Nk]at ew;rw[<-ew]at q;exact q
 rintro _ ⟨z5,z6,z7,ew,rfl⟩;rw[a_,NX]at ew;rw[<-ew]at q;nofun;exact q
end
def qh:FP:=fun ts k=>∃(b o o2 bc u:Bool) (t:Tl) (ps:List Pt),ts=[tlT b o t,.lst o2 (ps.map (cbT bc u))]/\tlO t/\ps.length<=60000/\k (.dT true (dQ (iM (nrQ t) ps))) [tlT b o t,.lst false (ps.map (cbT bc false))]
section
variable{P:OI}{w:OK}{K:OA}{mg:Str->Option Oy}{base:OM}
theorem qZ:FnScope ["tool","corners","near","there","corner","quarter"] ["tool","corners"] (az pJ):=⟨rfl,rfl,rfl,by rfl',rfl,by rfl',by rfl'⟩
theorem Ab(F:Fun K "marked" "marked" pJ f fd)(TX:Txt mg)  (wP:Cal P w K mg base 4 "near_quarters" ["tool"] (aI K 1 iw))(ut:Cal P w K mg base 1 "laid" ["near","corner"] (aI K 2 BF)):FnOk P w K mg base CX0 5 f fd ["tool","corners"] (aI K 2 qh):=by
 refine cB F qZ [true,true] rfl (fun cdv A outer s H E hr=>?_);have sc:=@qZ;refine⟨_,(ah (ax (i:=2) sc.nd (by rfl) (d_ rfl) (by rfl) (aB (av wP hr (by rfl) (ai (ae 0) aw)))) (ah (ax (i:=3) sc.nd (by rfl) (d_ rfl) (by rfl) (aB qr)) (ah (bB OQ (by rfl) (aX (bg 1)) (au (i:=4) sc.nd (by rfl) (d_ rfl) (by rfl)) (aj (bB OQ (by rfl) (aX (aB (av ut hr (by rfl) (ai (ae 2) (ai (ae 4) aw))))) (au (i:=5) sc.nd (by rfl) (d_ rfl) (by rfl)) (aj (lE iZ (pV (i:=3) hr (bg 5))))))) (aj (aM (jx 3)))))),fun ts kk hl hp=>?_⟩;clear hl;obtain⟨b,o,o2,bc,u,t,ps,rfl,ht,hl,q⟩:=hp;nofun;refine⟨b,false,t,rfl,ht,?_⟩;have ln:=xf ht;generalize nrQ t=M at *;nofun;refine⟨rfl,aR (fun i env=>∃z4 z5,env=[tlT b o t,.lst false (ps.map (cbT bc false)),.lst true (M.map qtT),.dT true (dQ (iM M (ps.take i))),z4,z5]) ⟨_,_,rfl⟩ ?_ ?_⟩
 ·rintro i t' _ ⟨z4,z5,rfl⟩ ei;obtain⟨p,ep,rfl⟩:=aQ ei;have hi:=(f_.mp ep).1;nofun;refine⟨_,bc,false,M,p,rfl,by lia,?_⟩;nofun;have l1:=Bg (M:=M) (ps:=ps.take i) (qs:=[]);rw[LP,B_,LQ (KR hi)]at l1;have l3:(iM M (ps.take i)).length<=256*60000:=B' l1 (by rw[Lh];exact N5 ln (by lia));rw[rj ep];generalize iM M (ps.take i)=F at *;refine aR (fun j env=>∃z5,env=[tlT b o t,.lst false (ps.map (cbT bc false)),.lst true (M.map qtT),.dT true (dQ (addQ F ((M.map (mvQ p)).take j))),cbT bc false p,z5]) ⟨_,rfl⟩ ?_ ?_
  ·rintro j u _ ⟨z5,rfl⟩ ej;obtain⟨m,em,rfl⟩:=aQ ej;have l2:=pM (qs:=F) (rs:=(M.map (mvQ p)).take j);rw[B_,a_]at l2;nofun;exact⟨by rw[oP];lia,_,by rw[rA em,<-CC];rfl⟩
  rintro _ ⟨z5,rfl⟩;rw[a_,t_];exact⟨_,_,rfl⟩
 rintro _ ⟨z4,z5,rfl⟩;rw[a_,t_];nofun;exact q
end
def rq:FP:=fun ts k=>∃(c o b u b2 u2:Bool) (rs:List Qt) (t:Tl),ts=[rgT c o b u rs,tlT b2 u2 t]/\rs.Nodup/\js (fY rs)/\rs.length<=60000/\tlO t/\∀(cs:List Pt),cs.length<=rs.length->(∀p,p∈cs↔(p.1,p.2,0)∈rs/\∀m∈nrQ t,mvQ p m∈rs)->∀z1 z2,k (.lst true (cs.map ptP)) [z1,z2]
section
variable{P:OI}{w:OK}{K:OA}{mg:Str->Option Oy}{base:OM}
theorem p9:FnScope ["region","tool","there","near","corners"] ["region","tool"] (az nQ):=⟨rfl,rfl,rfl,by rfl',rfl,by rfl',by rfl'⟩
theorem wN(F:Fun K "centres" "centres" nQ f fd)(TX:Txt mg)  (wP:Cal P w K mg base 4 "near_quarters" ["tool"] (aI K 1 iw))(re:Cal P w K mg base 1 "fits" ["near","corner","there"] (aI K 3 Cj))(wT:Cal P w K mg base 1 "noted" ["region"] (aI K 1 yv)):FnOk P w K mg base CX0 5 f fd ["region","tool"] (aI K 2 rq):=by
 refine cB F p9 [true,true] rfl (fun cdv A outer s H E hr=>?_);have sc:=@p9;have nd1:(["x","y","side"]:List Str).Nodup:=by rfl'
 have nd2:(["corner","there","near"]:List Str).Nodup:=by rfl'
 refine⟨_,(ah (ax (i:=2) sc.nd (by rfl) (j_ rfl) (by rfl) (aB (av wT hr (by rfl) (ai (ae 0) aw)))) (ah (ax (i:=3) sc.nd (by rfl) (j_ rfl) (by rfl) (aB (av wP hr (by rfl) (ai (ae 1) aw)))) (ah (kB sc (i:=4) ["x","y","side"] [none,none,none] nd1 (by rfl') (by rfl) (d_ rfl) (by rfl) (aX (aK (il (by rfl)) (by rfl) TX.sorted (by rfl') (aa (ae 2) af))) (fun _ _ _=>(fM (n:=3) (by rfl) (aC (au (i:=0) nd1 (by rfl) (d_ rfl) (by rfl) (hf:=(j_ rfl))) (aC (au (i:=1) nd1 (by rfl) (d_ rfl) (by rfl) (hf:=(j_ rfl))) (aC (au (i:=2) nd1 (by rfl) (d_ rfl) (by rfl) (hf:=(j_ rfl))) du))))) (fun _ _ _=>(kL (bj (cE hr) (ae 2) ge_int (aN _)))) (fun _ _ _=>(ay (aa (ae 0) (aa (ae 1) af)))) (by rfl)) (aj (aM (aB (bT sc ["corner","there","near"] [none,some 2,some 3] nd2 (by rfl') (aX (ae 4)) (fun _ _ _=>(au (i:=0) nd2 (by rfl) (d_ rfl) (by rfl) (hf:=(j_ rfl)))) (fun _ _ _=>(kL (lJ (av re hr (by rfl) (ai (ae 2) (ai (ae 0) (ai (ae 1) aw))))))) (fun _ _ _=>(ae 0))))))))),fun ts kk hl hp=>?_⟩;clear hl;obtain⟨c,o,b,u,b2,u2,rs,t,rfl,hd,hmo,hl,ht,q⟩:=hp;nofun;refine⟨c,false,b,false,rs,rfl,hd,by lia,?_⟩;nofun;refine⟨b2,false,t,rfl,ht,?_⟩;generalize nrQ t=M at *;nofun;obtain⟨rs',pm,e'⟩:=BM rs;refine tD (lZ rs) (mF rs) hmo ?_;rw[e',m7];nofun;refine aJ (by rw[a_,sizeLine_eq,pm.length_eq];lia) (fun i acc ie=>∃z1 z2 z3,acc=((rs'.take i).filter fun q=>decide ((q.2.2:Int)=0)).map (fun q=>ptP (q.1,q.2.1))/\ie=[z1,z2,z3]) ⟨_,_,_,rfl,rfl⟩ ?_ ?_
 ·rintro i u _ _ ⟨z1,z2,z3,rfl,rfl⟩ ei;obtain⟨m,em,rfl⟩:=aQ ei;nofun;refine aF (fun h=>?_) (fun h=>?_)
  ·nofun;exact⟨_,_,_,by rw[oH em,if_pos (decide_eq_true h)];rfl,rfl⟩
  nofun;exact⟨_,_,_,by rw[oH em,if_neg (by rw[decide_eq_false h];decide),J'],rfl⟩
 rintro _ _ ⟨z1,z2,z3,rfl,rfl⟩;rw[a_,t_];have hm:∀p:Pt,p∈(rs'.filter fun q=>decide ((q.2.2:Int)=0)).map (fun q=>(q.1,q.2.1))↔(p.1,p.2,0)∈rs:=by
  intro p;rw[<-pm.mem_iff];constructor
  ·intro h;obtain⟨m,mm,rfl⟩:=n_.mp h;obtain⟨m1,m2⟩:=La.mp mm;have m2:=of_decide_eq_true m2;rw[show((m.1,m.2.1,0):Qt)=m from L8 rfl (L8 rfl (by dsimp only;lia))];exact m1
  intro h;exact n_.mpr ⟨_,La.mpr ⟨h,rfl⟩,rfl⟩
 have hl1:((rs'.filter fun q=>decide ((q.2.2:Int)=0)).map fun q=>((q.1,q.2.1):Pt)).length<=rs.length:=by rw[a_,<-pm.length_eq];exact L4 _ _
 rw[show(rs'.filter fun q=>decide ((q.2.2:Int)=0)).map (fun q=>ptP (q.1,q.2.1))=((rs'.filter fun q=>decide ((q.2.2:Int)=0)).map fun q=>((q.1,q.2.1):Pt)).map ptP by rw[D_];rfl];generalize (rs'.filter fun q=>decide ((q.2.2:Int)=0)).map (fun q=>((q.1,q.2.1):Pt))=ps at *;nofun;refine aJ (by rw[a_,sizeLine_eq];lia) (fun i acc ie=>∃z1,acc=((ps.take i).filter fun p=>(M.map (mvQ p)).all fun z=>decide (z∈rs)).map ptP/\ie=[z1,.dT false (dQ rs),.lst false (M.map qtT)]) ⟨_,rfl,rfl⟩ ?_ ?_
 ·rintro i u _ _ ⟨z1,rfl,rfl⟩ ei;obtain⟨p,ep,rfl⟩:=aQ ei;nofun;refine⟨_,_,M,rs,p,rfl,?_⟩;nofun;refine nr (fun h=>?_) (fun h=>?_)
  ·nofun;exact⟨_,by rw[oH ep,if_pos h],rfl⟩
  nofun;exact⟨_,by rw[oH ep,if_neg (by rw[h];decide),J'],rfl⟩
 rintro _ _ ⟨z1,rfl,rfl⟩;rw[a_,t_];nofun;refine q _ (B' (L4 _ _) hl1) (fun p=>?_) _ _;rw[La,hm,KW];refine and_congr_right fun _=>⟨fun h m mm=>of_decide_eq_true (h _ (v_ mm)),fun h z mz=>?_⟩;obtain⟨m,mm,rfl⟩:=n_.mp mz;exact decide_eq_true (h m mm)
end
def lX:FP:=fun ts k=>∃(c o b u b2 u2:Bool) (rs:List Qt) (t:Tl),ts=[rgT c o b u rs,tlT b2 u2 t]/\rs.Nodup/\js (fY rs)/\rs.length<=60000/\tlO t/\∀(cs:List Pt),(∀p,p∈cs↔(p.1,p.2,0)∈rs/\∀m∈nrQ t,mvQ p m∈rs)->∀z1 z2,k (.dT true (dQ (iM (nrQ t) cs))) [z1,z2]
section
variable{P:OI}{w:OK}{K:OA}{mg:Str->Option Oy}{base:OM}
theorem kU:FnScope ["region","tool"] ["region","tool"] (az jC):=⟨rfl,rfl,rfl,by rfl',rfl,by rfl',by rfl'⟩
theorem qF(F:Fun K "reached_in" "reached_in" jC f fd)(TX:Txt mg)  (wv:Cal P w K mg base 5 "marked" ["tool","corners"] (aI K 2 qh))(pc:Cal P w K mg base 5 "centres" ["region","tool"] (aI K 2 rq)):FnOk P w K mg base CX0 6 f fd ["region","tool"] (aI K 2 lX):=by refine cB F kU [true,true] rfl (fun cdv A outer s H E hr=>?_);have sc:=@kU;refine⟨_,(aj (aM (aB (av wv hr (by rfl) (ai (ae 1) (ai (av pc hr (by rfl) (ai (ae 0) (ai (ae 1) aw))) aw)))))),fun ts kk hl hp=>?_⟩;clear hl;obtain⟨c,o,b,u,b2,u2,rs,t,rfl,hd,hmo,hl,ht,q⟩:=hp;nofun;refine⟨c,false,b,false,b2,false,rs,t,rfl,hd,hmo,hl,ht,fun cs l1 hc z1 z2=>?_⟩;nofun;refine⟨b2,false,true,false,false,t,cs,rfl,ht,by lia,?_⟩;nofun;exact q cs hc _ _
end
def kX:FP:=fun ts k=>∃(c o b u b2 u2 o3 bc u3:Bool) (rs:List Qt) (t:Tl) (ps:List Pt),ts=[rgT c o b u rs,tlT b2 u2 t,.lst o3 (ps.map (cbT bc u3))]/\rs.Nodup/\js (fY rs)/\rs.length<=60000/\tlO t/\ps.length<=60000/\∀(cs:List Pt),(∀p,p∈cs↔(p.1,p.2,0)∈rs/\∀m∈nrQ t,mvQ p m∈rs)->∀z1 z2 z3,k (.bl (uO (iM (nrQ t) ps) (iM (nrQ t) cs))) [z1,z2,z3]
section
variable{P:OI}{w:OK}{K:OA}{mg:Str->Option Oy}{base:OM}
theorem k9:FnScope ["region","tool","points"] ["region","tool","points"] (az jo):=⟨rfl,rfl,rfl,by rfl',rfl,by rfl',by rfl'⟩
theorem ph(F:Fun K "is_covering" "is_covering" jo f fd)(TX:Txt mg)  (wv:Cal P w K mg base 5 "marked" ["tool","corners"] (aI K 2 qh))(AC:Cal P w K mg base 6 "reached_in" ["region","tool"] (aI K 2 lX)):FnOk P w K mg base CX0 7 f fd ["region","tool","points"] (aI K 3 kX):=by refine cB F k9 [true,true,true] rfl (fun cdv A outer s H E hr=>?_);have sc:=@k9;refine⟨_,(aj (aM (aB (jO (zI hr) (av wv hr (by rfl) (ai (ae 1) (ai (ae 2) aw))) (av AC hr (by rfl) (ai (ae 0) (ai (ae 1) aw))) (aN _))))),fun ts kk hl hp=>?_⟩;clear hl;obtain⟨c,o,b,u,b2,u2,o3,bc,u3,rs,t,ps,rfl,hd,hmo,hl,ht,hp,q⟩:=hp;nofun;refine⟨b2,false,_,bc,false,t,ps,rfl,ht,hp,?_⟩;nofun;refine⟨c,false,b,false,b2,false,rs,t,rfl,hd,hmo,hl,ht,fun cs hc z1 z2=>?_⟩;nofun;refine FU xS xS ?_;nofun;exact q cs hc _ _ _
end
def vK:FP:=fun ts k=>∃c n x y wd hg,ts=[stT c n,.int x,.int y,.int wd,.int hg]/\n<2 ^ 37/\bd 15 x/\bd 15 y/\(7<=wd/\wd<=20/\7<=hg/\hg<=20)/\∀(c':Cells) (n':Nat) (qs:List Qt) (z1 z2 z3 z4:T),n'<=n+1000->upQ qs->(∀q∈qs,okQ x y q)->qs.length<=1600->k (.dT true (dQ qs)) [stT c' n',z1,z2,z3,z4]
section
variable{P:OI}{w:OK}{K:OA}{mg:Str->Option Oy}{base:OM}
theorem rE:FnScope ["_law_state","_law_x","_law_y","_law_wide","_law_high","_law_region","_law_turn","_law_east","_law_north","_law_quarter","_law_quarters"] ["_law_state","_law_x","_law_y","_law_wide","_law_high"] (az pS):=⟨rfl,rfl,rfl,by rfl',rfl,by rfl',by rfl'⟩
theorem Al(F:Fun K "_law_pocket" "_law_pocket" pS f fd)(TX:Txt mg)  (Cl:Cal P w K mg base 1 "_law_take" ["_law_state","_law_many"] (aI K 2 kq))(on:Cal P w K mg base 1 "_law_box" ["_law_x","_law_y","_law_wide","_law_high","_law_cuts"] (aI K 5 Bd))(xL:Cal P w K mg base 2 "_law_outline" ["_law_state","_law_x","_law_y","_law_wide","_law_high"] (aI K 5 qP))(sK:Cal P w K mg base 2 "_law_inside" ["_law_corners_here"] (aI K 1 uR)):FnOk P w K mg base CX0 3 f fd ["_law_state","_law_x","_law_y","_law_wide","_law_high"] (aI K 5 vK):=by
 refine cB F rE [true,true,true,true,true] rfl (fun cdv A outer s H E hr=>?_);have sc:=@rE;refine⟨_,(bJ (ax (i:=5) sc.nd (by rfl) (d_ rfl) (by rfl) (av sK hr (by rfl) (ai (av xL hr (by rfl) (aH 0 (ai (bg 1) (ai (bg 2) (ai (bg 3) (ai (bg 4) aw)))))) aw))) (bJ (bB OQ (by rfl) (fJ (by rfl) TX.range (aa (aA hr (aB (aW (aa ge_int (aa ge_int (aa ge_int (aa ge_int (aa ge_int (aa ge_int af)))))))) (av Cl hr (by rfl) (aH 0 (ai ge_int aw)))) af)) (au (i:=6) sc.nd (by rfl) (d_ rfl) (by rfl)) (ah (mY (i:=7) (j:=8) (by rfl) sc.nd (by rfl) (by rfl) (by decide) (by rfl) (by rfl) (by rfl) (by rfl) (aa (ag aq (bg 1) (av Cl hr (by rfl) (aH 0 (ai (bg 3) aw)))) (aa (ag aq (bg 2) (av Cl hr (by rfl) (aH 0 (ai (bg 4) aw)))) af)) (by rfl)) (aj (bB OQ (by rfl) (tO (av sK hr (by rfl) (ai (av on hr (by rfl) (ai (bg 7) (ai (bg 8) (ai (ag aq ge_int (av Cl hr (by rfl) (aH 0 (ai ge_int aw)))) (ai (ag aq ge_int (av Cl hr (by rfl) (aH 0 (ai ge_int aw)))) (ai (aB (ag Cz (aW (aa ge_int af)) ge_int)) aw)))))) aw))) (au (i:=9) sc.nd (by rfl) (d_ rfl) (by rfl)) (aj (iE (vF (i:=5) hr (bg 9) DA ⟨rfl,rfl,rfl,rfl⟩))))))) (bJ (dv (bj (cE hr) (av Cl hr (by rfl) (aH 0 (ai ge_int aw))) ge_int (aN _)) (ah (ax (i:=10) sc.nd (by rfl) (d_ rfl) (by rfl) (aB (aK (il (by rfl)) (by rfl) TX.sorted (by rfl') (aa (ae 5) af)))) (aj (bB OQ (by rfl) (fJ (by rfl) TX.range (aa ge_int af)) (au (i:=6) sc.nd (by rfl) (d_ rfl) (by rfl)) (aj (iE (vF (i:=5) hr (aA hr (bg 10) (av Cl hr (by rfl) (aH 0 (ai (aB (aK jB (by rfl) TX.len (by rfl') (aa (ae 10) af))) aw)))) DA ⟨rfl,rfl,rfl,rfl⟩)))))) ba) (aj (aM (jx 5)))))),fun ts kk hl hp=>?_⟩;clear hl;obtain⟨c,n,x,y,wd,hg,rfl,hn,hx,hy,hb,q⟩:=hp;refine dq (fun env=>∃(c':Cells) (n':Nat) (qs:List Qt),n'<=n+25/\upQ qs/\(∀q∈qs,okQ x y q)/\qs.length<=1600/\Far qs 3/\env=[stT c' n',.int x,.int y,.int wd,.int hg,.dT true (dQ qs),.any,.any,.any,.any,.any]) ?_ ?_
 ·nofun;refine⟨c,n,x,y,wd,hg,rfl,by lia,hx,hy,hb.1,hb.2.1,hb.2.2.1,hb.2.2.2,fun c6 n6 ps l1 l2 p0 p1 pb pt=>?_⟩;nofun;have hx':=hx;have hy':=hy;refine⟨true,ps,x,y,rfl,p0,by lia,⟨by have:=hx'.1;lia,by have:=hx'.2;lia⟩,⟨by have:=hy'.1;lia,by have:=hy'.2;lia⟩,pb,fun qs z u1 u2 u3 _ u5=>?_⟩;nofun;exact⟨c6,n6,qs,by lia,u1,u2,u3,Eo pt u5,rfl⟩
 rintro _ ⟨c6,n6,qs,l2,u1,u2,u3,u4,rfl⟩;obtain⟨hx0,hx1⟩:=id hx;obtain⟨hy0,hy1⟩:=id hy;refine dq (fun env=>∃(c':Cells) (n':Nat) (qs:List Qt) (z6 z7 z8 z9 z10:T),n'<=n6+500/\upQ qs/\(∀q∈qs,okQ x y q)/\qs.length<=1600/\Far qs 1/\env=[stT c' n',.int x,.int y,.int wd,.int hg,.dT true (dQ qs),z6,z7,z8,z9,z10]) ?_ ?_
 ·nofun;walk_at "take";intro r c7 a7 b7;nofun;obtain⟨v,ev,v0,v1⟩:=n5 (fun v=>0<=v/\v<=2) (ns:=[0,0,0,1,1,2]) (i:=r) (by omega) (by show r<6;omega) (by intro v hv;simp only[h_,Ld,or_false]at hv;lia)
  refine cK ev ?_;nofun;refine⟨by lia,aR (fun i env=>∃(c':Cells) (n':Nat) (qs:List Qt) (z6 z7 z8 z9 z10:T),n'<=n6+1+50*i/\upQ qs/\(∀q∈qs,okQ x y q)/\qs.length<=1600/\Far qs (3-i)/\env=[stT c' n',.int x,.int y,.int wd,.int hg,.dT true (dQ qs),z6,z7,z8,z9,z10]) ⟨c7,n6+1,qs,_,_,_,_,_,by lia,u1,u2,u3,u4,rfl⟩ ?_ ?_⟩
  ·clear u1 u2 u3 u4 qs;rintro i t7 _ ⟨c8,n8,qs,z6,z7,z8,z9,z10,l4,u1,u2,u3,⟨as,a1,a2,a3⟩,rfl⟩ ei;have hi:=fV ei;nofun;walk_at "take";intro r1 c9 a9 b9;nofun;walk_at "take";intro r2 c10 a10 b10;nofun;walk_at "take";intro r3 c11 a11 b11;nofun;walk_at "take";intro r4 c12 a12 b12;nofun;refine⟨by decide,rfl,x+r1,y+r2,1+r3,1+r4,true,0,0,0,0,rfl,?_⟩;have pb:inR (x+r1) (y+r2) (jD (x+r1) (y+r2) (1+r3) (1+r4) 0 0 0 0):=z0 ⟨by lia,by lia⟩ ⟨by lia,by lia⟩ ⟨by lia,by lia⟩ ⟨by lia,by lia⟩ ⟨by lia,by lia⟩ ⟨by lia,by lia⟩ ⟨by lia,by lia⟩ ⟨by lia,by lia⟩ ⟨by lia,by lia⟩ ⟨by lia,by lia⟩ ⟨by lia,by lia⟩ ⟨by lia,by lia⟩;have pl:(jD (x+r1) (y+r2) (1+r3) (1+r4) 0 0 0 0).length<=8:=xY;have p0:0<(jD (x+r1) (y+r2) (1+r3) (1+r4) 0 0 0 0).length:=mC (by lia);have bi:=Ia (x:=x+r1) (y:=y+r2) (w:=1+r3) (h:=1+r4) (by lia);generalize jD (x+r1) (y+r2) (1+r3) (1+r4) 0 0 0 0=ps at *;nofun;refine⟨true,ps,x+r1,y+r2,rfl,p0,by lia,⟨by lia,by lia⟩,⟨by lia,by lia⟩,pb,fun is z w1 w2 w3 w4 _=>?_⟩;nofun;refine aR (fun j env=>∃(qs:List Qt) (z9:T),upQ qs/\(∀q∈qs,okQ x y q)/\qs.length<=1600/\(∀a∈as,¬(x+r1<=a.1/\a.1<x+r1+3)->a∈qs)/\env=[stT c12 (n8+1+1+1+1),.int x,.int y,.int wd,.int hg,.dT true (dQ qs),t7,.int (x+r1),.int (y+r2),z9,z10]) ⟨qs,_,u1,u2,u3,(fun a m _=>a3 a m),rfl⟩ ?_ ?_
   ·clear u1 u2 u3 a3 qs;rintro j t _ ⟨qs,z9,u1,u2,u3,a3,rfl⟩ ej;obtain⟨m,em,rfl⟩:=aQ ej;nofun;refine vk fun rs u hs hk=>?_;have wm:=w4 m (H_ em) _ _ bi;exact⟨rs,_,u1.sublist hs,fun q m=>u2 q (hs.subset m),B' hs.length_le u3,fun a ma g=>hk a (a3 a ma g) fun z=>g (by rw[z];lia),rfl⟩
   clear u1 u2 u3 a3 qs;rintro _ ⟨qs,z9,u1,u2,u3,a3,rfl⟩;exact⟨c12,_,qs,_,_,_,_,_,by lia,u1,u2,u3,CJ a1 a2 a3,rfl⟩
  clear u1 u2 u3 u4 qs;rintro _ ⟨c8,n8,qs,z6,z7,z8,z9,z10,l4,u1,u2,u3,u4,rfl⟩;rw[de]at l4 u4;obtain⟨as,a1,a2,a3⟩:=u4;exact⟨c8,n8,qs,_,_,_,_,_,by lia,u1,u2,u3,⟨as,by lia,a2,a3⟩,rfl⟩
 clear u1 u2 u3 u4 qs;rintro _ ⟨c7,n7,qs,z6,z7,z8,z9,z10,l4,u1,u2,u3,u4,rfl⟩;replace u4:=Ez u4;refine dq (fun env=>∃(c':Cells) (n':Nat) (qs:List Qt) (z6 z7 z8 z9 z10:T),n'<=n7+5/\upQ qs/\(∀q∈qs,okQ x y q)/\qs.length<=1600/\env=[stT c' n',.int x,.int y,.int wd,.int hg,.dT true (dQ qs),z6,z7,z8,z9,z10]) ?_ ?_
 ·nofun;walk_at "take";intro r c8 a8 b8;nofun;refine aF (fun g=>?_) (fun g=>?_)
  ·nofun;refine tD (lZ qs) (mF qs) (oG u1) ?_;rw[xI u1,m7];nofun;refine⟨⟨by decide,by decide⟩,aR (fun i env=>∃(c':Cells) (n':Nat) (rs:List Qt) (z6 z9:T) (b:Bool),n'<=n7+1+i/\upQ rs/\(∀q∈rs,okQ x y q)/\rs.length<=1600/\env=[stT c' n',.int x,.int y,.int wd,.int hg,.dT true (dQ rs),z6,z7,z8,z9,.lst b (qs.map qtT)]) ⟨c8,n7+1,qs,_,_,true,b_ _,u1,u2,u3,rfl⟩ ?_ ?_⟩
   ·rintro i t _ ⟨c9,n9,rs,z6,z9,b,l6,v1,v2,v3,rfl⟩ ei;have hi:i<3:=fV ei;nofun;walk_at "take";intro r c10 a10 b10;nofun;obtain⟨t,mt,et⟩:=yz (l:=qs.map qtT) a10 (by rw[a_];exact b10);obtain⟨q,mq,rfl⟩:=n_.mp mt;refine cK et ?_;nofun;refine vk fun rs' u hs _=>?_;exact⟨c10,n9+1,rs',_,_,_,by lia,v1.sublist hs,fun q m=>v2 q (hs.subset m),B' hs.length_le v3,rfl⟩
   rintro _ ⟨c9,n9,rs,z6,z9,b,l6,v1,v2,v3,rfl⟩;have l6:n9<=n7+1+3:=l6;exact⟨c9,n9,rs,_,_,_,_,_,by lia,v1,v2,v3,rfl⟩
  nofun;exact⟨c8,n7+1,qs,_,_,_,_,_,by lia,u1,u2,u3,rfl⟩
 clear u1 u2 u3 u4 qs;rintro _ ⟨c8,n8,qs,z6,z7,z8,z9,z10,l5,u1,u2,u3,rfl⟩;nofun;exact q c8 n8 qs _ _ _ _ (by lia) u1 u2 u3
end
def uX:FP:=fun ts k=>∃(u o:Bool) (M rs:List Qt) (p:Pt),ts=[.dT u (dQ rs),.lst o (M.map qtT),ptP p]/\k (.bl ((M.map (mvQ p)).all fun z=>decide (z∈rs))) [.dT u (dQ rs),.lst false (M.map qtT),ptP p]
section
variable{P:OI}{w:OK}{K:OA}{mg:Str->Option Oy}{base:OM}
theorem qY:FnScope ["_law_region","_law_offsets","_law_corner","_law_east","_law_north","_law_side"] ["_law_region","_law_offsets","_law_corner"] (az pD):=⟨rfl,rfl,rfl,by rfl',rfl,by rfl',by rfl'⟩
theorem Ay(F:Fun K "_law_stands" "_law_stands" pD f fd)(TX:Txt mg)  :FnOk P w K mg base CX0 1 f fd ["_law_region","_law_offsets","_law_corner"] (aI K 3 uX):=by
 refine cB F qY [true,true,true] rfl (fun cdv A outer s H E hr=>?_);have sc:=@qY;refine⟨_,(ah (bB OQ (by rfl) (aX (bg 1)) (fM (n:=3) (by rfl) (aC (au (i:=3) sc.nd (by rfl) (d_ rfl) (by rfl)) (aC (au (i:=4) sc.nd (by rfl) (d_ rfl) (by rfl)) (aC (au (i:=5) sc.nd (by rfl) (d_ rfl) (by rfl)) du)))) (aj (dv (iF (bj (tI hr) (ay (aa (ag aq (aA hr (ae 2) ge_int) (ae 3)) (aa (ag aq (aA hr (ae 2) ge_int) (ae 4)) (aa (ae 5) af)))) (ae 0) (by with_unfolding_all rfl))) (aj (aM iZ)) ba))) (aj (aM iZ))),fun ts kk hl hp=>?_⟩;clear hl;obtain⟨u,o,M,rs,p,rfl,q⟩:=hp;nofun;refine aR (fun i env=>∃z5 z6 z7,(((M.drop i).map (mvQ p)).all fun z=>decide (z∈rs))=((M.map (mvQ p)).all fun z=>decide (z∈rs))/\env=[.dT u (dQ rs),.lst false (M.map qtT),ptP p,z5,z6,z7]) ⟨_,_,_,rfl,rfl⟩ ?_ ?_
 ·rintro i t _ ⟨z5,z6,z7,ew,rfl⟩ ei;obtain⟨m,em,rfl⟩:=aQ ei;rw[zK em,c_,Md]at ew;nofun;rw[show(jl (dQ rs) [Qu (p.1+m.1),Qu (p.2+m.2.1),Qu (m.2.2:Int)]).isSome=decide (mvQ p m∈rs)from Bi (q:=mvQ p m)];refine aF (fun h=>?_) (fun h=>?_)
  ·nofun;rw[decide_eq_true h,LI]at ew;exact⟨_,_,_,ew,rfl⟩
  nofun;rw[decide_eq_false h,Nk]at ew;rw[<-ew]at q;exact q
 rintro _ ⟨z5,z6,z7,ew,rfl⟩;rw[a_,NX]at ew;rw[<-ew]at q;nofun;exact q
end
def pX:FP:=fun ts k=>∃(u o:Bool) (M rs:List Qt) (x y:Int),ts=[.dT u (dQ rs),.lst o (M.map qtT)]/\(∀q∈rs,okQ x y q)/\rs.length<=1600/\(0,0,0)∈M/\∀(u o:Bool) (ps:List Pt),ps.Nodup->ps.length<=1600->(∀p,p∈ps↔∀m∈M,mvQ p m∈rs)->k (.lst true (ps.map ptP)) [.dT u (dQ rs),.lst o (M.map qtT)]
section
variable{P:OI}{w:OK}{K:OA}{mg:Str->Option Oy}{base:OM}
theorem o7:FnScope ["_law_region","_law_offsets","_law_found","_law_x","_law_y"] ["_law_region","_law_offsets"] (az lj):=⟨rfl,rfl,rfl,by rfl',rfl,by rfl',by rfl'⟩
theorem ue(F:Fun K "_law_centres" "_law_centres" lj f fd)(TX:Txt mg)  (Ch:Cal P w K mg base 1 "_law_stands" ["_law_region","_law_offsets","_law_corner"] (aI K 3 uX)):FnOk P w K mg base CX0 2 f fd ["_law_region","_law_offsets"] (aI K 2 pX):=by
 refine cB F o7 [true,true] rfl (fun cdv A outer s H E hr=>?_);have sc:=@o7;have nd1:(["_law_quarter"]:List Str).Nodup:=by rfl'
 have nd2:(["_law_quarter"]:List Str).Nodup:=by rfl'
 refine⟨_,(ah (ax (i:=2) sc.nd (by rfl) (d_ rfl) (by rfl) (aB (aW af))) (ah (bB OQ (by rfl) (aX (aB (kZ (by rfl) (by rfl) TX.sorted (by rfl) TX.set (bT sc ["_law_quarter"] [none] nd1 (by rfl') (tO (ae 0)) (fun _ _ _=>(au (i:=0) nd1 (by rfl) (d_ rfl) (by rfl) (hf:=(j_ rfl)))) (fun _ _ _=>bI) (fun _ _ _=>(aA hr (ae 0) ge_int)))))) (au (i:=3) sc.nd (by rfl) (d_ rfl) (by rfl)) (aj (bB OQ (by rfl) (aX (aB (kZ (by rfl) (by rfl) TX.sorted (by rfl) TX.set (bT sc ["_law_quarter"] [none] nd2 (by rfl') (tO (ae 0)) (fun _ _ _=>(au (i:=0) nd2 (by rfl) (d_ rfl) (by rfl) (hf:=(j_ rfl)))) (fun _ _ _=>bI) (fun _ _ _=>(aA hr (ae 0) ge_int)))))) (au (i:=4) sc.nd (by rfl) (d_ rfl) (by rfl)) (aj (dv (iF (lJ (av Ch hr (by rfl) (ai (ae 0) (ai (ae 1) (ai (ay (aa (ae 3) (aa (ae 4) af))) aw)))))) (aj (iE (kM 2 Ri Rj lA (aa (aB (ay (aa (ae 3) (aa (ae 4) af)))) af)))) ba))))) (aj (aM (jx 2))))),fun ts kk hl hp=>?_⟩;clear hl;obtain⟨u,o,M,rs,x,y,rfl,ho,hl,h0,q⟩:=hp;have hz:∀p:Pt,(∀m∈M,mvQ p m∈rs)->(p.1,p.2,0)∈rs:=fun p h=>by have:=h _ h0;unfold mvQ at this;rwa[Ls,Ls]at this
 nofun;refine aJ (by rw[a_,sizeLine_eq];lia) (fun i acc ie=>∃z1,acc=(rs.take i).map (fun q=>T.int q.1)/\ie=[z1]) ⟨_,rfl,rfl⟩ ?_ ?_
 ·rintro i t _ _ ⟨z1,rfl,rfl⟩ ei;obtain⟨l,el,rfl⟩:=aQ ei;nofun;exact⟨_,by rw[map_take el],rfl⟩
 rintro _ _ ⟨z1,rfl,rfl⟩;rw[a_,t_];nofun;refine⟨⟨by lia,few x fun z m=>?_⟩,fun ms so me=>?_⟩
 ·obtain⟨q,mq,rfl⟩:=n_.mp m;exact(ho q mq).1
 have nd:ms.Nodup:=so.imp fun g=>Ol g;refine aR (fun i env=>∃(u o:Bool) (ps:List Pt) (z3 z4:T),ps.Nodup/\(∀p,p∈ps↔p.1∈ms.take i/\∀m∈M,mvQ p m∈rs)/\env=[.dT u (dQ rs),.lst o (M.map qtT),.lst true (ps.map ptP),z3,z4]) ⟨_,_,[],_,_,.nil,fun p=>⟨fun m=>(by cases m),fun m=>(by cases m.1)⟩,rfl⟩ ?_ ?_
 ·rintro i t _ ⟨u,o,ps,z3,z4,n1,n2,rfl⟩ ei;obtain⟨a,ea,rfl⟩:=aQ ei;nofun;refine aJ (by rw[a_,sizeLine_eq];lia) (fun i acc ie=>∃z1,acc=(rs.take i).map (fun q=>T.int q.2.1)/\ie=[z1]) ⟨_,rfl,rfl⟩ ?_ ?_
  ·rintro i t _ _ ⟨z1,rfl,rfl⟩ ei;obtain⟨l,el,rfl⟩:=aQ ei;nofun;exact⟨_,by rw[map_take el],rfl⟩
  rintro _ _ ⟨z1,rfl,rfl⟩;rw[a_,t_];nofun;refine⟨⟨by lia,few y fun z m=>?_⟩,fun ns so2 me2=>?_⟩
  ·obtain⟨q,mq,rfl⟩:=n_.mp m;exact(ho q mq).2.1
  have nd2:ns.Nodup:=so2.imp fun g=>Ol g;refine aR (fun j env=>∃(u o:Bool) (ps:List Pt) (z4:T),ps.Nodup/\(∀p,p∈ps↔(p.1∈ms.take i\/p.1=a/\p.2∈ns.take j)/\∀m∈M,mvQ p m∈rs)/\env=[.dT u (dQ rs),.lst o (M.map qtT),.lst true (ps.map ptP),.int a,z4]) ⟨_,_,ps,_,n1,fun p=>by rw[n2,List.take_zero];simp only[Ld,and_false,or_false],rfl⟩ ?_ ?_
  ·clear n1 n2 ps;rintro j t _ ⟨u,o,ps,z4,n1,n2,rfl⟩ ej;obtain⟨b,eb,rfl⟩:=aQ ej;have hmem:∀p:Pt,p.2∈ns.take (j+1)↔p.2∈ns.take j\/p.2=b:=fun p=>by rw[KI,eb,F_];exact or_congr_right y_
   nofun;refine⟨_,_,M,rs,(a,b),rfl,?_⟩;nofun;refine nr (fun h=>?_) (fun h=>?_)
   ·nofun;have h:=KW.mp h;have hs:∀m∈M,mvQ (a,b) m∈rs:=fun m mm=>of_decide_eq_true (h _ (v_ mm));refine⟨by have:=AY n1 fun p m=>hz p ((n2 p).mp m).2;lia,_,_,ps++[(a,b)],_,?_,fun p=>?_,by rw[q_];rfl⟩
    ·refine Lq.mpr ⟨n1,LO _ _,fun p mp q mq e=>?_⟩;rw[y_]at mq;subst e;subst mq;rcases((n2 _).mp mp).1 with g|g
     ·exact pA nd ea g
     exact pA nd2 eb g.2
    rw[F_,y_,n2,hmem];constructor
    ·rintro(⟨g|g,g2⟩|rfl)
     ·exact⟨.inl g,g2⟩
     ·exact⟨.inr ⟨g.1,.inl g.2⟩,g2⟩
     exact⟨.inr ⟨rfl,.inr rfl⟩,hs⟩
    rintro⟨g|⟨g,g1|g1⟩,g2⟩
    ·exact .inl ⟨.inl g,g2⟩
    ·exact .inl ⟨.inr ⟨g,g1⟩,g2⟩
    exact .inr (L8 g g1)
   nofun;refine⟨_,_,ps,_,n1,fun p=>?_,rfl⟩;rw[n2,hmem];constructor
   ·rintro⟨g|g,g2⟩
    ·exact⟨.inl g,g2⟩
    exact⟨.inr ⟨g.1,.inl g.2⟩,g2⟩
   rintro⟨g|⟨g,g1|g1⟩,g2⟩
   ·exact⟨.inl g,g2⟩
   ·exact⟨.inr ⟨g,g1⟩,g2⟩
   exfalso;rw[show p=(a,b)from L8 g g1]at g2;have:((M.map (mvQ (a,b))).all fun z=>decide (z∈rs))=true:=KW.mpr fun z mz=>by obtain⟨m,mm,rfl⟩:=n_.mp mz;exact decide_eq_true (g2 m mm)
   rw[this]at h;cases h
  clear n1 n2 ps;rintro _ ⟨u,o,ps,z4,n1,n2,rfl⟩;rw[a_,t_]at n2;refine⟨_,_,ps,_,_,n1,fun p=>?_,rfl⟩;rw[n2,KI,ea,F_];refine and_congr_left fun g=>or_congr_right ⟨fun h=>h.1 ▸ .head _,fun h=>⟨y_.mp h,(me2 _).mpr (n_.mpr ⟨_,hz p g,rfl⟩)⟩⟩
 rintro _ ⟨u,o,ps,z3,z4,n1,n2,rfl⟩;rw[a_,t_]at n2;nofun;exact q u o ps n1 (by have:=AY n1 fun p m=>hz p ((n2 p).mp m).2;lia) fun p=>by rw[n2];exact and_iff_right_of_imp fun h=>(me _).mpr (n_.mpr ⟨_,hz p h,rfl⟩)
end
def rP:FP:=fun ts k=>∃(o o2:Bool) (M:List Qt) (ps:List Pt),ts=[.lst o (M.map qtT),.lst o2 (ps.map ptP)]/\M.length<=256/\ps.length<=60000/\∀z1,k (.dT true (dQ (iM M ps))) [z1,.lst false (ps.map ptP)]
section
variable{P:OI}{w:OK}{K:OA}{mg:Str->Option Oy}{base:OM}
theorem qd:FnScope ["_law_offsets","_law_corners_here","_law_found","_law_x","_law_y","_law_east","_law_north","_law_side"] ["_law_offsets","_law_corners_here"] (az nV):=⟨rfl,rfl,rfl,by rfl',rfl,by rfl',by rfl'⟩
theorem xD(F:Fun K "_law_marked" "_law_marked" nV f fd)(TX:Txt mg)  :FnOk P w K mg base CX0 1 f fd ["_law_offsets","_law_corners_here"] (aI K 2 rP):=by
 refine cB F qd [true,true] rfl (fun cdv A outer s H E hr=>?_);have sc:=@qd;refine⟨_,(ah (ax (i:=2) sc.nd (by rfl) (d_ rfl) (by rfl) (aB qr)) (ah (bB OQ (by rfl) (aX (bg 1)) (fM (n:=2) (by rfl) (aC (au (i:=3) sc.nd (by rfl) (d_ rfl) (by rfl)) (aC (au (i:=4) sc.nd (by rfl) (d_ rfl) (by rfl)) du))) (aj (bB OQ (by rfl) (aX (bg 0)) (fM (n:=3) (by rfl) (aC (au (i:=5) sc.nd (by rfl) (d_ rfl) (by rfl)) (aC (au (i:=6) sc.nd (by rfl) (d_ rfl) (by rfl)) (aC (au (i:=7) sc.nd (by rfl) (d_ rfl) (by rfl)) du)))) (aj (lE iZ (pV (i:=2) hr (aB (ay (aa (ag aq (ae 3) (ae 5)) (aa (ag aq (ae 4) (ae 6)) (aa (ae 7) af))))))))))) (aj (aM (jx 2))))),fun ts kk hl hp=>?_⟩;clear hl;obtain⟨o,o2,M,ps,rfl,ln,hl,q⟩:=hp;nofun;refine⟨rfl,aR (fun i env=>∃(b:Bool) (z3 z4 z5 z6 z7:T),env=[.lst b (M.map qtT),.lst false (ps.map ptP),.dT true (dQ (iM M (ps.take i))),z3,z4,z5,z6,z7]) ⟨o,_,_,_,_,_,rfl⟩ ?_ ?_⟩
 ·rintro i t' _ ⟨b,z3,z4,z5,z6,z7,rfl⟩ ei;obtain⟨p,ep,rfl⟩:=aQ ei;have hi:=(f_.mp ep).1;have l1:=Bg (M:=M) (ps:=ps.take i) (qs:=[]);rw[LP,B_,LQ (KR hi)]at l1;have l3:(iM M (ps.take i)).length<=256*60000:=B' l1 (by rw[Lh];exact N5 ln (by lia));rw[rj ep];generalize iM M (ps.take i)=F at *;nofun;refine aR (fun j env=>∃z5 z6 z7,env=[.lst false (M.map qtT),.lst false (ps.map ptP),.dT true (dQ (addQ F ((M.map (mvQ p)).take j))),.int p.1,.int p.2,z5,z6,z7]) ⟨_,_,_,rfl⟩ ?_ ?_
  ·rintro j u _ ⟨z5,z6,z7,rfl⟩ ej;obtain⟨m,em,rfl⟩:=aQ ej;have l2:=pM (qs:=F) (rs:=(M.map (mvQ p)).take j);rw[B_,a_]at l2;nofun;exact⟨by rw[oP];lia,_,_,_,by rw[rA (show(M.map (mvQ p))[j]?=some (mvQ p m) by rw[p_,em];rfl),<-CC];rfl⟩
  rintro _ ⟨z5,z6,z7,rfl⟩;rw[a_,<-a_ (f:=mvQ p),t_];exact⟨false,_,_,_,_,_,rfl⟩
 rintro _ ⟨b,z3,z4,z5,z6,z7,rfl⟩;rw[a_,t_];nofun;exact q _
end
def oy:FP:=fun ts k=>∃(u:Bool) (ps:List Pt) (p:Pt) (f:Int),ts=[.dT u (dP ps),ptP p,.int f]/\0<=f/\f<=1000000/\∀b:Bool,(b=true->(p.1-f,p.2-f)∈ps)->k (.bl b) ts
section
variable{P:OI}{w:OK}{K:OA}{mg:Str->Option Oy}{base:OM}
theorem mG:FnScope ["_law_there","_law_point","_law_far","_law_x","_law_y","_law_turn","_law_corner"] ["_law_there","_law_point","_law_far"] (az kE):=⟨rfl,rfl,rfl,by rfl',rfl,by rfl',by rfl'⟩
theorem sN(F:Fun K "_law_rim_there" "_law_rim_there" kE f fd)(TX:Txt mg)  :FnOk P w K mg base CX0 1 f fd ["_law_there","_law_point","_law_far"] (aI K 3 oy):=by
 refine cB F mG [true,true,true] rfl (fun cdv A outer s H E hr=>?_);have sc:=@mG;refine⟨_,(ah (lE (bg 1) (fM (n:=2) (by rfl) (aC (au (i:=3) sc.nd (by rfl) (d_ rfl) (by rfl)) (aC (au (i:=4) sc.nd (by rfl) (d_ rfl) (by rfl)) du)))) (ah (bB OQ (by rfl) (i9 (by rfl) TX.range (aa (aB (jZ (ae 2))) (aa (aB (ag aq (ae 2) ge_int)) af))) (au (i:=5) sc.nd (by rfl) (d_ rfl) (by rfl)) (aj (bB OQ (by rfl) (aX (aW (aa (aB (ay (aa (ag aq (ae 3) (ae 5)) (aa (ag aP (ae 4) (ae 2)) af)))) (aa (aB (ay (aa (ag aq (ae 3) (ae 5)) (aa (ag aq (ae 4) (ae 2)) af)))) (aa (aB (ay (aa (ag aP (ae 3) (ae 2)) (aa (ag aq (ae 4) (ae 5)) af)))) (aa (aB (ay (aa (ag aq (ae 3) (ae 2)) (aa (ag aq (ae 4) (ae 5)) af)))) af)))))) (au (i:=6) sc.nd (by rfl) (d_ rfl) (by rfl)) (aj (dv (iF (bj (tI hr) (ae 6) (ae 0) (by with_unfolding_all rfl))) (aj (aM iZ)) ba))))) (aj (aM iZ)))),fun ts kk hl hp=>?_⟩;clear hl;obtain⟨u,ps,p,f,rfl,f0,f1,q⟩:=hp;nofun;refine⟨by lia,aR (fun i env=>∃z5 z6,(0<i->(p.1-f,p.2-f)∈ps)/\env=[.dT u (dP ps),ptP p,.int f,.int p.1,.int p.2,z5,z6]) ⟨_,_,fun z=>absurd z (Lf _),rfl⟩ ?_ ?_⟩
 ·rintro i t _ ⟨z5,z6,hm,rfl⟩ ei;have et:=jn ei;subst et;nofun;refine aR (fun j env=>∃z6,(0<j->(p.1+(-f+i),p.2-f)∈ps)/\env=[.dT u (dP ps),ptP p,.int f,.int p.1,.int p.2,.int (-f+i),z6]) ⟨_,fun z=>absurd z (Lf _),rfl⟩ ?_ ?_
  ·rintro j t _ ⟨z6,hj,rfl⟩ ej;obtain⟨c,ec,rfl⟩:=aQ (l:=[((p.1+(-f+(i:Int)),p.2-f):Pt),(p.1+(-f+i),p.2+f),(p.1-f,p.2+(-f+i)),(p.1+f,p.2+(-f+i))]) (g:=ptP) ej;nofun;rw[show(jl (dP ps) [Qu c.1,Qu c.2]).isSome=decide (c∈ps)from HQ (p:=c)];refine aF (fun h=>?_) (fun h=>?_)
   ·nofun;refine⟨_,fun _=>?_,rfl⟩;by_cases z:j=0
    ·subst z;cases ec;exact h
    exact hj (Ln z)
   nofun;exact q false fun z=>by cases z
  rintro _ ⟨z6,hj,rfl⟩;refine⟨_,_,fun _=>?_,rfl⟩;by_cases z:i=0
  ·subst z;have:=hj (L3 3);rwa[show p.1+(-f+((0:Nat):Int))=p.1-f by lia]at this
  exact hm (Ln z)
 rintro _ ⟨z5,z6,hm,rfl⟩;rw[de]at hm;nofun;exact q true fun _=>hm (by lia)
end
def yW:FP:=fun ts k=>∃(u:Bool) (ps:List Pt) (p:Pt),ts=[.dT u (dP ps),ptP p]/\(∀q∈ps,bdP 1000 q)/\bdP 1000 p/\∀(n:Int) (o:Bool),0<=n->n<=3000->k (.int n) [.dT o (dP ps),ptP p]
section
variable{P:OI}{w:OK}{K:OA}{mg:Str->Option Oy}{base:OM}
theorem vd:FnScope ["_law_there","_law_point","_law_far"] ["_law_there","_law_point"] (az sD):=⟨rfl,rfl,rfl,by rfl',rfl,by rfl',by rfl'⟩
theorem CQ(F:Fun K "_law_depth" "_law_depth" sD f fd)(TX:Txt mg)  (AT:Cal P w K mg base 1 "_law_rim_there" ["_law_there","_law_point","_law_far"] (aI K 3 oy)):FnOk P w K mg base CX0 2 f fd ["_law_there","_law_point"] (aI K 2 yW):=by
 refine cB F vd [true,true] rfl (fun cdv A outer s H E hr=>?_);have sc:=@vd;refine⟨_,(ah (ax (i:=2) sc.nd (by rfl) (d_ rfl) (by rfl) ge_int) (ah (Co OQ (iF (lJ (av AT hr (by rfl) (ai (ae 0) (ai (ae 1) (ai (ag aq (ae 2) ge_int) aw)))))) (aj (ax (i:=2) sc.nd (by rfl) (d_ rfl) (by rfl) (aB (ag aq (ae 2) ge_int))))) (aj (aM (jx 2))))),fun ts kk hl hp=>?_⟩;clear hl;obtain⟨u,ps,p,rfl,hb,⟨⟨h1,h2⟩,_⟩,q⟩:=hp;nofun;refine AN (fun m env=>∃(f:Nat) (u:Bool),m+f=3000/\env=[.dT u (dP ps),ptP p,.int f]) 3000 ⟨0,u,rfl,rfl⟩ ?_;rintro m _ ⟨f,u,e,rfl⟩;nofun;refine⟨false,ps,p,(f:Int)+1,rfl,by lia,by lia,fun b hm=>?_⟩;nofun;refine nr (fun h=>?_) (fun h=>?_)
 ·nofun;have:=(hb _ (hm h)).1.1;dsimp only at this;exact⟨m-1,by lia,f+1,_,by lia,rfl⟩
 nofun;exact q f _ (by lia) (by lia)
end
def uZ:FP:=fun ts k=>∃(u:Bool) (ps:List Pt),ts=[.lst u (ps.map ptP)]/\ps.Nodup/\(∀q∈ps,bdP 1000 q)/\ps.length<=60000/\∀l:List (Pt×Int),l.map (·.1)=ps->k (.dT true (dD l)) [.lst u (ps.map ptP)]
section
variable{P:OI}{w:OK}{K:OA}{mg:Str->Option Oy}{base:OM}
theorem rY:FnScope ["_law_points","_law_there"] ["_law_points"] (az qf):=⟨rfl,rfl,rfl,by rfl',rfl,by rfl',by rfl'⟩
theorem zQ(F:Fun K "_law_depths" "_law_depths" qf f fd)(TX:Txt mg)  (pp:Cal P w K mg base 2 "_law_depth" ["_law_there","_law_point"] (aI K 2 yW)):FnOk P w K mg base CX0 3 f fd ["_law_points"] (aI K 1 uZ):=by
 refine cB F rY [true] rfl (fun cdv A outer s H E hr=>?_);have sc:=@rY;have nd1:(["_law_point"]:List Str).Nodup:=by rfl'
 have nd2:(["_law_point","_law_there"]:List Str).Nodup:=by rfl'
 refine⟨_,(ah (ax (i:=1) sc.nd (by rfl) (j_ rfl) (by rfl) (aB (bD (qt rfl (IQ hr)) (by rfl) TX.dict (by rfl') (aa (bT sc ["_law_point"] [none] nd1 (by rfl') (aX (ae 0)) (fun _ _ _=>(au (i:=0) nd1 (by rfl) (d_ rfl) (by rfl) (hf:=(j_ rfl)))) (fun _ _ _=>bI) (fun _ _ _=>(ay (aa (ae 0) (aa iZ af))))) af)))) (aj (aM (aB (bD (qt rfl (IQ hr)) (by rfl) TX.dict (by rfl') (aa (bT sc ["_law_point","_law_there"] [none,some 1] nd2 (by rfl') (aX (ae 0)) (fun _ _ _=>(au (i:=0) nd2 (by rfl) (d_ rfl) (by rfl) (hf:=(j_ rfl)))) (fun _ _ _=>bI) (fun _ _ _=>(ay (aa (ae 0) (aa (av pp hr (by rfl) (ai (ae 1) (ai (ae 0) aw))) af))))) af)))))),fun ts kk hl hp=>?_⟩;clear hl;obtain⟨u,ps,rfl,nd,hb,hl,q⟩:=hp;nofun;refine aJ (by rw[a_,sizeLine_eq];lia) (fun i acc ie=>∃z1,acc=(ps.take i).map (fun p=>T.tup [ptP p,.bl true])/\ie=[z1]) ⟨_,rfl,rfl⟩ ?_ ?_
 ·rintro i t _ _ ⟨z1,rfl,rfl⟩ ei;obtain⟨l,el,rfl⟩:=aQ ei;nofun;exact⟨_,by rw[map_take el],rfl⟩
 rintro _ _ ⟨z1,rfl,rfl⟩;rw[a_,t_];nofun;refine DZ nd ?_;nofun;refine aJ (by rw[a_,sizeLine_eq];lia) (fun i acc ie=>∃(l:List (Pt×Int)) (z1:T),l.map (·.1)=ps.take i/\acc=l.map prD/\ie=[z1,.dT false (dP ps)]) ⟨[],_,rfl,rfl,rfl⟩ ?_ ?_
 ·rintro i t _ _ ⟨l,z1,el,rfl,rfl⟩ ei;obtain⟨p,ep,rfl⟩:=aQ ei;nofun;refine⟨false,ps,p,rfl,hb,hb p (H_ ep),fun n o n0 n1=>?_⟩;nofun;exact⟨l++[(p,n)],_,by rw[q_,el,KI,ep];rfl,by rw[q_];rfl,rfl⟩
 rintro _ _ ⟨l,z1,el,rfl,rfl⟩;rw[a_,t_]at el;nofun;refine Ep (by rw[el];exact nd) ?_;nofun;exact q l el
end
def pq:FP:=fun ts k=>∃c n o,∃ps:List Pt,ts=[stT c n,.lst o (ps.map ptP)]/\n<2 ^ 37/\ps.length<=60000/\∀(c':Cells) (n':Nat) (qs:List Pt) (z:T),n'<=n+ps.length->qs.Perm ps->k (.lst true (qs.map ptP)) [stT c' n',z]
section
variable{P:OI}{w:OK}{K:OA}{mg:Str->Option Oy}{base:OM}
theorem oA:FnScope ["_law_state","_law_things","_law_made","_law_thing"] ["_law_state","_law_things"] (az lF):=⟨rfl,rfl,rfl,by rfl',rfl,by rfl',by rfl'⟩
theorem uk(F:Fun K "_law_shuffled" "_law_shuffled" lF f fd)(TX:Txt mg)  (Cl:Cal P w K mg base 1 "_law_take" ["_law_state","_law_many"] (aI K 2 kq)):FnOk P w K mg base CX0 2 f fd ["_law_state","_law_things"] (aI K 2 pq):=by
 refine cB F oA [true,true] rfl (fun cdv A outer s H E hr=>?_);have sc:=@oA;refine⟨_,(ah (ax (i:=2) sc.nd (by rfl) (d_ rfl) (by rfl) (aB (aW af))) (ah (bB OQ (by rfl) (aX (bg 1)) (au (i:=3) sc.nd (by rfl) (d_ rfl) (by rfl)) (aj (iE (kM 2 PySem.F.slot_list_insert PySem.F.type_list_insert vT (aa (av Cl hr (by rfl) (aH 0 (ai (aB (ag aq (aK jB (by rfl) TX.len (by rfl') (aa (ae 2) af)) ge_int)) aw))) (aa (bg 3) af)))))) (aj (aM (jx 2))))),fun ts kk hl hp=>?_⟩;clear hl;obtain⟨c,n,o,ps,rfl,hn,hl,q⟩:=hp;nofun;refine aR (fun i env=>∃(c':Cells) (n':Nat) (qs:List Pt) (z:T),n'<=n+i/\qs.Perm (ps.take i)/\env=[stT c' n',.lst false (ps.map ptP),.lst true (qs.map ptP),z]) ⟨c,n,[],_,b_ _,.refl _,rfl⟩ ?_ ?_
 ·rintro i t _ ⟨c',n',qs,z,ln,pm,rfl⟩ ei;obtain⟨p,ep,rfl⟩:=aQ ei;have hi:=(f_.mp ep).1;have l1:=pm.length_eq;rw[B_]at l1;nofun;walk_at "take";intro y c2 a2 b2;nofun;rw[<-MU,<-MT,<-c_,<-q_];refine⟨by lia,c2,n'+1,_,_,by lia,?_,rfl⟩;rw[KI,ep];exact(f'.trans ((List.Perm.of_eq (Ll _ _)).cons _)).trans ((pm.cons _).trans (List.perm_append_singleton _ _).symm)
 rintro _ ⟨c',n',qs,z,ln,pm,rfl⟩;rw[a_]at ln;rw[a_,t_]at pm;nofun;exact q c' n' qs _ ln pm
end
def qN:FP:=fun ts k=>∃c n o,∃ps:List Pt,ts=[stT c n,.lst o (ps.map ptP)]/\n<2 ^ 36/\ps.Nodup/\ps.length<=1600/\(∀q∈ps,bdP 1000 q)/\∀(c':Cells) (n':Nat) (qs:List Pt) (o:Bool),n'<=n+30000->qs.length<=20000->k (.lst true (qs.map ptP)) [stT c' n',.lst o (ps.map ptP)]
section
variable{P:OI}{w:OK}{K:OA}{mg:Str->Option Oy}{base:OM}
theorem pB:FnScope ["_law_state","_law_spots","_law_way","_law_depths_here","_law_some","_law_at"] ["_law_state","_law_spots"] (az nq):=⟨rfl,rfl,rfl,by rfl',rfl,by rfl',by rfl'⟩
theorem xo(F:Fun K "_law_corners" "_law_corners" nq f fd)(TX:Txt mg)  (Cl:Cal P w K mg base 1 "_law_take" ["_law_state","_law_many"] (aI K 2 kq))(rc:Cal P w K mg base 3 "_law_depths" ["_law_points"] (aI K 1 uZ))(BT:Cal P w K mg base 2 "_law_shuffled" ["_law_state","_law_things"] (aI K 2 pq)):FnOk P w K mg base CX0 4 f fd ["_law_state","_law_spots"] (aI K 2 qN):=by
 refine cB F pB [true,true] rfl (fun cdv A outer s H E hr=>?_);have sc:=@pB;have nd1:(["_law_point","_law_depths_here"]:List Str).Nodup:=by rfl'
 have nd2:(["_law_point","_law_state"]:List Str).Nodup:=by rfl'
 have nd3:(["_law_point","_law_state"]:List Str).Nodup:=by rfl'
 have nd4:(["_law_x","_law_y"]:List Str).Nodup:=by rfl'
 have nd5:(["_law_x","_law_y"]:List Str).Nodup:=by rfl'
 refine⟨_,(ah (ax (i:=2) sc.nd (by rfl) (d_ rfl) (by rfl) (av Cl hr (by rfl) (aH 0 (ai ge_int aw)))) (ah (ax (i:=3) sc.nd (by rfl) (j_ rfl) (by rfl) (aB (av rc hr (by rfl) (ai (ae 1) aw)))) (bJ (ax (i:=4) sc.nd (by rfl) (d_ rfl) (by rfl) (aB (bD fR (by rfl) TX.list (by rfl') (aa (ae 1) af)))) (bJ (dv (iF (G3 (BU (bj (cE hr) (ae 2) ge_int (aN _)) (zj (bj (sG hr) (ae 4) (aW af) (aN _)))))) (aj (iE (kM 4 PySem.F.slot_list_pop PySem.F.type_list_pop AH (aa (av Cl hr (by rfl) (aH 0 (ai (aB (aK jB (by rfl) TX.len (by rfl') (aa (ae 4) af))) aw))) af)))) ba) (bJ (dv (iF (bj (cE hr) (ae 2) ge_int (aN _))) (aj (kB sc (i:=4) ["_law_point","_law_depths_here"] [none,some 3] nd1 (by rfl') (by rfl) (d_ rfl) (by rfl) (aX (ae 4)) (fun _ _ _=>(au (i:=0) nd1 (by rfl) (d_ rfl) (by rfl) (hf:=(j_ rfl)))) (fun _ _ _=>(kL (bj (cE hr) (aA hr (ae 1) (ae 0)) ge_int (aN _)))) (fun _ _ _=>(ae 0)) (by rfl))) ba) (bJ (dv (iF (bj (cE hr) (ae 2) ge_int (aN _))) (aj (yF sc (i:=4) ["_law_point","_law_state"] [none,some 0] nd2 (by rfl') (by rfl) (d_ rfl) (by rfl) (aX (bg 4)) (fun _ _ _=>(au (i:=0) nd2 (by rfl) (d_ rfl) (by rfl) (hf:=(j_ rfl)))) (fun _ _ _=>(kL (bj (cE hr) (av Cl hr (by rfl) (aH 1 (ai ge_int aw))) ge_int (aN _)))) (fun _ _ _=>(bg 0)) (by rfl))) ba) (bJ (dv (iF (bj (cE hr) (ae 2) ge_int (aN _))) (aj (ax (i:=4) sc.nd (by rfl) (d_ rfl) (by rfl) (ag aq (bg 4) (bT sc ["_law_point","_law_state"] [none,some 0] nd3 (by rfl') (aX (iq (bg 4) jM (iH (ag aq ge_int (av Cl hr (by rfl) (aH 0 (ai ge_int aw))))))) (fun _ _ _=>(au (i:=0) nd3 (by rfl) (d_ rfl) (by rfl) (hf:=(j_ rfl)))) (fun _ _ _=>bI) (fun _ _ _=>(ay (aa (aB (ag aq (aA hr (ae 0) ge_int) ge_int)) (aa (ag aq (aB (aA hr (ae 0) ge_int)) (av Cl hr (by rfl) (aH 1 (ai ge_int aw)))) af)))))))) ba) (bJ (dv (iF (bj (cE hr) (ae 2) ge_int (aN _))) (aj (ax (i:=4) sc.nd (by rfl) (d_ rfl) (by rfl) (aB (ag aq (ae 4) (iq (ae 4) jM (iH ge_int)))))) ba) (bJ (dv (iF (bj (cE hr) (ae 2) ge_int (aN _))) (aj (ax (i:=4) sc.nd (by rfl) (d_ rfl) (by rfl) (iq (bg 4) jM (iH (av Cl hr (by rfl) (aH 0 (ai ge_int aw))))))) ba) (bJ (dv (iF (bj (cE hr) (ae 2) ge_int (aN _))) (aj (kB sc (i:=4) ["_law_x","_law_y"] [none,none] nd4 (by rfl') (by rfl) (d_ rfl) (by rfl) (aX (ae 4)) (fun _ _ _=>(fM (n:=2) (by rfl) (aC (au (i:=0) nd4 (by rfl) (d_ rfl) (by rfl) (hf:=(j_ rfl))) (aC (au (i:=1) nd4 (by rfl) (d_ rfl) (by rfl) (hf:=(j_ rfl))) du)))) (fun _ _ _=>bI) (fun _ _ _=>(ay (aa (ag aq (ae 0) ge_int) (aa (ae 1) af)))) (by rfl))) ba) (bJ (dv (iF (bj (cE hr) (ae 2) ge_int (aN _))) (ah (ax (i:=5) sc.nd (by rfl) (d_ rfl) (by rfl) (av Cl hr (by rfl) (aH 0 (ai (aB (ag aq (aK jB (by rfl) TX.len (by rfl') (aa (ae 4) af)) ge_int)) aw)))) (aj (ax (i:=4) sc.nd (by rfl) (d_ rfl) (by rfl) (aB (ag aq (ag aq (iq (ae 4) jM (iH (ae 5))) (bT sc ["_law_x","_law_y"] [none,none] nd5 (by rfl') (aX (iq (ae 4) (iH (ae 5)) (iH (ag aq (ae 5) ge_int)))) (fun _ _ _=>(fM (n:=2) (by rfl) (aC (au (i:=0) nd5 (by rfl) (d_ rfl) (by rfl) (hf:=(j_ rfl))) (aC (au (i:=1) nd5 (by rfl) (d_ rfl) (by rfl) (hf:=(j_ rfl))) du)))) (fun _ _ _=>bI) (fun _ _ _=>(ay (aa (ae 0) (aa (ag aP (ae 1) ge_int) af)))))) (iq (ae 4) (iH (ag aq (ae 5) ge_int)) jM)))))) ba) (bJ (dv (G3 (BU (iF (bj (cE hr) (ae 1) (aW af) (aN _))) (zj (bj (cE hr) (av Cl hr (by rfl) (aH 0 (ai ge_int aw))) ge_int (aN _))))) (aj (ax (i:=4) sc.nd (by rfl) (d_ rfl) (by rfl) (aW (aa (ay (aa (av Cl hr (by rfl) (aH 0 (ai ge_int aw))) (aa (av Cl hr (by rfl) (aH 0 (ai ge_int aw))) af))) af)))) ba) (aj (aM (av BT hr (by rfl) (aH 0 (ai (bg 4) aw))))))))))))))))),fun ts kk hl hp=>?_⟩;clear hl;obtain⟨c,n,o,ps,rfl,hn,nd,hl,hb,q⟩:=hp;nofun;walk_at "take";intro way c1 a1 b1;nofun;refine⟨_,ps,rfl,nd,hb,by lia,fun l el=>?_⟩;nofun;refine dq (fun env=>∃o:Bool,env=[stT c1 (n+1),.lst o (ps.map ptP),.int way,.dT true (dD l),.lst true (ps.map ptP),.any]) ?_ ?_
 ·nofun;exact⟨_,rfl⟩
 rintro _ ⟨o,rfl⟩;refine dq (Wd n ps way l 2) ?_ ?_
 ·nofun;refine aF (fun h=>?_) (fun h=>?_)
  ·nofun;refine DW ?_;refine nr (fun h2=>?_) (fun h2=>?_)
   ·have hp:0<ps.length:=MK.mpr fun z=>by rw[decide_eq_true z]at h2;cases h2
    nofun;walk_at "take";intro r c2 a2 b2;nofun;refine⟨⟨a2,by lia⟩,cK (e_ (i:=r.toNat) (by rw[a_];lia)) ?_⟩;nofun;exact⟨c2,n+2,_,_,_,ps.eraseIdx r.toNat,_,by lia,B' (M_ ..) (by lia),fun g=>absurd (h.symm.trans g) (by decide),by rw[fW]⟩
   nofun;exact⟨c1,n+1,_,_,_,ps,_,by lia,by lia,fun _=>rfl,rfl⟩
  nofun;exact⟨c1,n+1,_,_,_,ps,_,by lia,by lia,fun _=>rfl,rfl⟩
 rintro _ ⟨c2,n2,o,u,b,qs,z5,l2,l3,l4,rfl⟩;refine dq (Wc n ps way l 2) ?_ ?_
 ·nofun;refine aF (fun h=>?_) (fun h=>?_)
  ·cases l4 h;nofun;refine aJ (by rw[a_,sizeLine_eq];lia) (fun i acc ie=>∃(z:T) (xs:List Pt),xs.length<=i/\acc=xs.map ptP/\ie=[z,.dT false (dD l)]) ⟨_,[],b_ _,rfl,rfl⟩ ?_ ?_
   ·rintro i t _ _ ⟨z,xs,lx,rfl,rfl⟩ ei;obtain⟨p,ep,rfl⟩:=aQ ei;nofun;obtain⟨m,em⟩:=Ky (l:=l) (p:=p) (by rw[el];exact H_ ep);unfold ptP;nofun;refine cK em ?_;nofun;refine aF (fun _=>?_) (fun _=>?_)
    ·nofun;exact⟨_,xs++[p],by rw[gV];exact Le lx 1,by rw[q_];rfl,rfl⟩
    nofun;exact⟨_,xs,MY lx,rfl,rfl⟩
   rintro _ _ ⟨z,xs,lx,rfl,rfl⟩;rw[a_]at lx;nofun;exact⟨c2,n2,_,_,_,xs,_,l2,by lia,rfl⟩
  nofun;exact⟨c2,n2,_,_,_,qs,_,l2,l3,rfl⟩
 clear l2 l3 l4;rintro _ ⟨c2,n2,o,u,b,qs,z5,l2,l3,rfl⟩;refine dq (Wc n ps way l 2000) ?_ ?_
 ·nofun;refine aF (fun h=>?_) (fun h=>?_)
  ·nofun;refine aJ (by rw[a_,sizeLine_eq];lia) (fun i acc ie=>∃(c':Cells) (n':Nat) (z:T) (xs:List Pt),n'<=n2+i/\xs.length<=i/\acc=xs.map ptP/\ie=[z,stT c' n']) ⟨c2,n2,_,[],b_ _,b_ _,rfl,rfl⟩ ?_ ?_
   ·rintro i t _ _ ⟨c',n',z,xs,ln,lx,rfl,rfl⟩ ei;obtain⟨p,ep,rfl⟩:=aQ ei;have hi:=(f_.mp ep).1;nofun;walk_at "take";intro r c3 a2 b2;nofun;refine aF (fun _=>?_) (fun _=>?_)
    ·nofun;exact⟨c3,n'+1,_,xs++[p],Le ln 1,by rw[gV];exact Le lx 1,by rw[q_];rfl,rfl⟩
    nofun;exact⟨c3,n'+1,_,xs,Le ln 1,MY lx,rfl,rfl⟩
   rintro _ _ ⟨c',n',z,xs,ln,lx,rfl,rfl⟩;rw[a_]at lx ln;nofun;exact⟨c',n',_,_,_,xs,_,by lia,by lia,rfl⟩
  nofun;exact⟨c2,n2,_,_,_,qs,_,by lia,l3,rfl⟩
 clear l2 l3;rintro _ ⟨c2,n2,o,u,b,qs,z5,l2,l3,rfl⟩;refine dq (Wb n ps way l 5300 3300) ?_ ?_
 ·nofun;refine aF (fun h=>?_) (fun h=>?_)
  ·nofun;walk_at "take";intro r c3 a3 b3;nofun;obtain⟨rs,lr,er⟩:=Av (ps:=qs) none (some (1+r));rw[er,yY];refine aJ (by rw[a_,sizeLine_eq];lia) (fun i acc ie=>∃(c':Cells) (n':Nat) (z:T) (xs:List Pt),n'<=n2+1+i/\xs.length<=i/\acc=xs.map ptP/\ie=[z,stT c' n']) ⟨c3,n2+1,_,[],b_ _,b_ _,rfl,rfl⟩ ?_ ?_
   ·rintro i t _ _ ⟨c',n',z,xs,ln,lx,rfl,rfl⟩ ei;obtain⟨p,ep,rfl⟩:=aQ ei;have hi:=(f_.mp ep).1;nofun;walk_at "take";intro r c4 a4 b4;nofun;exact⟨c4,n'+1,_,xs++[(p.1+1,p.2+r)],Le ln 1,by rw[gV];exact Le lx 1,by rw[q_];rfl,rfl⟩
   rintro _ _ ⟨c',n',z,xs,ln,lx,rfl,rfl⟩;rw[a_]at lx ln;nofun;exact⟨by lia,c',n',_,_,_,qs++xs,_,by lia,by rw[gV];lia,by rw[q_]⟩
  nofun;exact⟨c2,n2,_,_,_,qs,_,by lia,by lia,rfl⟩
 clear l2 l3;rintro _ ⟨c2,n2,o,u,b,qs,z5,l2,l3,rfl⟩;refine dq (Wb n ps way l 5300 6600) ?_ ?_
 ·nofun;refine aF (fun h=>?_) (fun h=>?_)
  ·nofun;obtain⟨rs,lr,er⟩:=Av (ps:=qs) none (some 1);rw[er,a_,oV];exact⟨by lia,rfl,c2,n2,_,_,_,qs++rs,_,l2,by rw[gV];lia,by rw[q_]⟩
  nofun;exact⟨c2,n2,_,_,_,qs,_,by omega,by lia,rfl⟩
 clear l2 l3;rintro _ ⟨c2,n2,o,u,b,qs,z5,l2,l3,rfl⟩;refine dq (Wb n ps way l 5301 6600) ?_ ?_
 ·nofun;refine aF (fun h=>?_) (fun h=>?_)
  ·nofun;walk_at "take";intro r c3 a3 b3;nofun;obtain⟨rs,lr,er⟩:=Av (ps:=qs) none (some r);exact⟨c3,n2+1,_,_,_,rs,_,by lia,by lia,by rw[er]⟩
  nofun;exact⟨c2,n2,_,_,_,qs,_,by lia,by omega,rfl⟩
 clear l2 l3;rintro _ ⟨c2,n2,o,u,b,qs,z5,l2,l3,rfl⟩;refine dq (Wb n ps way l 5301 6600) ?_ ?_
 ·nofun;refine aF (fun h=>?_) (fun h=>?_)
  ·nofun;refine aJ (by rw[a_,sizeLine_eq];lia) (fun i acc ie=>∃(z y:T) (xs:List Pt),xs.length<=i/\acc=xs.map ptP/\ie=[z,y]) ⟨_,_,[],b_ _,rfl,rfl⟩ ?_ ?_
   ·rintro i t _ _ ⟨z,y,xs,lx,rfl,rfl⟩ ei;obtain⟨p,ep,rfl⟩:=aQ ei;nofun;exact⟨_,_,xs++[(p.1+1,p.2)],by rw[gV];exact Le lx 1,by rw[q_];rfl,rfl⟩
   rintro _ _ ⟨z,y,xs,lx,rfl,rfl⟩;rw[a_]at lx;nofun;exact⟨c2,n2,_,_,_,xs,_,by omega,by lia,rfl⟩
  nofun;exact⟨c2,n2,_,_,_,qs,_,by omega,by omega,rfl⟩
 clear l2 l3;rintro _ ⟨c2,n2,o,u,b,qs,z5,l2,l3,rfl⟩;refine dq (Wb n ps way l 5302 20000) ?_ ?_
 ·nofun;refine aF (fun h=>?_) (fun h=>?_)
  ·nofun;walk_at "take";intro r c3 a3 b3;nofun;obtain⟨rs,lr,er⟩:=Av (ps:=qs) (some r) (some (r+1));rw[er,yY];refine aJ (by rw[a_,sizeLine_eq];lia) (fun i acc ie=>∃(z y:T) (xs:List Pt),xs.length<=i/\acc=xs.map ptP/\ie=[z,y]) ⟨_,_,[],b_ _,rfl,rfl⟩ ?_ ?_
   ·rintro i t _ _ ⟨z,y,xs,lx,rfl,rfl⟩ ei;obtain⟨p,ep,rfl⟩:=aQ ei;nofun;exact⟨_,_,xs++[(p.1,p.2-1)],by rw[gV];exact Le lx 1,by rw[q_];rfl,rfl⟩
   rintro _ _ ⟨z,y,xs,lx,rfl,rfl⟩;rw[a_]at lx;nofun;obtain⟨ys,ly,ey⟩:=Av (ps:=qs) none (some r);obtain⟨us,lu,eu⟩:=Av (ps:=qs) (some (r+1)) none;rw[ey,eu,<-q_,<-q_,a_,a_,a_,oV,oV,gV];exact⟨by lia,by lia,rfl,c3,n2+1,_,_,_,ys++xs++us,_,by lia,by rw[gV,gV];lia,rfl⟩
  nofun;exact⟨c2,n2,_,_,_,qs,_,by lia,by lia,rfl⟩
 clear l2 l3;rintro _ ⟨c2,n2,o,u,b,qs,z5,l2,l3,rfl⟩;refine dq (Wb n ps way l 5306 20000) ?_ ?_
 ·nofun;refine Eg ?_;nofun;refine aF (fun h=>?_) (fun h=>?_)
  ·nofun;walk_at "take";intro r c3 a3 b3;nofun;refine aF (fun h2=>?_) (fun h2=>?_)
   ·nofun;walk_at "take";intro r1 c4 a4 b4;nofun;walk_at "take";intro r2 c5 a5 b5;nofun;exact⟨c5,n2+1+1+1,_,_,_,[(r1,r2)],_,by lia,by rw[Mw];decide,rfl⟩
   nofun;exact⟨c3,n2+1,_,_,_,qs,_,by lia,by omega,rfl⟩
  nofun;exact⟨c2,n2,_,_,_,qs,_,by lia,by omega,rfl⟩
 clear l2 l3;rintro _ ⟨c2,n2,o,u,b,qs,z5,l2,l3,rfl⟩;nofun;refine⟨c2,n2,_,qs,rfl,by lia,by lia,fun c' n' rs z ln pm=>?_⟩;nofun;exact q c' n' rs _ (by lia) (by rw[pm.length_eq];exact l3)
theorem BS:FnScope ["_law_script","_law_state","_law_turn","_law_wide","_law_high","_law_region","_law_tool_here","_law_offsets","_law_spots","_law_whole","_law_quarters","_law_again","_law_points","_law_handed","_law_kept","_law_due","_law_third","_law_found"] ["_law_script"] (az kj):=⟨rfl,rfl,rfl,by rfl',rfl,by rfl',by rfl'⟩
theorem GD(F:Fun K "law" "law" kj f fd)(TX:Txt mg)  (u8:Cal P w K mg base 7 "is_covering" ["region","tool","points"] (aI K 3 kX))(o0:Cal P w K mg base 1 "_law_begin" ["_law_script"] (aI K 1 (sI K)))(Cl:Cal P w K mg base 1 "_law_take" ["_law_state","_law_many"] (aI K 2 kq))(Da:Cal P w K mg base 2 "_law_tool" ["_law_state","_law_most"] (aI K 2 Dc))(wl:Cal P w K mg base 2 "_law_mark" ["_law_tool_here","_law_corner"] (aI K 2 CT))(zn:Cal P w K mg base 3 "_law_pocket" ["_law_state","_law_x","_law_y","_law_wide","_law_high"] (aI K 5 vK))(v4:Cal P w K mg base 2 "_law_centres" ["_law_region","_law_offsets"] (aI K 2 pX))(wf:Cal P w K mg base 1 "_law_marked" ["_law_offsets","_law_corners_here"] (aI K 2 rP))(pi:Cal P w K mg base 4 "_law_corners" ["_law_state","_law_spots"] (aI K 2 qN)):FnOk P w K mg base CX0 8 f fd ["_law_script"] (aI K 1 (Dw K)):=by
 refine cB F BS [true] rfl (fun cdv A outer s H E hr=>?_);have sc:=@BS;have nd1:(["_law_point"]:List Str).Nodup:=by rfl'
 have nd2:(["_law_quarter"]:List Str).Nodup:=by rfl'
 refine⟨_,(bJ (ax (i:=1) sc.nd (by rfl) (d_ rfl) (by rfl) (aB (av o0 hr (by rfl) (ai (ae 0) aw)))) (ah (bB OQ (by rfl) (fJ (by rfl) TX.range (aa (ag aq ge_int (av Cl hr (by rfl) (aH 1 (ai ge_int aw)))) af)) (au (i:=2) sc.nd (by rfl) (d_ rfl) (by rfl)) (ah (mY (i:=3) (j:=4) (by rfl) sc.nd (by rfl) (by rfl) (by decide) (by rfl) (by rfl) (by rfl) (by rfl) (aa (ag aq ge_int (av Cl hr (by rfl) (aH 1 (ai ge_int aw)))) (aa (ag aq ge_int (av Cl hr (by rfl) (aH 1 (ai ge_int aw)))) af)) (by rfl)) (bJ (dv (bj (cE hr) (av Cl hr (by rfl) (aH 1 (ai ge_int aw))) ge_int (aN _)) (aj (mY (i:=3) (j:=4) (by rfl) sc.nd (by rfl) (by rfl) (by decide) (by rfl) (by rfl) (by rfl) (by rfl) (aa (ag aq ge_int (av Cl hr (by rfl) (aH 1 (ai ge_int aw)))) (aa ge_int af)) (by rfl))) ba) (ah (ax (i:=5) sc.nd (by rfl) (d_ rfl) (by rfl) (av zn hr (by rfl) (aH 1 (ai (ag aP (av Cl hr (by rfl) (aH 1 (ai ge_int aw))) ge_int) (ai (ag aP (av Cl hr (by rfl) (aH 1 (ai ge_int aw))) ge_int) (ai (bg 3) (ai (bg 4) aw))))))) (ah (ax (i:=6) sc.nd (by rfl) (d_ rfl) (by rfl) (av Da hr (by rfl) (aH 1 (ai (aA hr (aB (aW (aa ge_int (aa ge_int (aa ge_int (aa ge_int (aa ge_int af))))))) (av Cl hr (by rfl) (aH 1 (ai ge_int aw)))) aw)))) (ah (ax (i:=7) sc.nd (by rfl) (d_ rfl) (by rfl) (bD (vA rfl) (by rfl) TX.list (by rfl') (aa (aB (av wl hr (by rfl) (ai (ae 6) (ai (ay (aa ge_int (aa ge_int af))) aw)))) af))) (ah (ax (i:=8) sc.nd (by rfl) (d_ rfl) (by rfl) (aB (av v4 hr (by rfl) (ai (ae 5) (ai (ae 7) aw))))) (ah (ax (i:=9) sc.nd (by rfl) (d_ rfl) (by rfl) (aB (av wf hr (by rfl) (ai (ae 7) (ai (ae 8) aw))))) (ah (ax (i:=10) sc.nd (by rfl) (d_ rfl) (by rfl) (aA hr (aB (aW (aa (aK (il (by rfl)) (by rfl) TX.sorted (by rfl') (aa (ae 5) af)) (aa (wV (by rfl) (by rfl) TX.list (by rfl) TX.reversed (aK (il (by rfl)) (by rfl) TX.sorted (by rfl') (aa (ae 5) af))) af)))) (av Cl hr (by rfl) (aH 1 (ai ge_int aw))))) (aj (bB OQ (by rfl) (fJ (by rfl) TX.range (aa ge_int af)) (au (i:=11) sc.nd (by rfl) (d_ rfl) (by rfl)) (ah (ax (i:=12) sc.nd (by rfl) (d_ rfl) (by rfl) (av pi hr (by rfl) (aH 1 (ai (bg 8) aw)))) (ah (ax (i:=13) sc.nd (by rfl) (d_ rfl) (by rfl) (aW (aa (bD fR (by rfl) TX.list (by rfl') (aa (bg 10) af)) (aa (bD fR (by rfl) TX.list (by rfl') (aa (bg 12) af)) af)))) (bJ (dv (bj (cE hr) (av Cl hr (by rfl) (aH 1 (ai ge_int aw))) ge_int (aN _)) (aj (ax (i:=13) sc.nd (by rfl) (d_ rfl) (by rfl) (aW (aa (aB (bT sc ["_law_quarter"] [none] nd2 (by rfl') (aX (ae 10)) (fun _ _ _=>(au (i:=0) nd2 (by rfl) (d_ rfl) (by rfl) (hf:=(j_ rfl)))) (fun _ _ _=>bI) (fun _ _ _=>(bD fR (by rfl) TX.list (by rfl') (aa (ae 0) af))))) (aa (aB (bT sc ["_law_point"] [none] nd1 (by rfl') (aX (ae 12)) (fun _ _ _=>(au (i:=0) nd1 (by rfl) (d_ rfl) (by rfl) (hf:=(j_ rfl)))) (fun _ _ _=>bI) (fun _ _ _=>(bD fR (by rfl) TX.list (by rfl') (aa (ae 0) af))))) af))))) ba) (ah (ax (i:=14) sc.nd (by rfl) (d_ rfl) (by rfl) (aW (aa (bD fR (by rfl) TX.list (by rfl') (aa (aA hr (bg 13) ge_int) af)) (aa (bD fR (by rfl) TX.list (by rfl') (aa (aA hr (bg 13) ge_int) af)) af)))) (ah (ax (i:=15) sc.nd (by rfl) (d_ rfl) (by rfl) (aB (jO (zI hr) (av wf hr (by rfl) (ai (ae 7) (ai (ae 12) aw))) (ae 9) (aN _)))) (aj (bB OQ (by rfl) (fJ (by rfl) TX.range (aa ge_int af)) (au (i:=16) sc.nd (by rfl) (d_ rfl) (by rfl)) (ah (ax (i:=17) sc.nd (by rfl) (d_ rfl) (by rfl) (aB (av u8 hr (by rfl) (ai (aA hr (ae 13) ge_int) (ai (ae 6) (ai (aA hr (ae 13) ge_int) aw)))))) (aj (dv (iF (G3 (FV (HJ (lJ (aK wK (by rfl) TX.isinstance (by rfl') (aa (ae 17) (aa (IZ (n:="bool") (by rfl) TX.bool (by rfl')) af))))) (FV (bj (sG hr) (ae 17) (ae 15) (aN _)) (Hq (bj (sG hr) (ae 13) (ae 14) (aN _))))))) (aj (aM iZ)) ba))))))))))))))))))))) (aj (aM iZ)))),fun ts kk hl hp=>?_⟩;clear hl;obtain⟨t,ns,rfl,hs,hn,q⟩:=hp;refine dq (fun env=>∃z c,env=[z,stT c 0,.any,.any,.any,.any,.any,.any,.any,.any,.any,.any,.any,.any,.any,.any,.any,.any]) ?_ ?_
 ·nofun;obtain⟨e,i⟩:=HI hs;rw[e];exact⟨i,t,ns,rfl,hs,hn,fun c=>⟨AV,_,c,rfl⟩⟩
 rintro _ ⟨z,c,rfl⟩;nofun;walk_at "take";intro r c1 a1 b1;nofun;refine⟨by lia,aR (fun i env=>Wl z (1+200000*i) env) ⟨c1,1,_,_,_,_,_,_,_,_,_,_,_,_,_,_,_,_,by decide,rfl⟩ ?_ ?_⟩
 ·rintro i t _ ⟨c,n,z2,z3,z4,z5,z6,z7,z8,z9,z10,z11,z12,z13,z14,z15,z16,z17,hn,rfl⟩ ei;have hi:=fV ei;nofun;walk_at "take";intro r3 c2 a2 b2;nofun;walk_at "take";intro r4 c3 a3 b3;nofun;refine dq (fun env=>∃(c:Cells) (n':Nat) (wd hg:Int),n'<=n+4/\(9<=wd/\wd<=16/\8<=hg/\hg<=12)/\env=[z,stT c n',t,.int wd,.int hg,z5,z6,z7,z8,z9,z10,z11,z12,z13,z14,z15,z16,z17]) ?_ ?_
  ·nofun;walk_at "take";intro r5 c4 a4 b4;nofun;refine aF (fun g=>?_) (fun g=>?_)
   ·nofun;walk_at "take";intro r6 c5 a5 b5;nofun;exact⟨c5,n+1+1+1+1,_,_,by lia,⟨by lia,by lia,by lia,by lia⟩,rfl⟩
   nofun;exact⟨c4,n+1+1+1,_,_,by lia,⟨by lia,by lia,by lia,by lia⟩,rfl⟩
  rintro _ ⟨c4,n4,wd,hg,l4,hb,rfl⟩;nofun;walk_at "take";intro x c5 a5 b5;nofun;walk_at "take";intro y c6 a6 b6;nofun;refine⟨c6,n4+1+1,x-15,y-15,wd,hg,rfl,by lia,⟨by lia,by lia⟩,⟨by lia,by lia⟩,⟨by lia,by lia,by lia,by lia⟩,fun c7 n7 qs y1 y2 y3 y4 l7 u1 u2 u3=>?_⟩;nofun;walk_at "take";intro r7 c8 a8 b8;nofun;obtain⟨m,em,m0⟩:=n5 (fun v=>2<=v/\v<=4) (ns:=[2,2,3,3,4]) (i:=r7) a8 (by show r7<5;omega) (by intro v hv;simp only[h_,Ld,or_false]at hv;lia)
  refine cK em ?_;nofun;refine⟨c8,n7+1,m,rfl,by lia,m0.1,m0.2,fun c9 tl ht=>?_⟩;nofun;refine⟨false,false,tl,rfl,ht,?_⟩;nofun;refine F2 ?_;nofun;refine⟨_,_,nrQ tl,qs,x-15,y-15,rfl,u2,u3,Hs ht,fun u o ps p1 p2 p3=>?_⟩;nofun;refine⟨_,_,nrQ tl,ps,rfl,xf ht,by lia,fun y1=>?_⟩;nofun;have pb:∀q∈ps,bdP 1000 q:=fun p mp=>by have g:=(p3 p).mp mp (0,0,0) (Hs ht);obtain⟨g1,g2,_⟩:=u2 _ g;unfold bR mvQ at g1 g2;dsimp only at g1 g2;exact⟨⟨by lia,by lia⟩,by lia,by lia⟩
  refine tD (lZ qs) (mF qs) (oG u1) ?_;rw[xI u1,m7];nofun;refine tD (lZ qs) (mF qs) (oG u1) ?_;rw[xI u1,m7];nofun;refine⟨by rw[<-M8];exact Cu _,?_⟩;walk_at "take";intro r8 c10 a10 b10;nofun;obtain⟨rs,er,r1,r2,r3,r4⟩:=CM u1 a10 b10;refine cK er ?_;clear er;nofun;refine⟨by decide,aR (fun j env=>∃(c:Cells) (n':Nat) (v5 v6 v7 v8 v9 v10:Bool) (z11 z12 z13 z14 z15 z16 z17:T),n'<=n+1100+40000*j/\env=[z,stT c n',t,.int wd,.int hg,.dT v5 (dQ qs),tlT false v6 tl,.lst v7 ((nrQ tl).map qtT),.lst v8 (ps.map ptP),.dT v9 (dQ (iM (nrQ tl) ps)),.lst v10 (rs.map qtT),z11,z12,z13,z14,z15,z16,z17]) ⟨c10,n7+1+5+1,_,_,_,_,_,_,_,_,_,_,_,_,_,by lia,rfl⟩ ?_ ?_⟩
  ·rintro j t11 _ ⟨c11,n11,v5,v6,v7,v8,v9,v10,z11,z12,z13,z14,z15,z16,z17,l11,rfl⟩ ej;have hj:=fV ej;nofun;refine⟨c11,n11,_,ps,rfl,by lia,p1,p2,pb,fun c12 n12 xs o2 l12 lx=>?_⟩;nofun;refine dq (fun env=>∃(c:Cells) (n':Nat) (b v10 v12:Bool),n'<=n12+1/\env=[z,stT c n',t,.int wd,.int hg,.dT v5 (dQ qs),tlT false v6 tl,.lst v7 ((nrQ tl).map qtT),.lst false (ps.map ptP),.dT v9 (dQ (iM (nrQ tl) ps)),.lst v10 (rs.map qtT),t11,.lst v12 (xs.map ptP),.lst true [.lst true (rs.map (qbT b true)),.lst true (xs.map (cbT b true))],z14,z15,z16,z17]) ?_ ?_
   ·nofun;walk_at "take";intro r9 c13 a13 b13;nofun;refine aF (fun g=>?_) (fun g=>?_)
    ·nofun;refine aJ (by rw[a_,sizeLine_eq];lia) (fun i acc ie=>∃z,acc=(rs.take i).map (qbT true true)/\ie=[z]) ⟨_,rfl,rfl⟩ ?_ ?_
     ·rintro i u _ _ ⟨z,rfl,rfl⟩ ei;obtain⟨q,eq,rfl⟩:=aQ ei;nofun;exact⟨_,by rw[map_take eq];rfl,rfl⟩
     rintro _ _ ⟨_,rfl,rfl⟩;rw[a_,t_];nofun;refine⟨KW.mpr fun _ _=>rfl,?_⟩;refine aJ (by rw[a_,sizeLine_eq];lia) (fun i acc ie=>∃z,acc=(xs.take i).map (cbT true true)/\ie=[z]) ⟨_,rfl,rfl⟩ ?_ ?_
     ·rintro i u _ _ ⟨z,rfl,rfl⟩ ei;obtain⟨p,ep,rfl⟩:=aQ ei;nofun;exact⟨_,by rw[map_take ep];rfl,rfl⟩
     rintro _ _ ⟨_,rfl,rfl⟩;rw[a_,t_];nofun;exact⟨KW.mpr fun _ _=>rfl,c13,n12+1,true,_,_,by lia,rfl⟩
    nofun;exact⟨c13,n12+1,false,_,_,by lia,rfl⟩
   rintro _ ⟨c13,n13,b,v10,v12,l13,rfl⟩;nofun;refine⟨_,_,nrQ tl,xs,rfl,xf ht,by lia,fun y1=>?_⟩;nofun;refine FU xS xS ?_;nofun;refine⟨by decide,aR (fun i env=>∃z16 z17,env=[z,stT c13 n13,t,.int wd,.int hg,.dT v5 (dQ qs),tlT false v6 tl,.lst v7 ((nrQ tl).map qtT),.lst false (ps.map ptP),.dT v9 (dQ (iM (nrQ tl) ps)),.lst v10 (rs.map qtT),t11,.lst v12 (xs.map ptP),.lst false [.lst false (rs.map (qbT b false)),.lst false (xs.map (cbT b false))],.lst true [.lst true (rs.map (qbT b false)),.lst true (xs.map (cbT b false))],.bl (uO (iM (nrQ tl) xs) (iM (nrQ tl) ps)),z16,z17]) ⟨_,_,rfl⟩ ?_ ?_⟩
   ·rintro i t16 _ ⟨z16,z17,rfl⟩ ei;nofun;refine⟨false,false,b,false,false,false,false,b,false,rs,tl,xs,rfl,r1,r2,by lia,ht,by lia,fun cs hc y1 y2 y3=>?_⟩;rw[En (ps:=ps) fun p=>(hc p).trans ((Ge r4 (Hs ht) p).trans (p3 p).symm)];nofun;refine cK rfl ?_;nofun;refine yg rfl ?_;nofun;refine yg (beq_self_eq_true _) ?_;nofun;refine JQ ?_;nofun;exact⟨_,_,rfl⟩
   rintro _ ⟨z16,z17,rfl⟩;exact⟨c13,n13,_,_,_,_,_,_,_,_,_,_,_,_,_,by lia,rfl⟩
  rintro _ ⟨c11,n11,v5,v6,v7,v8,v9,v10,z11,z12,z13,z14,z15,z16,z17,l11,rfl⟩;rw[de]at l11;exact⟨c11,n11,_,_,_,_,_,_,_,_,_,_,_,_,_,_,_,_,by lia,rfl⟩
 rintro _ ⟨c',n',z2,z3,z4,z5,z6,z7,z8,z9,z10,z11,z12,z13,z14,z15,z16,z17,hn,rfl⟩;nofun;exact q _
end
variable {α:Type}
theorem ar0{P:List α->Prop}(h:P []):∀us:List α,us.length=0->P us:=fun us e=>by
 cases us with
 |nil=>exact h
 |cons a r=>cases e
theorem ar1{P:List α->Prop}(h:∀a0,P [a0]):∀us:List α,us.length=1->P us:=fun us e=>by
 cases us with
 |nil=>cases e
 |cons a0 r=>exact ar0 (P:=fun r=>P (a0::r)) (h a0) r (LG e)
theorem ar2{P:List α->Prop}(h:∀a0 a1,P [a0,a1]):∀us:List α,us.length=2->P us:=fun us e=>by
 cases us with
 |nil=>cases e
 |cons a0 r=>exact ar1 (P:=fun r=>P (a0::r)) (h a0) r (LG e)
theorem ar3{P:List α->Prop}(h:∀a0 a1 a2,P [a0,a1,a2]):∀us:List α,us.length=3->P us:=fun us e=>by
 cases us with
 |nil=>cases e
 |cons a0 r=>exact ar2 (P:=fun r=>P (a0::r)) (h a0) r (LG e)
theorem ar4{P:List α->Prop}(h:∀a0 a1 a2 a3,P [a0,a1,a2,a3]):∀us:List α,us.length=4->P us:=fun us e=>by
 cases us with
 |nil=>cases e
 |cons a0 r=>exact ar3 (P:=fun r=>P (a0::r)) (h a0) r (LG e)
theorem ar5{P:List α->Prop}(h:∀a0 a1 a2 a3 a4,P [a0,a1,a2,a3,a4]):∀us:List α,us.length=5->P us:=fun us e=>by
 cases us with
 |nil=>cases e
 |cons a0 r=>exact ar4 (P:=fun r=>P (a0::r)) (h a0) r (LG e)
theorem walk{l:SO}{q:OI}{loose:List Str}{XP:(Str->Option Oy)->OM->Prop}{YP:OK->OM->Prop}{d:DefRec}{K:Ss->OA}(hn:l.most=some 63)(hdf:d.params.defaults=[])
  (hY:∀(w:OK) (h:OM),YP w h->(K w.params).In h)
  (F:∀(w:OK) (mg:Str->Option Oy) (fa:Oz) (h:OM),(K w.params).In h->h.Ns Pu mg->mg d.name=some (.ref fa)->
   ∃fd:OR,(∀(s:OB) (u:Oy),S8 s fd ⟨[u],[]⟩ [("_law_script",u)])/\∀base:OM,(K w.params).In base->base.Ns Pu mg->FnOk l.prog w (K w.params) mg base CX0 8 fa fd ["_law_script"] (zq (K w.params))) :
  Vw q loose XP YP l.row.toRowW d [] (fun f vs=>UU f vs):=
 L2.DR (n:=63) (k:=8) (x:="_law_script") (CX:=fun _=>CX0) (sp:=fun w=>zq (K w.params)) hn (by decide) hdf ⟨rfl,by decide,by decide,rfl⟩ hY F (fun _ _ a ns hl _ hS=>⟨a,ns,rfl,hS,hl,fun _=>rfl⟩) fun _ _ _ _ _ z=>z
noncomputable def kd(P:Ss) (x:Str) (t:Tok) (v:Oy):Qp:=⟨PyData.keyHash P x,.str x t,v⟩
def kf(n:Str) (s:OY) (m:Oy) (c:Oz):Obj:=⟨.type "function",none,.func (Qn n n (iU s) (ip s) (az s) .none .none .none m none (.ref c) .none),#[]⟩
def KK(P:Ss):OA:=[(3,⟨.type "dict",none,.dict #[kd P "__name__" 165 (.str "law_millpath_k26_coverings" 341),kd P "__doc__" 166 (.none),kd P "__package__" 167 (.none),kd P "__loader__" 168 (.builtin "__main__.__loader__#opaque"),kd P "__spec__" 169 (.none),kd P "__annotations__" 170 (.ref 6),kd P "__builtins__" 171 (.ref 4),kd P "__file__" 173 (.str "/claim/cut.py" 172),kd P "__cached__" 174 (.none),kd P "INNER" 197 (.ref 19),kd P "inner_point" 205 (.ref 26),kd P "octo_of" 213 (.ref 31),kd P "added" 219 (.ref 36),kd P "moved" 227 (.ref 43),kd P "quarters_in" 233 (.ref 48),kd P "is_flat" 240 (.ref 55),kd P "holds" 251 (.ref 62),kd P "mark_of" 263 (.ref 69),kd P "near_quarters" 272 (.ref 76),kd P "laid" 278 (.ref 81),kd P "fits" 292 (.ref 88),kd P "marked" 304 (.ref 95),kd P "noted" 313 (.ref 102),kd P "centres" 321 (.ref 107),kd P "reached_in" 329 (.ref 114),kd P "is_covering" 340 (.ref 121),kd P "_law_begin" 350 (.ref 128),kd P "_law_take" 363 (.ref 135),kd P "_law_box" 369 (.ref 140),kd P "_law_angled" 375 (.ref 145),kd P "_law_outline" 381 (.ref 150),kd P "_law_tool" 391 (.ref 157),kd P "_law_mark" 403 (.ref 164),kd P "_law_in_mark" 409 (.ref 169),kd P "_law_inside" 415 (.ref 174),kd P "_law_crossed" 431 (.ref 181),kd P "_law_pocket" 448 (.ref 188),kd P "_law_centres" 454 (.ref 193),kd P "_law_stands" 466 (.ref 200),kd P "_law_marked" 480 (.ref 207),kd P "_law_depth" 489 (.ref 214),kd P "_law_rim_there" 502 (.ref 221),kd P "_law_depths" 508 (.ref 226),kd P "_law_shuffled" 518 (.ref 233),kd P "_law_corners" 524 (.ref 238),kd P "law" 530 (.ref 243)] 46,#[]⟩),(26,kf "inner_point" jq (.str "millpath.corners" 187) 25),(25,⟨.type "code",none,.fields #[.str "inner_point" 198,.str "inner_point" 199,.str "/claim/cut.py" 200,.int (3) 0,.int (1) 0,.int (0) 0,.int (0) 0,.int (3) 0,.ref 20,.bool true,.int (181) 0,.ref 21,.none,.ref 22,.ref 23,.ref 24,.int (203) 0,.int (3) 0,.str "/claim/cut.py" 204],#[]⟩),(31,kf "octo_of" mV (.str "millpath.octos" 206) 30),(30,⟨.type "code",none,.fields #[.str "octo_of" 208,.str "octo_of" 209,.str "/claim/cut.py" 210,.int (7) 0,.int (1) 0,.int (0) 0,.int (0) 0,.int (3) 0,.ref 27,.bool true,.int (181) 0,.ref 28,.none,.none,.none,.ref 29,.int (211) 0,.int (7) 0,.str "/claim/cut.py" 212],#[]⟩),(36,kf "added" sf (.str "millpath.octos" 206) 35),(35,⟨.type "code",none,.fields #[.str "added" 214,.str "added" 215,.str "/claim/cut.py" 216,.int (13) 0,.int (2) 0,.int (0) 0,.int (0) 0,.int (3) 0,.ref 32,.bool true,.int (181) 0,.ref 33,.none,.none,.none,.ref 34,.int (217) 0,.int (13) 0,.str "/claim/cut.py" 218],#[]⟩),(43,kf "moved" u7 (.str "millpath.octos" 206) 42),(42,⟨.type "code",none,.fields #[.str "moved" 220,.str "moved" 221,.str "/claim/cut.py" 222,.int (15) 0,.int (2) 0,.int (0) 0,.int (0) 0,.int (3) 0,.ref 37,.bool true,.int (181) 0,.ref 38,.none,.ref 39,.ref 40,.ref 41,.int (225) 0,.int (15) 0,.str "/claim/cut.py" 226],#[]⟩),(48,kf "quarters_in" jm (.str "millpath.octos" 206) 47),(47,⟨.type "code",none,.fields #[.str "quarters_in" 228,.str "quarters_in" 229,.str "/claim/cut.py" 230,.int (17) 0,.int (1) 0,.int (0) 0,.int (0) 0,.int (3) 0,.ref 44,.bool true,.int (181) 0,.ref 45,.none,.none,.none,.ref 46,.int (231) 0,.int (17) 0,.str "/claim/cut.py" 232],#[]⟩),(55,kf "is_flat" mX (.str "millpath.octos" 206) 54),(54,⟨.type "code",none,.fields #[.str "is_flat" 234,.str "is_flat" 235,.str "/claim/cut.py" 236,.int (27) 0,.int (1) 0,.int (0) 0,.int (0) 0,.int (3) 0,.ref 49,.bool true,.int (181) 0,.ref 50,.none,.ref 51,.ref 52,.ref 53,.int (238) 0,.int (27) 0,.str "/claim/cut.py" 239],#[]⟩),(62,kf "holds" sO (.str "millpath.octos" 206) 61),(61,⟨.type "code",none,.fields #[.str "holds" 241,.str "holds" 242,.str "/claim/cut.py" 243,.int (29) 0,.int (2) 0,.int (0) 0,.int (0) 0,.int (3) 0,.ref 56,.bool true,.int (181) 0,.ref 57,.none,.ref 58,.ref 59,.ref 60,.int (249) 0,.int (29) 0,.str "/claim/cut.py" 250],#[]⟩),(69,kf "mark_of" nP (.str "millpath.tools" 252) 68),(68,⟨.type "code",none,.fields #[.str "mark_of" 254,.str "mark_of" 255,.str "/claim/cut.py" 256,.int (35) 0,.int (2) 0,.int (0) 0,.int (0) 0,.int (3) 0,.ref 63,.bool true,.int (181) 0,.ref 64,.none,.ref 65,.ref 66,.ref 67,.int (261) 0,.int (35) 0,.str "/claim/cut.py" 262],#[]⟩),(76,kf "near_quarters" iB (.str "millpath.marks" 264) 75),(75,⟨.type "code",none,.fields #[.str "near_quarters" 266,.str "near_quarters" 267,.str "/claim/cut.py" 268,.int (40) 0,.int (1) 0,.int (0) 0,.int (0) 0,.int (3) 0,.ref 70,.bool true,.int (181) 0,.ref 71,.none,.ref 72,.ref 73,.ref 74,.int (270) 0,.int (40) 0,.str "/claim/cut.py" 271],#[]⟩),(81,kf "laid" wW (.str "millpath.marks" 264) 80),(80,⟨.type "code",none,.fields #[.str "laid" 273,.str "laid" 274,.str "/claim/cut.py" 275,.int (42) 0,.int (2) 0,.int (0) 0,.int (0) 0,.int (3) 0,.ref 77,.bool true,.int (181) 0,.ref 78,.none,.none,.none,.ref 79,.int (276) 0,.int (42) 0,.str "/claim/cut.py" 277],#[]⟩),(88,kf "fits" wY (.str "millpath.marks" 264) 87),(87,⟨.type "code",none,.fields #[.str "fits" 279,.str "fits" 280,.str "/claim/cut.py" 281,.int (46) 0,.int (3) 0,.int (0) 0,.int (0) 0,.int (3) 0,.ref 82,.bool true,.int (181) 0,.ref 83,.none,.ref 84,.ref 85,.ref 86,.int (290) 0,.int (46) 0,.str "/claim/cut.py" 291],#[]⟩),(95,kf "marked" pJ (.str "millpath.marks" 264) 94),(94,⟨.type "code",none,.fields #[.str "marked" 293,.str "marked" 294,.str "/claim/cut.py" 295,.int (53) 0,.int (2) 0,.int (0) 0,.int (0) 0,.int (3) 0,.ref 89,.bool true,.int (181) 0,.ref 90,.none,.ref 91,.ref 92,.ref 93,.int (302) 0,.int (53) 0,.str "/claim/cut.py" 303],#[]⟩),(102,kf "noted" t6 (.str "millpath.marks" 264) 101),(101,⟨.type "code",none,.fields #[.str "noted" 305,.str "noted" 306,.str "/claim/cut.py" 307,.int (60) 0,.int (1) 0,.int (0) 0,.int (0) 0,.int (3) 0,.ref 96,.bool true,.int (181) 0,.ref 97,.none,.ref 98,.ref 99,.ref 100,.int (311) 0,.int (60) 0,.str "/claim/cut.py" 312],#[]⟩),(107,kf "centres" nQ (.str "millpath.reach" 314) 106),(106,⟨.type "code",none,.fields #[.str "centres" 316,.str "centres" 317,.str "/claim/cut.py" 318,.int (66) 0,.int (2) 0,.int (0) 0,.int (0) 0,.int (3) 0,.ref 103,.bool true,.int (181) 0,.ref 104,.none,.none,.none,.ref 105,.int (319) 0,.int (66) 0,.str "/claim/cut.py" 320],#[]⟩),(114,kf "reached_in" jC (.str "millpath.reach" 314) 113),(113,⟨.type "code",none,.fields #[.str "reached_in" 322,.str "reached_in" 323,.str "/claim/cut.py" 324,.int (71) 0,.int (2) 0,.int (0) 0,.int (0) 0,.int (3) 0,.ref 108,.bool true,.int (181) 0,.ref 109,.none,.ref 110,.ref 111,.ref 112,.int (327) 0,.int (71) 0,.str "/claim/cut.py" 328],#[]⟩),(121,kf "is_covering" jo (.str "millpath.rings" 330) 120),(120,⟨.type "code",none,.fields #[.str "is_covering" 332,.str "is_covering" 333,.str "/claim/cut.py" 334,.int (74) 0,.int (3) 0,.int (0) 0,.int (0) 0,.int (3) 0,.ref 115,.bool true,.int (181) 0,.ref 116,.none,.ref 117,.ref 118,.ref 119,.int (338) 0,.int (74) 0,.str "/claim/cut.py" 339],#[]⟩),(128,kf "_law_begin" oD (.str "law_millpath_k26_coverings" 341) 127),(127,⟨.type "code",none,.fields #[.str "_law_begin" 343,.str "_law_begin" 344,.str "/claim/cut.py" 345,.int (77) 0,.int (1) 0,.int (0) 0,.int (0) 0,.int (3) 0,.ref 122,.bool true,.int (181) 0,.ref 123,.none,.ref 124,.ref 125,.ref 126,.int (348) 0,.int (77) 0,.str "/claim/cut.py" 349],#[]⟩),(135,kf "_law_take" sY (.str "law_millpath_k26_coverings" 341) 134),(134,⟨.type "code",none,.fields #[.str "_law_take" 351,.str "_law_take" 352,.str "/claim/cut.py" 353,.int (82) 0,.int (2) 0,.int (0) 0,.int (0) 0,.int (3) 0,.ref 129,.bool true,.int (181) 0,.ref 130,.none,.ref 131,.ref 132,.ref 133,.int (361) 0,.int (82) 0,.str "/claim/cut.py" 362],#[]⟩),(140,kf "_law_box" Dx (.str "law_millpath_k26_coverings" 341) 139),(139,⟨.type "code",none,.fields #[.str "_law_box" 364,.str "_law_box" 365,.str "/claim/cut.py" 366,.int (93) 0,.int (5) 0,.int (0) 0,.int (0) 0,.int (3) 0,.ref 136,.bool true,.int (181) 0,.ref 137,.none,.none,.none,.ref 138,.int (367) 0,.int (93) 0,.str "/claim/cut.py" 368],#[]⟩),(145,kf "_law_angled" ql (.str "law_millpath_k26_coverings" 341) 144),(144,⟨.type "code",none,.fields #[.str "_law_angled" 370,.str "_law_angled" 371,.str "/claim/cut.py" 372,.int (98) 0,.int (5) 0,.int (0) 0,.int (0) 0,.int (3) 0,.ref 141,.bool true,.int (181) 0,.ref 142,.none,.none,.none,.ref 143,.int (373) 0,.int (98) 0,.str "/claim/cut.py" 374],#[]⟩),(150,kf "_law_outline" nO (.str "law_millpath_k26_coverings" 341) 149),(149,⟨.type "code",none,.fields #[.str "_law_outline" 376,.str "_law_outline" 377,.str "/claim/cut.py" 378,.int (109) 0,.int (5) 0,.int (0) 0,.int (0) 0,.int (3) 0,.ref 146,.bool true,.int (181) 0,.ref 147,.none,.none,.none,.ref 148,.int (379) 0,.int (109) 0,.str "/claim/cut.py" 380],#[]⟩),(157,kf "_law_tool" xl (.str "law_millpath_k26_coverings" 341) 156),(156,⟨.type "code",none,.fields #[.str "_law_tool" 382,.str "_law_tool" 383,.str "/claim/cut.py" 384,.int (124) 0,.int (2) 0,.int (0) 0,.int (0) 0,.int (3) 0,.ref 151,.bool true,.int (181) 0,.ref 152,.none,.ref 153,.ref 154,.ref 155,.int (389) 0,.int (124) 0,.str "/claim/cut.py" 390],#[]⟩),(164,kf "_law_mark" x9 (.str "law_millpath_k26_coverings" 341) 163),(163,⟨.type "code",none,.fields #[.str "_law_mark" 392,.str "_law_mark" 393,.str "/claim/cut.py" 394,.int (128) 0,.int (2) 0,.int (0) 0,.int (0) 0,.int (3) 0,.ref 158,.bool true,.int (181) 0,.ref 159,.none,.ref 160,.ref 161,.ref 162,.int (401) 0,.int (128) 0,.str "/claim/cut.py" 402],#[]⟩),(169,kf "_law_in_mark" nX (.str "law_millpath_k26_coverings" 341) 168),(168,⟨.type "code",none,.fields #[.str "_law_in_mark" 404,.str "_law_in_mark" 405,.str "/claim/cut.py" 406,.int (136) 0,.int (4) 0,.int (0) 0,.int (0) 0,.int (3) 0,.ref 165,.bool true,.int (181) 0,.ref 166,.none,.none,.none,.ref 167,.int (407) 0,.int (136) 0,.str "/claim/cut.py" 408],#[]⟩),(174,kf "_law_inside" pE (.str "law_millpath_k26_coverings" 341) 173),(173,⟨.type "code",none,.fields #[.str "_law_inside" 410,.str "_law_inside" 411,.str "/claim/cut.py" 412,.int (140) 0,.int (1) 0,.int (0) 0,.int (0) 0,.int (3) 0,.ref 170,.bool true,.int (181) 0,.ref 171,.none,.none,.none,.ref 172,.int (413) 0,.int (140) 0,.str "/claim/cut.py" 414],#[]⟩),(181,kf "_law_crossed" mU (.str "law_millpath_k26_coverings" 341) 180),(180,⟨.type "code",none,.fields #[.str "_law_crossed" 416,.str "_law_crossed" 417,.str "/claim/cut.py" 418,.int (151) 0,.int (2) 0,.int (0) 0,.int (0) 0,.int (3) 0,.ref 175,.bool true,.int (181) 0,.ref 176,.none,.ref 177,.ref 178,.ref 179,.int (429) 0,.int (151) 0,.str "/claim/cut.py" 430],#[]⟩),(188,kf "_law_pocket" pS (.str "law_millpath_k26_coverings" 341) 187),(187,⟨.type "code",none,.fields #[.str "_law_pocket" 432,.str "_law_pocket" 433,.str "/claim/cut.py" 434,.int (163) 0,.int (5) 0,.int (0) 0,.int (0) 0,.int (3) 0,.ref 182,.bool true,.int (181) 0,.ref 183,.none,.ref 184,.ref 185,.ref 186,.int (446) 0,.int (163) 0,.str "/claim/cut.py" 447],#[]⟩),(193,kf "_law_centres" lj (.str "law_millpath_k26_coverings" 341) 192),(192,⟨.type "code",none,.fields #[.str "_law_centres" 449,.str "_law_centres" 450,.str "/claim/cut.py" 451,.int (174) 0,.int (2) 0,.int (0) 0,.int (0) 0,.int (3) 0,.ref 189,.bool true,.int (181) 0,.ref 190,.none,.none,.none,.ref 191,.int (452) 0,.int (174) 0,.str "/claim/cut.py" 453],#[]⟩),(200,kf "_law_stands" pD (.str "law_millpath_k26_coverings" 341) 199),(199,⟨.type "code",none,.fields #[.str "_law_stands" 455,.str "_law_stands" 456,.str "/claim/cut.py" 457,.int (181) 0,.int (3) 0,.int (0) 0,.int (0) 0,.int (3) 0,.ref 194,.bool true,.int (181) 0,.ref 195,.none,.ref 196,.ref 197,.ref 198,.int (464) 0,.int (181) 0,.str "/claim/cut.py" 465],#[]⟩),(207,kf "_law_marked" nV (.str "law_millpath_k26_coverings" 341) 206),(206,⟨.type "code",none,.fields #[.str "_law_marked" 467,.str "_law_marked" 468,.str "/claim/cut.py" 469,.int (186) 0,.int (2) 0,.int (0) 0,.int (0) 0,.int (3) 0,.ref 201,.bool true,.int (181) 0,.ref 202,.none,.ref 203,.ref 204,.ref 205,.int (478) 0,.int (186) 0,.str "/claim/cut.py" 479],#[]⟩),(214,kf "_law_depth" sD (.str "law_millpath_k26_coverings" 341) 213),(213,⟨.type "code",none,.fields #[.str "_law_depth" 481,.str "_law_depth" 482,.str "/claim/cut.py" 483,.int (192) 0,.int (2) 0,.int (0) 0,.int (0) 0,.int (3) 0,.ref 208,.bool true,.int (181) 0,.ref 209,.none,.ref 210,.ref 211,.ref 212,.int (487) 0,.int (192) 0,.str "/claim/cut.py" 488],#[]⟩),(221,kf "_law_rim_there" kE (.str "law_millpath_k26_coverings" 341) 220),(220,⟨.type "code",none,.fields #[.str "_law_rim_there" 490,.str "_law_rim_there" 491,.str "/claim/cut.py" 492,.int (197) 0,.int (3) 0,.int (0) 0,.int (0) 0,.int (3) 0,.ref 215,.bool true,.int (181) 0,.ref 216,.none,.ref 217,.ref 218,.ref 219,.int (500) 0,.int (197) 0,.str "/claim/cut.py" 501],#[]⟩),(226,kf "_law_depths" qf (.str "law_millpath_k26_coverings" 341) 225),(225,⟨.type "code",none,.fields #[.str "_law_depths" 503,.str "_law_depths" 504,.str "/claim/cut.py" 505,.int (204) 0,.int (1) 0,.int (0) 0,.int (0) 0,.int (3) 0,.ref 222,.bool true,.int (181) 0,.ref 223,.none,.none,.none,.ref 224,.int (506) 0,.int (204) 0,.str "/claim/cut.py" 507],#[]⟩),(233,kf "_law_shuffled" lF (.str "law_millpath_k26_coverings" 341) 232),(232,⟨.type "code",none,.fields #[.str "_law_shuffled" 509,.str "_law_shuffled" 510,.str "/claim/cut.py" 511,.int (207) 0,.int (2) 0,.int (0) 0,.int (0) 0,.int (3) 0,.ref 227,.bool true,.int (181) 0,.ref 228,.none,.ref 229,.ref 230,.ref 231,.int (516) 0,.int (207) 0,.str "/claim/cut.py" 517],#[]⟩),(238,kf "_law_corners" nq (.str "law_millpath_k26_coverings" 341) 237),(237,⟨.type "code",none,.fields #[.str "_law_corners" 519,.str "_law_corners" 520,.str "/claim/cut.py" 521,.int (212) 0,.int (2) 0,.int (0) 0,.int (0) 0,.int (3) 0,.ref 234,.bool true,.int (181) 0,.ref 235,.none,.none,.none,.ref 236,.int (522) 0,.int (212) 0,.str "/claim/cut.py" 523],#[]⟩),(243,kf "law" kj (.str "law_millpath_k26_coverings" 341) 242),(242,⟨.type "code",none,.fields #[.str "law" 525,.str "law" 526,.str "/claim/cut.py" 527,.int (236) 0,.int (1) 0,.int (0) 0,.int (0) 0,.int (3) 0,.ref 239,.bool true,.int (181) 0,.ref 240,.none,.none,.none,.ref 241,.int (528) 0,.int (236) 0,.str "/claim/cut.py" 529],#[]⟩),(19,⟨.type "tuple",none,.seq #[.ref 15,.ref 16,.ref 17,.ref 18] 0,#[]⟩),(15,⟨.type "tuple",none,.seq #[.int (3) 189,.int (2) 190] 0,#[]⟩),(16,⟨.type "tuple",none,.seq #[.int (2) 191,.int (3) 192] 0,#[]⟩),(17,⟨.type "tuple",none,.seq #[.int (1) 193,.int (2) 194] 0,#[]⟩),(18,⟨.type "tuple",none,.seq #[.int (2) 195,.int (1) 196] 0,#[]⟩)]
noncomputable def kas:List Oz:=[3,26,25,31,30,36,35,43,42,48,47,55,54,62,61,69,68,76,75,81,80,88,87,95,94,102,101,107,106,114,113,121,120,128,127,135,134,140,139,145,144,150,149,157,156,164,163,169,168,174,173,181,180,188,187,193,192,200,199,207,206,214,213,221,220,226,225,233,232,238,237,243,242,19,15,16,17,18]
theorem xi(P:Ss):kas=(KK P).map (·.1):=by kernel_rfl
noncomputable def VW:OI:=PySem.W.view PySem.Challenge.pw_millpath_k26_coverings [1,2,4,5,6,7,8,9,11,13,14,15,16,17,19,20,22,24,25,26,27,28,29,30,31,32,33,34,35,36,37,38,39,40,41,42,43]
noncomputable def GJ(s:OY):Pos:=match s with
 | .FunctionDef _ _ _ _ _ _ _ _ _ p=>p
 | _=>⟨0,0,0,0⟩
variable {mg:Str->Option Oy}
theorem dfn{h:OM}{P:Ss}{x:Str}{st:OY}{ps:List Str}(X:(KK P).In h)(G:h.Ns Pu mg)(f c:Oz)(m:Oy)(l:(KK P).lookup f=some (kf x st m c):=by kernel_rfl)(a:Sz (KK P) Pu x=some (some (.ref f)):=by kernel_rfl)(cd:RR (KK P) (.ref c) x=true:=by kernel_rfl)(kp:Rm (KK P) (.ref f)=true:=by kernel_rfl)
  (hb:∀(kV doc pm:Oy) (an:Option Oz) (cdv ct:Oy) (us:List Oy),us.length=ps.length->VL (Qn x x (iU st) (ip st) (az st) .none kV doc pm an cdv ct) ⟨us,[]⟩=pure (ps.zip us):=by intro _ _ _ _ _ _ us;revert us;first|(apply ar1;intros;rfl)|(apply ar2;intros;rfl)|(apply ar3;intros;rfl)|(apply ar4;intros;rfl)|(apply ar5;intros;rfl)):Dfn (KK P) mg x st ps:=⟨f,_,x3 (st:=st) l cd kp,TH X G a,(x3 (st:=st) l cd kp).binds hb⟩
noncomputable def mo0:Oy:=.str "millpath.corners" 187
noncomputable def mo1:Oy:=.str "millpath.octos" 206
noncomputable def mo2:Oy:=.str "millpath.tools" 252
noncomputable def mo3:Oy:=.str "millpath.marks" 264
noncomputable def mo4:Oy:=.str "millpath.reach" 314
noncomputable def mo5:Oy:=.str "millpath.rings" 330
noncomputable def mo6:Oy:=.str "law_millpath_k26_coverings" 341
set_option maxHeartbeats 0 in
theorem all_mk{l:SO}{w:OK}{h:OM}{fa:Oz}(X:(KK w.params).In h)(G:h.Ns Pu mg)(hfa:mg "law"=some (.ref fa)):∃fd:OR,(∀(s:OB) (v:Oy),S8 s fd ⟨[v],[]⟩ [("_law_script",v)])/\∀base:OM,(KK w.params).In base->base.Ns Pu mg->FnOk l.prog w (KK w.params) mg base CX0 8 fa fd ["_law_script"] (zq (KK w.params)):=by
 have e:=hfa.symm.trans (TH X G (show Sz (KK w.params) Pu "law"=some (some (.ref 243)) by kernel_rfl));cases e;have z:∀{x:Str},Sz (KK w.params) Pu x=some none->mg x=none:=fun h=>PySem.W.mg_none_of X G h;have T:Txt mg:=⟨z (by kernel_rfl),z (by kernel_rfl),z (by kernel_rfl),z (by kernel_rfl),z (by kernel_rfl),z (by kernel_rfl),z (by kernel_rfl),z (by kernel_rfl),z (by kernel_rfl),z (by kernel_rfl),z (by kernel_rfl),z (by kernel_rfl),z (by kernel_rfl),z (by kernel_rfl),z (by kernel_rfl),z (by kernel_rfl),z (by kernel_rfl),z (by kernel_rfl),z (by kernel_rfl),z (by kernel_rfl),z (by kernel_rfl)⟩;have F:=x3 (st:=kj) (K:=KK w.params) (x:="law") (qual:="law") (f:=243) (oc:=.type "function") (od:=none) (an:=none) (osl:=#[]) (kV:=.none) (doc:=.none) (pm:=mo6) (cdv:=.ref 242) (ct:=.none) (by kernel_rfl) (by kernel_rfl) (by kernel_rfl);refine⟨Qn "law" "law" (iU kj) (ip kj) (az kj) .none .none .none mo6 none (.ref 242) .none,fun s v=>.of_eq rfl,fun base _ _=>?_⟩;have cl1:(KK w.params).lookup 19=some ⟨.type "tuple",none,.seq #[.ref 15,.ref 16,.ref 17,.ref 18] 0,#[]⟩:=by kernel_rfl
 have cl2:(KK w.params).lookup 15=some ⟨.type "tuple",none,.seq #[.int (3) 189,.int (2) 190] 0,#[]⟩:=by kernel_rfl
 have cl3:(KK w.params).lookup 16=some ⟨.type "tuple",none,.seq #[.int (2) 191,.int (3) 192] 0,#[]⟩:=by kernel_rfl
 have cl4:(KK w.params).lookup 17=some ⟨.type "tuple",none,.seq #[.int (1) 193,.int (2) 194] 0,#[]⟩:=by kernel_rfl
 have cl5:(KK w.params).lookup 18=some ⟨.type "tuple",none,.seq #[.int (2) 195,.int (1) 196] 0,#[]⟩:=by kernel_rfl
 have gt_INNER:Sz (KK w.params) Pu "INNER"=some (some (.ref 19)):=by kernel_rfl
 have C_INNER:Glb (KK w.params) mg "INNER" yX:=⟨.ref 19,_,TH X G gt_INNER,rfl,fun _ _=>(.cst (.inr ⟨_,_,0,cl1,rfl,rfl,(by show 4<=sizeLine;decide),(.cons (show RelV (.ref 15) (.ref 15)from rfl) (.cons (show RelV (.ref 16) (.ref 16)from rfl) (.cons (show RelV (.ref 17) (.ref 17)from rfl) (.cons (show RelV (.ref 18) (.ref 18)from rfl) .nil))))⟩) (.cons rfl (.cst (.inr ⟨_,_,0,cl2,rfl,rfl,(by show 2<=sizeLine;decide),(.cons (show RelV (.int (3)) (.int (3) 189)from⟨_,rfl⟩) (.cons (show RelV (.int (2)) (.int (2) 190)from⟨_,rfl⟩) .nil))⟩) (.cons rfl .int (.cons rfl .int .nil))) (.cons rfl (.cst (.inr ⟨_,_,0,cl3,rfl,rfl,(by show 2<=sizeLine;decide),(.cons (show RelV (.int (2)) (.int (2) 191)from⟨_,rfl⟩) (.cons (show RelV (.int (3)) (.int (3) 192)from⟨_,rfl⟩) .nil))⟩) (.cons rfl .int (.cons rfl .int .nil))) (.cons rfl (.cst (.inr ⟨_,_,0,cl4,rfl,rfl,(by show 2<=sizeLine;decide),(.cons (show RelV (.int (1)) (.int (1) 193)from⟨_,rfl⟩) (.cons (show RelV (.int (2)) (.int (2) 194)from⟨_,rfl⟩) .nil))⟩) (.cons rfl .int (.cons rfl .int .nil))) (.cons rfl (.cst (.inr ⟨_,_,0,cl5,rfl,rfl,(by show 2<=sizeLine;decide),(.cons (show RelV (.int (2)) (.int (2) 195)from⟨_,rfl⟩) (.cons (show RelV (.int (1)) (.int (1) 196)from⟨_,rfl⟩) .nil))⟩) (.cons rfl .int (.cons rfl .int .nil))) .nil)))))⟩;have Cl:Cal l.prog w (KK w.params) mg base 1 "_law_take" ["_law_state","_law_many"] (aI (KK w.params) 2 kq):=B7 (dfn X G 135 134 mo6) T;have o0:Cal l.prog w (KK w.params) mg base 1 "_law_begin" ["_law_script"] (aI (KK w.params) 1 (sI (KK w.params))):=AG (dfn X G 128 127 mo6) T;have sB:=(dfn X G 26 25 mo0).cal (base:=base) (P:=l.prog) (w:=w) fun _ _ F=>qi F T C_INNER;have xz:=(dfn X G 31 30 mo1).cal (base:=base) (P:=l.prog) (w:=w) fun _ _ F=>vW F T;have np:=(dfn X G 36 35 mo1).cal (base:=base) (P:=l.prog) (w:=w) fun _ _ F=>Dp F T;have ww:=(dfn X G 43 42 mo1).cal (base:=base) (P:=l.prog) (w:=w) fun _ _ F=>CP F T xz np;have ul:=(dfn X G 55 54 mo1).cal (base:=base) (P:=l.prog) (w:=w) fun _ _ F=>wX F T;have sn:=(dfn X G 62 61 mo1).cal (base:=base) (P:=l.prog) (w:=w) fun _ _ F=>Dk F T sB;have At:=(dfn X G 48 47 mo1).cal (base:=base) (P:=l.prog) (w:=w) fun _ _ F=>oT F T ul sn;have wn:=(dfn X G 69 68 mo2).cal (base:=base) (P:=l.prog) (w:=w) fun _ _ F=>xE F T ww;have wP:=(dfn X G 76 75 mo3).cal (base:=base) (P:=l.prog) (w:=w) fun _ _ F=>nU F T At wn;have wT:=(dfn X G 102 101 mo3).cal (base:=base) (P:=l.prog) (w:=w) fun _ _ F=>Df F T;have po:=(dfn X G 181 180 mo6).cal (base:=base) (P:=l.prog) (w:=w) fun _ _ F=>w6 F T;have sK:=(dfn X G 174 173 mo6).cal (base:=base) (P:=l.prog) (w:=w) fun _ _ F=>AQ F T po;have on:=(dfn X G 140 139 mo6).cal (base:=base) (P:=l.prog) (w:=w) fun _ _ F=>Ie F T;have nw:=(dfn X G 145 144 mo6).cal (base:=base) (P:=l.prog) (w:=w) fun _ _ F=>Au F T;have xL:=(dfn X G 150 149 mo6).cal (base:=base) (P:=l.prog) (w:=w) fun _ _ F=>vS F T Cl on nw;have sw:=(dfn X G 169 168 mo6).cal (base:=base) (P:=l.prog) (w:=w) fun _ _ F=>xy F T;have wl:=(dfn X G 164 163 mo6).cal (base:=base) (P:=l.prog) (w:=w) fun _ _ F=>Fe F T sw;have Da:=(dfn X G 157 156 mo6).cal (base:=base) (P:=l.prog) (w:=w) fun _ _ F=>EB F T Cl;have ut:=(dfn X G 81 80 mo3).cal (base:=base) (P:=l.prog) (w:=w) fun _ _ F=>El F T;have re:=(dfn X G 88 87 mo3).cal (base:=base) (P:=l.prog) (w:=w) fun _ _ F=>Fo F T;have wv:=(dfn X G 95 94 mo3).cal (base:=base) (P:=l.prog) (w:=w) fun _ _ F=>Ab F T wP ut;have pc:=(dfn X G 107 106 mo4).cal (base:=base) (P:=l.prog) (w:=w) fun _ _ F=>wN F T wP re wT;have AC:=(dfn X G 114 113 mo4).cal (base:=base) (P:=l.prog) (w:=w) fun _ _ F=>qF F T wv pc;have u8:=(dfn X G 121 120 mo5).cal (base:=base) (P:=l.prog) (w:=w) fun _ _ F=>ph F T wv AC;have zn:=(dfn X G 188 187 mo6).cal (base:=base) (P:=l.prog) (w:=w) fun _ _ F=>Al F T Cl on xL sK;have Ch:=(dfn X G 200 199 mo6).cal (base:=base) (P:=l.prog) (w:=w) fun _ _ F=>Ay F T;have v4:=(dfn X G 193 192 mo6).cal (base:=base) (P:=l.prog) (w:=w) fun _ _ F=>ue F T Ch;have wf:=(dfn X G 207 206 mo6).cal (base:=base) (P:=l.prog) (w:=w) fun _ _ F=>xD F T;have AT:=(dfn X G 221 220 mo6).cal (base:=base) (P:=l.prog) (w:=w) fun _ _ F=>sN F T;have pp:=(dfn X G 214 213 mo6).cal (base:=base) (P:=l.prog) (w:=w) fun _ _ F=>CQ F T AT;have rc:=(dfn X G 226 225 mo6).cal (base:=base) (P:=l.prog) (w:=w) fun _ _ F=>zQ F T pp;have BT:=(dfn X G 233 232 mo6).cal (base:=base) (P:=l.prog) (w:=w) fun _ _ F=>uk F T Cl;have pi:=(dfn X G 238 237 mo6).cal (base:=base) (P:=l.prog) (w:=w) fun _ _ F=>xo F T Cl rc BT;exact Gs (GD F T u8 o0 Cl Da wl zn v4 wf pi)
end Mp
open PySem PySem.W PyProof.Rows
set_option maxRecDepth 100000 in
set_option maxHeartbeats 0 in
theorem Mp.GZ:PySem.Challenge.rw_millpath_k26_coverings.wellSaid=true:=by kernel_rfl
set_option maxRecDepth 100000 in
theorem Mp.left:PySem.W.LeftO PySem.Challenge.rw_millpath_k26_coverings.row.prog Mp.VW [] (fun s=>PySem.W.xlAt Mp.VW [] s&&PySem.W.recOk (PySem.Challenge.rw_millpath_k26_coverings.row.toRowW.records) s) (W6 (TJ Mp.KK Mp.kas Mp.xi)) (W7 (TJ Mp.KK Mp.kas Mp.xi)) 6000:=fun w=>by kernel_rfl
set_option maxRecDepth 100000 in
set_option maxHeartbeats 0 in
theorem PySem.Challenge.cw_millpath_k26_coverings_holds : PySem.Challenge.rw_millpath_k26_coverings.Holds := by
 refine PySem.W.holds_law Mp.GZ fun GZ=>?_;refine PySem.W.holds_open (r:=PySem.Challenge.rw_millpath_k26_coverings.row) (XP:=PySem.W.XL Mp.VW []) (YP:=WY (TJ Mp.KK Mp.kas Mp.xi)) (d:=⟨"law",L2.iU Mp.kj,L2.ip Mp.kj,L2.az Mp.kj,Mp.GJ Mp.kj⟩) (kwd:=[]) Mp.left (Xa _) (WS _) (fun s e=>PySem.W.xl_of s (Nu.mp e).1) W8 (by kernel_rfl) (by kernel_rfl) (by kernel_rfl) (fun s e=>PySem.W.recFacts_of (Nu.mp e).2) (by kernel_rfl) GZ (by kernel_rfl) ⟨rfl,rfl,rfl,rfl,rfl,by rfl'⟩ ?hw ?hc
 case hw=>w_witness2
 case hc=>
  refine Mp.walk (l:=PySem.Challenge.rw_millpath_k26_coverings) rfl (by kernel_rfl) (fun w h Y=>PySem.W.kIn_of Y) ?F
  case F=>
  intro w mg fa h KX G hmg;exact Mp.all_mk KX G hmg
