import PyProof.Rows.All
import Wide.All
import OpenK.AllK
import Wide.FinOn
import Lean
import PyProof.EqAt
import PyProof.EqKinds
import PyProof.TupleCall
import PyProof.ZipIter
import PyProof.NeKinds
import PyProof.SeqI3
import PyProof.MaxThree
import PyProof.CompUse
import PyProof.DictFindH
import PyProof.DictRoadsH
import PyProof.TupleKey
import PyProof.DictWalks
import PyProof.AttrMissHeap
import KE.KDictOf
import KE.KDictList
import PyProof.Rows.SortRuns
import KE.KSortTup
import PyProof.ListRange
import PyProof.Rows.SetFrom
import PyProof.Rows.SortRev
import PySem.Challenge.RW_millpath_k56_great_programs
set_option maxHeartbeats 4000000
set_option Elab.async false
set_option linter.all false
set_option maxRecDepth 100000
set_option genSizeOf false
noncomputable section
open List renaming length_map->a_,getElem?_eq_getElem->c_,length_append->d_,getElem?_eq_some_iff->f_,map_cons->g_,length_cons->h_,perm_middle->j_,mem_cons_of_mem->k_,append_assoc->l_,mem_cons->m_,mem_append_right->n_,mem_cons_self->o_,map_append->p_,size_toArray->q_,mem_map->r_,take_length->u_,mem_singleton->w_,mem_append->x_,mem_append_left->y_,range->A_,map_map->A',perm_append_comm_assoc->B_,getElem?_map->B',pairwise_append->C_,Perm.trans->C',length_take->D_,append_nil->E_,mem_of_getElem?->F_,take_append_drop->F',nodup_cons->G_,map->G',length_drop->H_,mem_range->Kk,pairwise_map->K_,length_set->LO,take_add_one->LP,mem_filter->LR,length_reverse->LU,getElem?_append_right->LV,getD_eq_getElem?_getD->LY,eq_nil_of_length_eq_zero->L_,mem_iff_getElem->L',take_of_length_le->Ma,Pairwise.sublist->Mb,Perm.append_left->Mc,length_nil->Mf,cons_append->Mj,mem_map_of_mem->Mk,length_range->Ml,pairwise_cons->Mn,getElem_mem->Mo,mem_of_mem_take->Mq,not_mem_nil->Ms,map_congr_left->Mx,find?_cons->My,perm_append_comm->Mz,length_filter_le->MB,Pairwise.imp_of_mem->MD,drop_of_length_le->MF,concat_eq_append->ML,getElem?_append_left->MM,cons.injEq->MO,nodup_append->MT,sum_cons->MU,getElem?_cons_succ->MV,replicate->MX,nodup_nil->MY,Perm.swap->MZ,getElem?_drop->M4,cons.inj->M8,length_dropLast->M9,extract_eq_drop_take->M_,pairwise_iff_getElem->M',drop_zero->Na,map_nil->Nb,mem_reverse->Nd,all_eq_true->Nf,all_map->Ng,any_eq_true->Ni,map_eq_nil_iff->Nk,getElem?_cons_zero->Nl,getElem?_take->Nn,take_sublist->Nu,drop_sublist->Nw,reverse_cons->Ny,mem_iff_getElem?->NA,getElem?_eq_none->NB,lookup_cons->ND,mem_of_mem_drop->NF,reverse_append->NL,flatMap_append->NN,drop_eq_getElem_cons->NP,range_succ->NR,set_eq_of_length_le->NT,drop_drop->NY,pairwise_singleton->N0,Pairwise.nil->N1,getElem?_set_self->N4,pairwise_lt_range->N6,countP_cons->N8,filter_cons->Oa,getElem?_set_ne->Ob,nil_append->Oi,dropLast_concat->Oj,length_take_le'->Ol,drop_append_of_le_length->Oq,filterMap_cons->Ot,getElem?_range->Ov,Perm.cons->Ow,length->Ox,map_id->Oy,set_cons_succ->Oz,getElem?_concat_length->OA,any_cons->OD,all_cons->OE,take_add->OF,length_eraseIdx_of_lt->OH,getElem?_zip_eq_some->OK,getLast?_eq_getElem?->OL,getLast?_eq_some_iff->OM,zipIdx_cons->OO,set_set->OU,cons_ne_nil->OY,of_mem_zip->OZ,forIn_cons->O0,Perm.append_right->O4,drop_eq_nil_of_le->O5,flatMap_singleton->O6,length_singleton->O7,forIn_nil->O8,set_append_right->O_,singleton_append->O',reverse_reverse->Pa,map_drop->Ph,length_pos_iff->Pj,replicate_succ->Pl,mem_filterMap->Pm,set_cons_zero->Po,zip_cons_cons->Pq,filter_append->Pu,length_concat->Pw,ext_getElem?->Pz,mapM_toArray->PC,Pairwise.imp->PD,reverse_perm->PH,filter->PK,mem_flatMap->PU,flatMap_def->PV,isEmpty_iff->PZ,zipIdx_nil->P0,zip_append->P5,length_zip->P6,sum_append->P9,Perm->Qa,map_take->Qc,any_map->Qg,map_id'->Qh,zip_map->Ql
open Nat renaming le_refl->b_,le_trans->t_,ne_of_lt->v_,lt_of_lt_of_le->z_,zero_le->D',le_of_lt->J_,le_of_not_lt->LX,pos_of_ne_zero->Mg,sub_le->Mr,lt_of_le_of_lt->MC,succ.inj->MG,lt_irrefl->MJ,zero_add->MN,lt_succ_of_lt->MR,add_le_add_left->MW,mul_le_mul->M3,sub_self->Nh,lt_succ_self->Nj,lt_of_le_of_ne->Np,one_pos->Nq,le_succ->Nt,ne_of_gt->Nz,le_add_right->NG,add_assoc->NK,add_sub_cancel'->NM,sub_lt_left_of_lt_add->NQ,le_of_eq->NS,add_sub_cancel_left->NZ,le_of_lt_succ->N2,le_succ_of_le->N3,min_eq_right->N7,not_lt_of_le->N_,lt_trans->Oe,min_eq_left->Of,le_sub_one_of_lt->Og,add_zero->Oh,add_lt_add_left->Ou,sub_lt->OJ,lt_of_not_le->OP,max_eq_right->OQ,succ_le_succ->OV,le_add_left->O2,sub_le_sub_right->Pb,not_lt->Pc,add_sub_assoc->Py,le_antisymm->P4,sub_zero->Qf,succ_mul->Qn,mul_comm->Qo,mul_add->Qs,mod_lt->Qv
open Int renaming le_total->LN,le_trans->LZ,toNat_natCast->Md,min_le_left->Mh,le_max_left->Mi,le_refl->Mm,min_le_right->Mt,le_max_right->Mu,add_comm->MI,max_eq_right->MK,max_eq_left->MP,min_eq_right->M0,add_le_add->M1,min_eq_left->M6,mul_comm->NC,add_le_add_left->NO,emod_lt_of_pos->NU,zero_add->NV,natCast_nonneg->NW,sub_add_cancel->NX,emod_nonneg->Om,add_zero->Oo,fdiv_eq_ediv_of_nonneg->OB,fmod_eq_emod_of_nonneg->OC,max_le->ON,min_self->OW,max_self->OX,natCast_one->O3,mul_one->PJ,mul_add->PN,one_mul->PQ,natCast_zero->PX,le_of_not_gt->PY,le_antisymm->P7,le_min->P8,ofNat_sub->Qd,ofNat_le->Qi,zero_mul->Qj,le_of_lt->Qm,mul_sub->Qr,lt_min->Qw
open Option renaming some.inj->I_,map->NI,map_eq_some_iff->N5,some.injEq->OI,isSome_some->Pn,getD_none->PR,some->Qp,any->Qu
open Bool renaming false_eq_true->LQ,and_eq_true->LW,false_ne_true->Me,beq_eq_decide_eq->MA,true_and->Nm,eq_false_iff->Nv,not_false->O9,and_eq_true_iff->Pe,not_true->Pf,and_true->Pg,and_false->P_,or_false->Qb
open Array renaming getElem?_toList->f',length_toList->gV,getElem?_eq_getElem->i_,toList_append->LM,perm_iff_toList_perm->Mv,getElem?_eq_none->Mw,toList_reverse->ME,toList_push->MQ,getD_eq_getD_getElem?->M5,getElem?_extract->Nr,toList_extract->NH,getElem?_eq_some_iff->NJ,toList_map->N9,toList_setIfInBounds->OG,size_setIfInBounds->OR,Perm.refl->O1,size_extract->Pp,toList->Qe
open Or renaming inl->e_,inr->s_
open Prod renaming ext->M7,ext_iff->Qk,mk.inj->Qq
open False renaming elim->QU
open ForInStep renaming done->QN,yield->QV
open Function renaming comp->Yh
open Ne renaming symm->Sw
open PyProof renaming noPylong_small->UJ
open PyProof.Rows renaming Keyed->QE,arrOf->QF,wpS_bind->QI,SortSt->QJ,wpS_pure->QO,pendingOf->QT,seqObj->QZ,failedOf->Ri,wpS_forRange->Rm,elem'->Rn,SortKind->RA,wpS_mono->RF,IntsAre->RL,callWith_type1->R7,slot_tuple_getitem->Su,reverseSlice'->SV,wpS_get->S0,subscriptTail->Tp,AllBare->Ts,envOfC->TB,wpS_modify->TJ,get?_update_seq->TL,keyKind'->T1,listUpdate_at->Ub,gallopOf->Ut,wpS_lift->Uu,entry_list_sort->UI,subscriptTail_builtinR->UL,seqEpoch_at->UQ,slot_list_sort->UX,mergeAt'->U9,getElem?_mirror_all->Vf,plain_sorted->Vs,entry_sorted->Vt,minRun'->Vw,kind_sorted->VG,oneType'->VU,boot_range->V1,callWith_builtin1->V2,Subscript_->V3,bubble->V_,getElem?_bubble->Wa,ltAt'->Wb,slicePart_none->Wn,tuples'->Wt,args_list_sort->Wu,countRun'->WD,Constant_bool->WG,IsTup->WU,listItems_at->Xa,args_sorted1->Xb,collect_list->Xc,binarySort'->Xz,boot_sorted->XA
open PyProof.Rows.F renaming plain_set_update_loop->Tc,entry_set_update_loop->UB
open PyProof.Rows.IsTup renaming new->WC
open PyProof.Rows.SortSt renaming mk'->RS
open PySem renaming wpAny_bind->Qx,Value->Qy,Addr->QA,Shared->QB,wpAny_pure->QC,wpAny->QG,Program->QL,model->QM,World->QP,Expr->QQ,Heap->QR,starEach->QS,FuncData->QW,Around->QY,wpAny_newObj_type->Q1,wpAny_holding->Q2,Stmt->Q6,wpAny_mono->Q7,eval->Q9,wpAny_callSpecial?_slot->Rf,wpAny_call_entry->Rh,intItems->Rj,compareOp->Ro,SetTable->Rq,mainGlobals->Ru,sysModules->Rv,wpAny_field->Rx,foldedSetIterable->Ry,Scope->RC,rawInt->RD,wpAny_Call_Name_kw->RE,wpAny_setField->RG,binaryOp->RJ,mem_of_lookup->RK,Builtin->RM,IsPair->RO,wpAny_attempt->RP,wpAny_pyIter_tuple->RU,wpAny_truthy_bool->RV,wpAny_pyIter_list->RW,wpAny_typeNameOfWhole_keyiter->RY,wpAny_seqItems->R0,firstArgMember->R1,assignEach->R3,bootBuiltins->R6,wpAny_setField_rec->R9,wpAny_passesOwn->R_,pyNext->Sd,wpAny_setState_of->Se,wpAny_rule->Sh,codeAny_mono->Sl,NameKind->Sn,numAt->Ss,intKind->Sv,codeAny->Sx,wpAny_newList->Sy,DictEntry->SD,wpAny_ite_split->SE,codeAny_builtin->SF,Model->SH,fits_of_scanBound->SK,backTo->SM,IsZip->SN,wpAny_isInstance->SO,Paired->SQ,behindInMarks->SR,sliceBounds->SW,wpAny_of_eq->SY,tupleKind->S5,wpAny_dictEntries->Td,assign->Tg,intItems_at->Tn,wpAny_standAt->To,comprehension->Tq,plainId_quiet->Tr,swapsWith->Tt,holding->Tu,wpAny_execs_nil->Tw,letOwnedTupleGo->Tx,pyIter->Tz,wpAny_updateSeq_pair->TC,wpAny_setEntries_of->TN,getItem->TR,isSubtype_stop->TV,wpAny_fieldsOf->TY,subscripted->T3,attributeBase->T9,wpAny_handled->T_,wpAny_onRaise->T',Comprehension->Ua,wpAny_pyIter_slot->Ud,wpAny_setEpoch_of->Ue,valueAt->Uk,callerA->Ul,Operator->Um,noFill_tuple_add->Uo,IsPart->Uq,Params->Ur,newExc->Us,relayAll->Uv,wpAny_askSetting->Uw,atKey->UC,wpAny_specialOf->UD,wpAny_dictEpoch->UG,wpAny_throw->UN,wpAny_letGo->UO,codeAny_compStart_list->UP,BindsTo->UR,getitemInPython_of_ne->US,wpAny_newTuple->UT,wpAny_isOneOf_keyiter->UW,builtinLookup_eq_fast->UZ,isSubtype_type->U0,entryOfKey->U1,builtinsNs->U2,wpAny_loadName_local->U3,bindL->U4,bindC->U5,wpAny_letTemporaryGo->U6,field->U7,wpAny_newFunctionEnv->U8,wpAny_pyIter_keyiter->U_,intKind_is->U',seq_tuple_add->Va,Builtin->Vb,wpAny_loadName_cell->Ve,isTrue->Vh,PassesOwn->Vi,wpAny_List_spliced->Vk,concat_meets->Vl,wpAny_typeOf->Vm,seqIndex_neg->Vn,tupleKind_room_in1->Vp,seqItems?->Vq,CmpOp->Vv,wpAny_assign_Name->Vx,wpAny_storeSet_of->VC,seqIndex_of->VE,wpAny_eqBool_int->VH,GenState->VI,wpAny_execs_cons->VJ,newTuple->VM,raiseNew->VN,wpAny_comp_letGo->VQ,wpAny_pyIter_zip->VR,wpAny_Name->VZ,wpAny_load->V0,call_tuple_same->V4,call_meets->V5,wpAny_operating->V6,call->V7,checkCount->Wd,typeLookup_type->Wf,wpAny_updateSeq->Wh,codeAny_of_tree->Wi,setItem->Wk,standAt->Wl,Keyword->Wo,letTemporaryGo->Wq,argBest->Ws,ItemsOf->Wv,entryFor_alias->Ww,setNext->Wx,wpAny_runValue->Wy,storeName->WA,cellsFrom->WB,swapsWithSole->WH,swappedStores->WI,intBits_le_64->WJ,evalPart_none->WL,call_list_seq->WM,wpAny_standIf->WO,signature?_of->WS,Drawn->WV,call_range_2->W0,Result->W4,bindArgs->W5,Slot->W6,typeOf->W7,setAddHashed->Xf,entryFor->Xg,argsOk->Xh,wpAny_mkInt->Xp,interactive->Xq,IsRangeIter->Xr,keywordEach->Xu,operate->XB,Walks->XE,Fin->XW
open PySem.Around renaming under_plainId->Si
open PySem.AutoSeq1 renaming list_extend_list_list_0->VL
open PySem.Builtin.Dict renaming showsAll->UU,dictSlotNone->WX,pendingCount->WY
open PySem.Builtin.Dict_items renaming ownsTuple->TZ
open PySem.Builtin.Frozenset renaming updateFrom->Wz,newClass->WT,sizeOf->Xj,slot0->Xm
open PySem.Builtin.List renaming listTooLong->S7,listLengthHint->T5,listExtendWith->T6,listSameRef->Ux,listUpdate->Uz
open PySem.Builtin.Range renaming rangeSize->Xk
open PySem.Builtin.Slice renaming slicePlaces->Sf,sliceAdjust->S3,sliceApplied->T8,slicePartIndex->Wm,sliceFields->WW
open PySem.Builtin.SmallTypes renaming nextOf->Rb,ownedTupleIsFree->RH,ownedTupleHandOut->S8
open PySem.Builtin.Tuple renaming tupleExact->So,tupleItemsOf->WK
open PySem.Calls renaming spliced_cons->Sz,call_function_entry->S4,Name_function_global->T7,callWith_builtin->UM,spliced_nil->Vy
open PySem.Data renaming cell->Vj,seq->W8,fields->Xs
open PySem.Env renaming kindOf->V8
open PySem.F renaming slot_list_append->Q3,type_list_append->Q4,slot_dict_keyiterator_next->RI,slot_tuple_iterator_next->R',called_set->Sr,args_tuple_add_2->S6,slot_list_extend->S9,type_list_extend->S_,entry_tuple_add->Tb,slot_tuple_add->Ti,slot_zip_next->TF,args_dict_keyiterator_next_1->TH,entry_dict_keyiterator_next->TM,args_tuple_iterator_next_1->TU,entry_tuple_iterator_next->T4,slot_dict_getitem->Ug,plain_extend_loop->Ui,plainAttrs_list->UA,slot_dict_len->UY,args_zip_next_1->Vz,plain_list_iadd->VD,entry_zip_next->VO,slot_dict_iter->VS,slot_set_iter->Wg,plain_set_new->Wj
open PySem.Heap renaming get?_push_of_some->QD,get?_push_size->QH,lt_size->QK,get?_update_self->Rk,size_push->Rr,SameBut->Rt,get?_update_other->RN,get?_update_ne->RZ,ExtBut->SX,get?_push_ne->Te,push->Tv,IsTuple->Vr,IsList->VF,size_update->VT
open PySem.Heap.DictOf renaming new->X'
open PySem.Heap.IsList renaming push->VP,extBut->XS
open PySem.Heap.IsListIter renaming extBut->Xx
open PySem.Heap.IsSliceOf renaming new->XR
open PySem.Heap.IsTuple renaming push->VA,extBut->XJ
open PySem.Heap.IsTupleIter renaming extBut->Xl
open PySem.Heap.SameBut renaming update->Rg,refl->X3
open PySem.IsL renaming update->X5
open PySem.IsRange renaming new->Xt
open PySem.Manifest renaming sig_set_iterator->WZ,owners->Yb
open PySem.MeetsSeq renaming list_pop_last->Xv
open PySem.NameKind renaming free->RQ,cell->Ye
open PySem.Obj renaming mapSeq->Q0,data_mapFields->Q_,isFreed_of_fields->RT,cls_mapFields->SJ,mapFields->SU,putSet->We
open PySem.Paired renaming length->RX,snoc->Xw
open PySem.PassesOwn renaming never->QX
open PySem.SeqAt renaming EqAt->Uh,RcAt->V9,RcNeAt->W9
open PySem.SeqAt.EqAt renaming same->VX,int_none->XF,str_none->XG,none_int->XH,none_str->XI,int_str->XO,str_int->XQ,of_refs->XT
open PySem.SeqAt.RcAt renaming lists_lengths->W_,tuples->XZ,lists->X6
open PySem.SeqAt.RcNeAt renaming lists_lengths->WQ,tuples->XM,lists->XU
open PySem.SetTable renaming below->Q8,grown->Sj,sizeAbove->Vu,slot->WR,toList_insertAt->Xd,has->Xe,orStandIn->XX,insertAt->X0,freeSlot->X1,layClean->X2,advance->X7,relaid->Ya,Probe->Yd,laid->Yf,fits->Yg
open PySem.SetTable.below renaming go->Tf
open PySem.SetTable.probe renaming go->VB
open PySem.Shared renaming heap->Tj
open PySem.Str renaming ofString->Rw
open PySem.Value renaming none->Ra,ref->Rc,type->RB,int->R5,str->Vg,bool->VY,isStrOf->WE,isInt->Xn
open PySem.W renaming Frag->Qz,fnOf->R8,keepIn->Ta,codeIn->TQ,methodObj->Uc,nsIn->Uy,OpenLaw->UE,kat_nil->UH,cellsFrom_some->UK,mg_of->Vc,kHook->Vd,kitAny->Wr,WalkO->WN
open PySem.W.Hook renaming keeps->XY,says->X4,obs->X8,val->X9,of->Yc
open PySem.W.KatTups renaming cons->XD,nil->XN
open PySem.W.XL renaming keeps->X_
open PySem.Walks renaming tuple->Xy,list->XC
open PySem.pickOrder renaming go->Xi
open StateT renaming run_pure->Wc
open Sum renaming inr->Q5,inl->Uj
open Sum.inl renaming inj->Xo
open True renaming intro->R4
namespace L2
open PySem PySem.Spec PyProof.Rows
abbrev Key:=Sum Int (Option Str)
noncomputable def sP:Key->Qy->Bool
 | .inl k,v=>Xn k v
 | .inr (some x),v=>WE x v
 | .inr none,.none=>true
 | .inr none,_=>false
noncomputable def LF(w:QP):Key->Int
 | .inl k=>hashInt k
 | .inr (some x)=>hashStr w x
 | .inr none=>4238894112
theorem bU:∀{k:Key}{v:Qy},sP k v=true->(∃i t,k=Uj i/\v=R5 i t)\/(∃x t,k=Q5 (some x)/\v=Vg x t)\/(k=Q5 none/\v=Ra)
 | .inl i,v,h=>by obtain⟨t,e⟩:=Value.isInt_shape (k:=i) (v:=v) h;exact .inl ⟨i,t,rfl,e⟩
 | .inr (some x),v,h=>by obtain⟨t,e⟩:=Value.isStrOf_shape (x:=x) (v:=v) h;exact .inr (.inl ⟨x,t,rfl,e⟩)
 | .inr none,v,h=>by cases v <;> first|exact .inr (.inr ⟨rfl,rfl⟩)|cases h
theorem Ac(i:Int)(t:Tok):sP (.inl i) (.int i t)=true:=by simp[sP,Xn]
theorem Aa(x:Str)(t:Tok):sP (.inr x) (.str x t)=true:=by simp[sP,WE]
theorem Ih(a b:Int):decide ((Uj a:Key)=Uj b)=(a == b):=by
 by_cases e:a=b
 ·subst e;simp
 have h:¬(Uj a:Key)=Uj b:=fun q=>e (Xo q);rw[decide_eq_false h];exact(beq_eq_false_iff_ne.mpr e).symm
theorem Hm(a b:Str):decide ((Q5 (some a):Key)=Q5 (some b))=decide (a=b):=by
 by_cases e:a=b
 ·subst e;simp
 have h:¬(Q5 (some a):Key)=Q5 (some b):=fun q=>e (I_ (Sum.inr.inj q));rw[decide_eq_false h,decide_eq_false e]
variable {A:QY}{E:Qy->QB->Prop}{s:QB}{w:QP}
theorem BV{prog:QL}{Q:Int->QB->Prop}(h:Q 4238894112 {s with toks:=s.toks+1}):QG (QM prog w) A (PySem.pyHash .none) Q E s:=
 PySem.W.pyHash_slot (T:="NoneType") rfl F.slot_NoneType_hash F.entry_NoneType_hash (F.args_NoneType_hash_1 _) (beq_builtin_none _) (.inl rfl) (Qx (QC (Qx (Xp (QC ⟨_,_,rfl,h⟩)))))
noncomputable def bo(prog:QL)(w:QP):PySem.KeyKind prog w Key where
 is:=sP
 hash:=LF w
 inj:=fun v a b ha hb=>by rcases bU ha with⟨i,t,rfl,rfl⟩|⟨x,t,rfl,rfl⟩|⟨rfl,rfl⟩ <;> rcases bU hb with⟨j,u,rfl,e⟩|⟨y,u,rfl,e⟩|⟨rfl,e⟩ <;> cases e <;> rfl
 byValue:=fun k v h=>by rcases bU h with⟨i,t,rfl,rfl⟩|⟨x,t,rfl,rfl⟩|⟨rfl,rfl⟩ <;> rfl
 pyHash:=fun hv h=>by
  rcases bU hv with⟨i,t,rfl,rfl⟩|⟨x,t,rfl,rfl⟩|⟨rfl,rfl⟩
  ·exact wpAny_pyHash_int h
  ·exact wpAny_pyHash_str h
  exact BV h
 eqBool:=fun hu hv h=>by
  rcases bU hu with⟨i,t,rfl,rfl⟩|⟨x,t,rfl,rfl⟩|⟨rfl,rfl⟩ <;> rcases bU hv with⟨j,u,rfl,rfl⟩|⟨y,u,rfl,rfl⟩|⟨rfl,rfl⟩
  ·rw[Ih]at h;exact VH h
  ·exact XO i t y u _ _ _ _ h
  ·exact XF i t _ _ _ _ h
  ·exact XQ x t j u _ _ _ _ h
  ·rw[Hm]at h;exact wpAny_eqBool_str h
  ·exact XG x t _ _ _ _ h
  ·exact XH j u _ _ _ _ h
  ·exact XI y u _ _ _ _ h
  exact VX _ _ _ _ _ h
 «strs»:=fun k x t v h=>by
  rcases bU h with⟨i,u,rfl,e⟩|⟨y,u,rfl,e⟩|⟨rfl,e⟩
  ·exact nomatch e
  ·injection e with e1 _
   subst e1;cases v <;> rfl
  exact nomatch e
theorem vw(prog:QL)(w:QP)(i:Int)(t:Tok):(bo prog w).is (.inl i) (.int i t)=true:=Ac i t
theorem vV(prog:QL)(w:QP)(x:Str)(t:Tok):(bo prog w).is (.inr x) (.str x t)=true:=Aa x t
inductive V where
 |non|bl (b:Bool)|int (i:Int)|str (x:Str)|byt (b:Array UInt8)|flt (b:UInt64)|ref (a:QA)|ty (n:String)
 deriving DecidableEq
set_option genInjectivity false
noncomputable def RelV:V->Qy->Prop
 | .non,u=>u=Ra
 | .bl b,u=>u=VY b
 | .int i,u=>∃t,u=R5 i t
 | .str x,u=>∃t,u=Vg x t
 | .byt b,u=>∃t,u=Value.bytes b t
 | .flt b,u=>∃t,u=Value.float b t
 | .ref a,u=>u=Rc a
 | .ty n,u=>u=RB n
abbrev Vals:List V->List Qy->Prop:=SQ RelV
variable {us:List Qy}{xs:List V}
theorem Vals.length (r:Vals xs us):xs.length=us.length:=RX r
theorem Vals.get:∀{xs:List V}{us:List Qy}{i:Nat}{x:V},Vals xs us->xs[i]?=some x->∃u,us[i]?=some u/\RelV x u
 | _,_,_,_,.nil,e=>by simp at e
 | _,_,0,_,.cons r _,e=>by simp at e;subst e;exact⟨_,rfl,r⟩
 | _,_,i+1,x,.cons _ t,e=>by obtain⟨u,h1,h2⟩:=Vals.get (i:=i) (x:=x) t (by simpa using e);exact⟨u,by simpa using h1,h2⟩
variable {u:Qy}
theorem Vals.set {x:V}(r:RelV x u):∀{xs:List V}{us:List Qy} (i:Nat),Vals xs us->Vals (xs.set i x) (us.set i u)
 | _,_,_,.nil=>.nil
 | _,_,0,.cons _ t=>.cons r t
 | _,_,i+1,.cons q t=>.cons q (Vals.set r i t)
theorem Vals.append:∀{xs ys:List V}{us ws:List Qy},Vals xs us->Vals ys ws->Vals (xs++ys) (us++ws):=by
 intro xs ys us ws x s;induction x with
 |nil=>exact s
 |cons r t ih=>exact .cons r ih
theorem Vals.take:∀{xs:List V}{us:List Qy} (n:Nat),Vals xs us->Vals (xs.take n) (us.take n)
 | _,_,0,_=>.nil
 | _,_,_+1,.nil=>.nil
 | _,_,n+1,.cons r t=>.cons r (Vals.take n t)
theorem Vals.drop:∀{xs:List V}{us:List Qy} (n:Nat),Vals xs us->Vals (xs.drop n) (us.drop n)
 | _,_,0,r=>r
 | _,_,_+1,.nil=>.nil
 | _,_,n+1,.cons _ t=>Vals.drop n t
noncomputable def r6:Option V->Option Qy->Prop
 |some v,some u=>RelV v u
 |none,none=>True
 | _,_=>False
noncomputable def KV{κ:Type}:List (κ×V)->List (κ×Qy)->Prop:=SQ fun(p:κ×V) (q:κ×Qy)=>p.1=q.1/\RelV p.2 q.2
noncomputable def kV:Key->V
 | .inl i=>.int i
 | .inr (some x)=>.str x
 | .inr none=>.non
inductive HO where
 |lst (xs:List V)
 |tup (xs:List V)
 |dK (kvs:List (Key×V))|dT (kvs:List (List Key×V))
 |set (S:Int->Bool) (n:Nat)
 |ins (C dx:QA) (fs:List (Str×V))
 |own (x:QA)
 |xd (fs:List (Str×V))
 |met (f x:QA)
 |rng (lo hi:Int)
 |frz (o:Obj) (u:HO)
 |tbl (ps:Array Qy)
 |ext (φ:QR->Prop)
abbrev Hp:=QA->Option HO
noncomputable def upd(H:Hp)(a:QA)(o:HO):Hp:=fun b=>if b=a then some o else H b
variable {H:Hp}{a:QA}{o:HO}
theorem aQ:upd H a o a=some o:=by unfold upd;rw[if_pos rfl]
variable {b:QA}
theorem aP(h:b≠a):upd H a o b=H b:=by unfold upd;rw[if_neg h]
theorem E6{u:HO}:upd (upd H a o) a u=upd H a u:=by funext b;unfold upd;split <;> rfl
theorem Cf{u:HO}(h:H a=some o)(h':H b=some u)(d:o≠u):a≠b:=by intro e;subst e;rw[h]at h';exact d (I_ h')
theorem bK(h:H a=some o)(h':H b=none):a≠b:=by intro e;subst e;rw[h]at h';cases h'
section
variable(P:QL)(w:QP)
noncomputable def bg(H:Hp)(h:QR)(a:QA):HO->Prop
 | .lst xs=>xs.length<=sizeLine/\∃(its:List Qy) (n:Nat),Vals xs its/\h.get? a=some { cls:=.type "list",data:=.seq its.toArray n}
 | .tup xs=>xs.length<=sizeLine/\∃its:List Qy,Vals xs its/\WU h a its.toArray
 | .dK kvs=>kvs.length<=sizeLine/\(a == Rv)=false/\∃vs,KV kvs vs/\h.DictOf (bo P w) a vs
 | .dT kvs=>kvs.length<=sizeLine/\(a == Rv)=false/\∃xs:List (List Key×QA×Qy),
   SQ (fun(p:List Key×V) (q:List Key×QA×Qy)=>p.1=q.1/\H q.2.1=some (.tup (p.1.map kV))/\RelV p.2 q.2.2) kvs xs/\
   ∃o es ep,h.get? a=some o/\o.ExactDict/\o.data=.dict es ep/\es.toList=xs.map (U1 (S5 (bo P w)))/\(xs.map (·.1)).Nodup
 | .set S n=>h.SetOf (Sv P w) a S n
 | .ins C dx fs=>H dx=some (.own a)/\fs.length<=1000/\dx≠a/\h.get? a=some (PySem.W.instObj C dx)/\
   ∃mA,h.Ns1 dx mA/\(∀f,r6 (fs.lookup f) (mA f))/\PySem.Within mA (fs.map (·.1))
 | .own _=>∃o,h.get? a=some o
 | .xd fs=>∃mA,h.Ns1 a mA/\∀f,r6 (fs.lookup f) (mA f)
 | .rng lo hi=>∃t u v,h.get? a=some { cls:=.type "range",data:=.fields #[.int lo t,.int hi u,.int 1 v] }
 | .frz o u=>h.get? a=some o/\bg H h a u
 | .tbl ps=>h.get? a=some { cls:=.none,data:=.fields ps}
 | .met f x=>h.get? a=some (Uc (.ref f) (.ref x))
 | .ext φ=>φ h/\(∃o,h.get? a=some o)/\∀h1 h2:QR,φ h1->(∀o,h1.get? a=some o->h2.get? a=some o)->φ h2
noncomputable def HOk(H:Hp)(h:QR):Prop:=∀a o,H a=some o->bg P w H h a o
end
section
variable{P:QL}{w:QP}{H H':Hp}{h h':QR}{a:QA}{o:HO}
theorem bg.lt (x:bg P w H h a o):a<h.objs.size:=by
 cases o with
 |lst xs=>obtain⟨_,_,_,_,e⟩:=x;exact QK e
 |tup xs=>obtain⟨_,_,_,p⟩:=x;exact p.lt
 |dK kvs=>obtain⟨_,_,_,_,o,_,_,e,_⟩:=x;exact QK e
 |dT kvs=>obtain⟨_,_,_,_,o,_,_,e,_⟩:=x;exact QK e
 |set S n=>obtain⟨o,_,_,_,e,_⟩:=x;exact QK e
 |ins C dx fs=>obtain⟨_,_,_,e,_⟩:=x;exact QK e
 |own y=>obtain⟨_,e⟩:=x;exact QK e
 |xd fs=>obtain⟨_,⟨_,_,_,e,_⟩,_⟩:=x;exact QK e
 |rng lo hi=>obtain⟨_,_,_,e⟩:=x;exact QK e
 |frz ob u=>obtain⟨e,_⟩:=x;exact QK e
 |tbl ps=>exact QK (show h.get? a=some _ from x)
 |met f y=>exact QK (show h.get? a=some _ from x)
 |ext φ=>obtain⟨_,⟨_,e⟩,_⟩:=x;exact QK e
theorem Paired.Jn {α β:Type}{F G:α->β->Prop}:∀{l₁:List α}{l₂:List β},SQ F l₁ l₂->(∀a b,F a b->G a b)->SQ G l₁ l₂:=by
 intro l₁ l₂ x f;induction x with
 |nil=>exact .nil
 |cons r t ih=>exact .cons (f _ _ r) ih
theorem bg.oJ (x:bg P w H h a o)(k:∀b u,(b=a\/H b=some (.own a))->h.get? b=some u->h'.get? b=some u)
  (ho:∀b,H b=some (.own a)->H' b=some (.own a)) (ht:∀b xs,H b=some (.tup xs)->H' b=some (.tup xs)):bg P w H' h' a o:=by
 induction o with
 |lst xs=>obtain⟨z,its,n,r,e⟩:=x;exact⟨z,its,n,r,k _ _ (.inl rfl) e⟩
 |tup xs=>obtain⟨z,its,r,ob,e,c⟩:=x;exact⟨z,its,r,ob,k _ _ (.inl rfl) e,c⟩
 |dK kvs=>obtain⟨z,y,vs,r,ob,es,ep,e,c⟩:=x;exact⟨z,y,vs,r,ob,es,ep,k _ _ (.inl rfl) e,c⟩
 |dT kvs=>
  obtain⟨z,y,xs,r,ob,es,ep,e,c⟩:=x;exact⟨z,y,xs,Paired.Jn r fun p q z=>⟨z.1,ht _ _ z.2.1,z.2.2⟩,ob,es,ep,k _ _ (.inl rfl) e,c⟩
 |set S n=>obtain⟨ob,es,ep,t,e,c⟩:=x;exact⟨ob,es,ep,t,k _ _ (.inl rfl) e,c⟩
 |ins C dx fs=>
  obtain⟨d,z,ne,e,mA,⟨od,es,ep,e2,c⟩,r⟩:=x;exact⟨ho _ d,z,ne,k _ _ (.inl rfl) e,mA,⟨od,es,ep,k _ _ (.inr d) e2,c⟩,r⟩
 |own y=>obtain⟨ob,e⟩:=x;exact⟨ob,k _ _ (.inl rfl) e⟩
 |xd fs=>obtain⟨mA,⟨od,es,ep,e,c⟩,r⟩:=x;exact⟨mA,⟨od,es,ep,k _ _ (.inl rfl) e,c⟩,r⟩
 |rng lo hi=>obtain⟨t,u,v,e⟩:=x;exact⟨t,u,v,k _ _ (.inl rfl) e⟩
 |frz ob u ih=>obtain⟨e,q⟩:=x;exact⟨k _ _ (.inl rfl) e,ih q⟩
 |tbl ps=>
  have e:h.get? a=some { cls:=.none,data:=.fields ps}:=x;show h'.get? a=some { cls:=.none,data:=.fields ps};exact k a _ (.inl rfl) e
 |met f y=>
  have e:h.get? a=some (Uc (.ref f) (.ref y)):=x;show h'.get? a=some (Uc (.ref f) (.ref y));exact k a _ (.inl rfl) e
 |ext φ=>obtain⟨p,⟨o,e⟩,st⟩:=x;exact⟨st _ _ p fun o q=>k _ _ (.inl rfl) q,⟨o,k _ _ (.inl rfl) e⟩,st⟩
theorem HOk.lt (x:HOk P w H h)(e:H a=some o):a<h.objs.size:=(x a o e).lt
theorem HOk.fresh (x:HOk P w H h)(e:h.objs.size<=a):H a=none:=by
 cases q:H a with
 |none=>rfl
 |some u=>exact absurd (z_ (x.lt q) e) (MJ _)
theorem HOk.kept (x:HOk P w H h)(k:∀b u,h.get? b=some u->h'.get? b=some u):HOk P w H h':=fun a o e=>
 (x a o e).oJ (fun b u _ q=>k b u q) (fun _ q=>q) fun _ _ q=>q
theorem HOk.laid (x:HOk P w H h)(k:∀b u,h.get? b=some u->h'.get? b=some u)(hp:h.objs.size<=a)(new:bg P w (upd H a o) h' a o):HOk P w (upd H a o) h':=fun b u e=>by
 have hn:=x.fresh hp;by_cases hb:b=a
 ·subst hb;rw[aQ]at e;cases e;exact new
 rw[aP hb]at e;exact(x b u e).oJ (fun c v _ q=>k c v q) (fun c q=>by rw[aP (bK q hn)];exact q) fun c xs q=>by rw[aP (bK q hn)];exact q
end
noncomputable def Rd(H:Hp)(a:QA)(u:HO):Prop:=H a=some u\/∃o,H a=some (.frz o u)
variable {P:QL}{h:QR}
theorem Rd.ok {u:HO}(r:Rd H a u)(x:HOk P w H h):bg P w H h a u:=by
 rcases r with r|⟨o,r⟩
 ·exact x a u r
 obtain⟨_,q⟩:=x a _ r;exact q
noncomputable def Mut:Option HO->Prop
 |some (.lst _)=>True
 |some (.dK _)=>True
 |some (.dT _)=>True
 |some (.set _ _)=>True
 |some (.ins _ _ _)=>True
 |some (.ext _)=>True
 | _=>False
section
variable{P:QL}{w:QP}{H:Hp}{h h':QR}{x e:QA}{o':HO}
theorem HOk.write (ok:HOk P w H h)(mu:Mut (H x))(he:e=x\/H e=some (.own x))(k:∀b u,b≠e->h.get? b=some u->h'.get? b=some u)(heo:∃u,h'.get? e=some u)
  (new:bg P w (upd H x o') h' x o'):HOk P w (upd H x o') h':=fun b u q=>by
 have nown:∀c y,H c=some (.own y)->c≠x:=fun c y r z=>by subst z;rw[r]at mu;exact mu
 have ntup:∀c xs,H c=some (.tup xs)->c≠x:=fun c xs r z=>by subst z;rw[r]at mu;exact mu
 by_cases hb:b=x
 ·subst hb;rw[aQ]at q;cases q;exact new
 rw[aP hb]at q;by_cases hbe:b=e
 ·have q':H b=some (.own x):=by
   rcases he with z|z
   ·exact absurd (hbe.trans z) hb
   rw[hbe];exact z
  rw[q]at q';cases q';obtain⟨v,hv⟩:=heo;exact⟨v,by rw[hbe];exact hv⟩
 refine(ok b u q).oJ (fun c v hc r=>k c v ?_ r) (fun c r=>by rw[aP (nown c b r)];exact r) fun c xs r=>by rw[aP (ntup c xs r)];exact r
 rcases hc with rfl|hc
 ·exact hbe
 rintro rfl;rcases he with z|z
 ·exact nown c b hc z
 rw[hc]at z;cases z;exact hb rfl
end
structure Un (fs ex:List QA) (H H':Hp) (h h':QR):Prop where
 keep:∀b o,h.get? b=some o->H b=none->b ∉ fs->b ∉ ex->h'.get? b=some o
 slot:∀b o,h.get? b=some o->H b=none->b∈fs->b ∉ ex->∃sl,h'.get? b=some {o with slots:=sl}
 free:∀b o,h.get? b=some o->H b=none->b ∉ ex->H' b=none
 there:∀b o,h.get? b=some o->b ∉ ex->∃o',h'.get? b=some o'
 tups:∀b xs,H b=some (.tup xs)->H' b=some (.tup xs)
 frzs:∀b o u,H b=some (.frz o u)->H' b=some (.frz o u)
 tbls:∀b ps,H b=some (.tbl ps)->∃more,H' b=some (.tbl (ps++more))
section
variable{fs fs' ex ex':List QA}{H H1 H2:Hp}{h h1 h2 h':QR}{a x e:QA}{o:HO}
theorem Un.any (u:Un fs ex H H1 h h1){ob:Obj}(q:h.get? b=some ob)(n:H b=none)(hx:b ∉ ex):∃sl,h1.get? b=some {ob with slots:=sl}:=by
 by_cases hb:b∈fs
 ·exact u.slot b ob q n hb hx
 exact⟨ob.slots,u.keep b ob q n hb hx⟩
theorem Un.kept (k:∀b u,h.get? b=some u->h'.get? b=some u):Un fs ex H H h h':=
 ⟨fun b ob q _ _ _=>k b ob q,fun b ob q _ _ _=>⟨ob.slots,k b ob q⟩,fun _ _ _ n _=>n,fun b ob q _=>⟨ob,k b ob q⟩,fun _ _ q=>q,fun _ _ _ q=>q,fun _ ps q=>⟨#[],by rw[q];simp⟩⟩
theorem Un.refl:Un fs ex H H h h:=Un.kept fun _ _ q=>q
theorem Un.laid (k:∀b u,h.get? b=some u->h'.get? b=some u)(hp:h.objs.size<=a)(hn:H a=none):Un fs ex H (upd H a o) h h' where
 keep:=fun b u q _ _ _=>k b u q
 slot:=fun b u q _ _ _=>⟨u.slots,k b u q⟩
 free:=fun b u q n _=>by rw[aP (v_ (z_ (QK q) hp))];exact n
 there:=fun b u q _=>⟨u,k b u q⟩
 tups:=fun b xs q=>by rw[aP (bK q hn)];exact q
 frzs:=fun b u xs q=>by rw[aP (bK q hn)];exact q
 tbls:=fun b ps q=>⟨#[],by rw[aP (bK q hn),q];simp⟩
theorem Un.write (mu:Mut (H x))(he:e=x\/H e=some (.own x))(k:∀b u,b≠e->h.get? b=some u->h'.get? b=some u)(heo:∃u,h'.get? e=some u):Un fs ex H (upd H x o) h h':=by
 have hx:∀b,H b=none->b≠x:=fun b n z=>by subst z;rw[n]at mu;exact mu
 have hb:∀b,H b=none->b≠e:=fun b n z=>by
  subst z;rcases he with r|r
  ·exact hx b n r
  rw[n]at r;cases r
 have hm:∀b u,H b=some u->¬Mut (some u)->b≠x:=fun b u q nm z=>by subst z;rw[q]at mu;exact nm mu
 refine⟨fun b u q n _ _=>k b u (hb b n) q,fun b u q n _ _=>⟨u.slots,k b u (hb b n) q⟩,fun b u q n _=>by rw[aP (hx b n)];exact n,fun b u q _=>?_,
  fun b xs q=>by rw[aP (hm b _ q fun z=>z)];exact q,fun b u xs q=>by rw[aP (hm b _ q fun z=>z)];exact q,fun b ps q=>⟨#[],by rw[aP (hm b _ q fun z=>z),q];simp⟩⟩
 by_cases hbe:b=e
 ·subst hbe;exact heo
 exact⟨u,k b u hbe q⟩
end
noncomputable def trk(h:QR)(H:Hp):List QA:=(A_ h.objs.size).filter fun a=>(H a).isSome
noncomputable def tE(h:QR)(H:Hp):QR:=PySem.W.hideAll h (trk h H)
theorem AI(h:QR)(H:Hp):(tE h H).objs.size=h.objs.size:=PySem.W.hideAll_size _ _
theorem D9{o:Obj}(e:h.get? b=some o)(n:H b=none):(tE h H).get? b=some o:=
 PySem.W.hideAll_get _ e fun hm=>by have q:(H b).isSome=true:=(LR.mp hm).2;rw[n]at q;simp at q
theorem Fs{o:Obj}(e:(tE h H).get? b=some o):h.get? b=some o/\H b=none:=by
 have e':h.get? b=some o:=PySem.W.of_hideAll (trk h H) e;refine⟨e',?_⟩;cases q:H b with
 |none=>rfl
 |some x=>
  have hm:b∈trk h H:=LR.mpr ⟨Kk.mpr (QK e'),by simp[q]⟩;have z:(tE h H).get? b=none:=PySem.W.hideAll_none (trk h H) hm;rw[z]at e;cases e
noncomputable def Fi(g h:QR)(L:QA):List (QA×Obj):=(A_ h.objs.size).filterMap fun a=>if a=L\/(g.get? a).isSome=true then none else(h.get? a).map fun o=>(a,o)
noncomputable def rest(g h:QR)(L d:QA):List (QA×Obj):=(Fi g h L).filter fun p=>decide (p.1≠d)
structure Mod (K:Qz) (mg:Str->Option Qy) (base:QR):Prop where
 kin:K.In base
 glob:base.Ns Ru mg
 blt:∃mb,base.Ns U2 mb/\∀x:Str,x≠"__name__"->mb x=R6 x
 nolimit:base.NoLimit
structure Cx where
 prog:QL
 w:QP
 K:Qz
 mg:Str->Option Qy
 base:QR
 A:QY
 N:List Str
 s₀:QB
 H₀:Hp
 env:Env
 outer:List Env
 stack:List Env
 ex:List QA
 fn:Str->Bool
 calm:Bool
 pn:List (QA×Obj)
 xe:Qy->QB->Prop
noncomputable def frs(l:List Env):List QA:=l.filterMap (·.frame)
abbrev Cx.fs (X:Cx):List QA:=frs X.outer
noncomputable def Vis(sc:RC)(x:Str):Prop:=sc.names.lookup x=some .local\/sc.names.lookup x=some .cell\/sc.names.lookup x=some .free
noncomputable def Loc(sc:RC)(x:Str):Prop:=sc.names.lookup x=some .local\/sc.names.lookup x=some .cell
noncomputable def Look(env:Env)(h:QR)(m:Str->Option Qy)(x:Str)(u:Qy):Prop:=
 (env.kindOf x=some .local/\m x=some u)\/((env.kindOf x=some .cell\/env.kindOf x=some .free)/\∃c,env.cells.lookup x=some c/\h.IsCell c (some u))
structure Cx.Ok (X:Cx):Prop where
 mod:Mod X.K X.mg X.base
 kind:X.env.scope.kind=.function
 glob:X.env.globals=Ru
 blt:X.env.builtins=U2
 above:X.s₀.heap.objs.size<=X.env.locals
 inj:∀x y c,X.env.cells.lookup x=some c->X.env.cells.lookup y=some c->x=y
 has:∀x,(X.env.kindOf x=some .cell\/X.env.kindOf x=some .free)->∃c,X.env.cells.lookup x=some c
 cab:∀x c,X.fn x=true->X.env.cells.lookup x=some c->X.s₀.heap.objs.size<=c
 hd:X.calm=true->X.A.handled=none
 frames:X.A.frames=some X.stack
 stk:X.stack=X.outer\/(X.stack=X.env::X.outer/\X.env.frame=some X.env.locals)
 exf:∀b∈X.ex,b≠X.env.locals/\∀x c,X.env.cells.lookup x=some c->c≠b
 bs:∀b o,X.base.get? b=some o->X.s₀.heap.get? b=some o/\X.H₀ b=none
 bsz:X.base.objs.size<=X.s₀.heap.objs.size
 noex:∀b o,X.base.get? b=some o->b ∉ X.ex
 exfs:∀b∈X.ex,b ∉ X.fs
 qG:X.s₀.heap.FunFrames X.base X.outer
 frf:∀b∈X.fs,X.H₀ b=none
structure Inv (X:Cx) (pins:List (QA×Obj)) (σ:List (Option V)) (H:Hp) (s:QB):Prop where
 ok:X.Ok
 os:s.os=X.s₀.os
 bare:Ts s.gens
 base:Un X.fs X.ex X.H₀ H X.s₀.heap s.heap
 loc:∃m,s.heap.Ns X.env.locals m/\∀(i:Nat) (x:Str) (v:V),X.N[i]?=some x->σ[i]?=some (some v)->Vis X.env.scope x->∃u,RelV v u/\Look X.env s.heap m x u
 cell:∀x c,X.env.cells.lookup x=some c->∃v,s.heap.IsCell c v
 free:H X.env.locals=none
 freeC:∀x c,X.env.cells.lookup x=some c->H c=none
 pin:∀p∈X.pn++pins,s.heap.get? p.1=some p.2/\H p.1=none/\p.1≠X.env.locals/\p.1 ∉ X.fs/\∀v,p.2.data≠.cell v
 hok:HOk X.prog X.w H s.heap
 len:σ.length=X.N.length
variable {M:SH}{N:List Str}{Q:Unit->QB->Prop}{ch:List QA}{g':Array VI}{i t':Nat}{v:V}{x:Str}
section
variable{X:Cx}{pins:List (QA×Obj)}{σ:List (Option V)}{H H':Hp}{s:QB}{h':QR}
theorem Cx.Ok.Lh (ok:X.Ok){o:Obj}(e:X.base.get? b=some o):b ∉ X.fs:=fun hb=>by have:=(ok.qG.mem hb).1;rw[e]at this;cases this
theorem Inv.bs (I:Inv X pins σ H s):∀b o,X.base.get? b=some o->s.heap.get? b=some o/\H b=none:=fun b o e=>
 ⟨I.base.keep b o (I.ok.bs b o e).1 (I.ok.bs b o e).2 (I.ok.Lh e) (I.ok.noex b o e),I.base.free b o (I.ok.bs b o e).1 (I.ok.bs b o e).2 (I.ok.noex b o e)⟩
theorem Inv.bk (I:Inv X pins σ H s):∀b o,X.base.get? b=some o->s.heap.get? b=some o:=fun b o e=>(I.bs b o e).1
theorem Inv.mod (I:Inv X pins σ H s):Mod X.K X.mg X.base:=I.ok.mod
theorem Inv.kIn (I:Inv X pins σ H s):X.K.In s.heap:=I.ok.mod.kin.keeps I.bk
theorem Inv.lt (I:Inv X pins σ H s):X.env.locals<s.heap.objs.size:=let ⟨_,hn,_⟩:=I.loc;hn.lt
theorem Inv.sz (I:Inv X pins σ H s):X.s₀.heap.objs.size<=s.heap.objs.size:=t_ I.ok.above (J_ I.lt)
theorem Inv.Lw (I:Inv X pins σ H s)(h:s.heap.objs.size<=a):a ∉ X.fs:=fun hb=>by obtain⟨_,o,ho,_⟩:=I.ok.qG.mem hb;exact absurd (z_ (QK ho) (t_ I.sz h)) (MJ _)
theorem Inv.cne (I:Inv X pins σ H s):∀x c,X.env.cells.lookup x=some c->c≠X.env.locals:=fun x c e z=>by obtain⟨v,o,ho,hd⟩:=I.cell x c e;obtain⟨m,⟨o',es,ep,ho',hd',_⟩,_⟩:=I.loc;rw[z,ho']at ho;cases ho;rw[hd']at hd;cases hd
theorem Inv.qG (I:Inv X pins σ H s):s.heap.FunFrames X.base X.outer:=by
 have all:∀(l:List Env),(∀b∈frs l,b∈X.fs)->X.s₀.heap.FunFrames X.base l->s.heap.FunFrames X.base l:=by
  intro l;induction l with
  |nil=>intro _ _;trivial
  |cons env r ih=>
   intro hs hl;obtain⟨hk,⟨L,o,hf,hn,ho,hd⟩,hr⟩:=hl;have hL:L∈X.fs:=hs L (by unfold frs;rw[Ot,hf];exact o_);obtain⟨sl,e⟩:=I.base.slot L o ho (I.ok.frf L hL) hL fun z=>I.ok.exfs L z hL;exact⟨hk,⟨L,_,hf,hn,e,hd⟩,ih (fun b hb=>hs b (by unfold frs;rw[Ot,hf];exact k_ _ hb)) hr⟩
 exact all X.outer (fun _ hb=>hb) I.ok.qG
theorem Inv.stack (I:Inv X pins σ H s):s.heap.FunFrames X.base X.stack:=by
 rcases I.ok.stk with e|⟨e,hf⟩
 ·rw[e];exact I.qG
 rw[e];obtain⟨m,hn,_⟩:=I.loc;refine .cons (by rw[I.ok.kind];decide) hf hn ?_ I.qG;exact Heap.get?_none_of_le (t_ I.ok.bsz I.ok.above)
theorem Inv.xW (I:Inv X pins σ H s):∀b∈frs X.stack,b∈X.env.locals::X.fs:=fun b hb=>by
 rcases I.ok.stk with e|⟨e,hf⟩
 ·rw[e]at hb;exact k_ _ hb
 rw[e]at hb;unfold frs at hb;rw[Ot,hf]at hb;exact hb
theorem Inv.yF (I:Inv X pins σ H s):∀b∈frs X.stack,H b=none:=fun b hb=>by
 rcases m_.mp (I.xW b hb)with e|hb
 ·rw[e];exact I.free
 obtain⟨_,o,ho,_⟩:=I.ok.qG.mem hb;exact I.base.free b o ho (I.ok.frf b hb) fun z=>I.ok.exfs b z hb
theorem Inv.step {d':WV}(I:Inv X pins σ H s)
  (hch:∀b∈ch,(b∈X.ex\/X.s₀.heap.objs.size<=b)/\b≠X.env.locals/\(∀x c,X.env.cells.lookup x=some c->c≠b)/\∀p∈X.pn++pins,p.1≠b)
  (keep:∀b o,b≠X.env.locals->b ∉ X.fs->b ∉ ch->s.heap.get? b=some o->H b=none->h'.get? b=some o)
  (slot:∀b o,b≠X.env.locals->b∈X.fs->b ∉ ch->s.heap.get? b=some o->H b=none->∃sl,h'.get? b=some {o with slots:=sl}) (free:∀b o,b ∉ ch->s.heap.get? b=some o->H b=none->H' b=none)
  (there:∀b o,b ∉ ch->s.heap.get? b=some o->∃o',h'.get? b=some o')
  (tups:∀b xs,H b=some (.tup xs)->H' b=some (.tup xs)) (frzs:∀b o u,H b=some (.frz o u)->H' b=some (.frz o u)) (tbls:∀b ps,H b=some (.tbl ps)->∃more,H' b=some (.tbl (ps++more)))
  (ns:∀m,s.heap.Ns X.env.locals m->h'.Ns X.env.locals m) (hok:HOk X.prog X.w H' h') (hg:Ts g') :
  Inv X pins σ H' {s with heap:=h',gens:=g',drawn:=d',toks:=t'}:=by
 have neL:∀b o,X.s₀.heap.get? b=some o->b≠X.env.locals:=fun b o e=>v_ (z_ (QK e) I.ok.above);have neC:∀b o,X.s₀.heap.get? b=some o->b ∉ X.ex->b ∉ ch:=fun b o e hx hb=>by
  rcases(hch b hb).1 with z|z
  ·exact hx z
  exact absurd (z_ (QK e) z) (MJ _)
 have cellK:∀x c,X.env.cells.lookup x=some c->∀v,s.heap.IsCell c v->h'.IsCell c v:=fun x c e v ⟨o,ho,hd⟩=>by
  have nch:c ∉ ch:=fun z=>(hch c z).2.2.1 x c e rfl;by_cases hc:c∈X.fs
  ·obtain⟨sl,q⟩:=slot c o (I.cne x c e) hc nch ho (I.freeC x c e);exact⟨_,q,hd⟩
  exact⟨o,keep c o (I.cne x c e) hc nch ho (I.freeC x c e),hd⟩
 refine⟨I.ok,I.os,hg,⟨fun b o e n hb hx=>?_,fun b o e n hb hx=>?_,fun b o e n hx=>?_,fun b o e hx=>?_,fun b xs e=>tups b xs (I.base.tups b xs e),fun b o xs e=>frzs b o xs (I.base.frzs b o xs e),fun b ps e=>?_⟩,?_,fun x c e=>?_,?_,fun x c e=>?_,fun p hp=>?_,hok,I.len⟩
 ·exact keep b o (neL b o e) hb (neC b o e hx) (I.base.keep b o e n hb hx) (I.base.free b o e n hx)
 ·obtain⟨sl,e1⟩:=I.base.slot b o e n hb hx;obtain⟨sl',e2⟩:=slot b _ (neL b o e) hb (neC b o e hx) e1 (I.base.free b o e n hx);exact⟨sl',e2⟩
 ·obtain⟨o',e1⟩:=I.base.there b o e hx;exact free b o' (neC b o e hx) e1 (I.base.free b o e n hx)
 ·obtain⟨o',e1⟩:=I.base.there b o e hx;exact there b o' (neC b o e hx) e1
 ·obtain⟨m1,e1⟩:=I.base.tbls b ps e;obtain⟨m2,e2⟩:=tbls b _ e1;exact⟨m1++m2,by rw[e2,Array.append_assoc]⟩
 ·obtain⟨m,hn,hl⟩:=I.loc;refine⟨m,ns m hn,fun i x v e1 e2 e3=>?_⟩;obtain⟨u,r,l⟩:=hl i x v e1 e2 e3;refine⟨u,r,?_⟩;rcases l with l|⟨k,c,e,z⟩
  ·exact .inl l
  exact .inr ⟨k,c,e,cellK x c e _ z⟩
 ·obtain⟨v,z⟩:=I.cell x c e;exact⟨v,cellK x c e v z⟩
 ·obtain⟨m,⟨o,_,_,ho,_⟩,_⟩:=I.loc;exact free _ o (fun z=>(hch _ z).2.1 rfl) ho I.free
 ·obtain⟨v,o,ho,hd⟩:=I.cell x c e;exact free c o (fun z=>(hch c z).2.2.1 x c e rfl) ho (I.freeC x c e)
 obtain⟨e,n,ne,nf,d⟩:=I.pin p hp;have nch:p.1 ∉ ch:=fun z=>(hch p.1 z).2.2.2 p hp rfl;exact⟨keep p.1 p.2 ne nf nch e n,free p.1 p.2 nch e n,ne,nf,d⟩
theorem Inv.un (I:Inv X pins σ H s)(u:Un X.fs [] H H' s.heap h')(hok:HOk X.prog X.w H' h'):Inv X pins σ H' {s with heap:=h',toks:=t'}:=by
 obtain⟨m,⟨o,es,ep,ho,r⟩,_⟩:=id I.loc;obtain⟨sl,hL⟩:=u.any ho I.free (by simp);exact I.step (g':=s.gens) (d':=s.drawn) (ch:=[]) (fun _ z=>nomatch z) (fun b o _ hb _ e n=>u.keep b o e n hb (by simp)) (fun b o _ hb _ e n=>u.slot b o e n hb (by simp)) (fun b o _ e n=>u.free b o e n (by simp)) (fun b o _ e=>u.there b o e (by simp)) u.tups u.frzs u.tbls (fun m' hm=>by obtain⟨o',es',ep',ho',r'⟩:=hm;rw[ho]at ho';cases ho';exact⟨_,es',ep',hL,r'⟩) hok I.bare
theorem Inv.call {d':WV}(I:Inv X pins σ H s)(u:Un (frs X.stack) ch H H' s.heap h')(hok:HOk X.prog X.w H' h')(hg:Ts g')
  (hch:∀b∈ch,(b∈X.ex\/X.s₀.heap.objs.size<=b)/\b≠X.env.locals/\(∀x c,X.env.cells.lookup x=some c->c≠b)/\∀p∈X.pn++pins,p.1≠b) :
  Inv X pins σ H' {s with heap:=h',gens:=g',drawn:=d',toks:=t'}:=by
 obtain⟨m,⟨o,es,ep,ho,r⟩,_⟩:=id I.loc;obtain⟨sl,hL⟩:=u.any ho I.free fun z=>(hch _ z).2.1 rfl;exact I.step (ch:=ch) hch (fun b o hL hb hc e n=>u.keep b o e n (fun z=>(m_.mp (I.xW b z)).elim hL hb) hc) (fun b o _ _ hc e n=>u.any e n hc) (fun b o hc e n=>u.free b o e n hc) (fun b o hc e=>u.there b o e hc) u.tups u.frzs u.tbls (fun m' hm=>by obtain⟨o',es',ep',ho',r'⟩:=hm;rw[ho]at ho';cases ho';exact⟨_,es',ep',hL,r'⟩) hok hg
theorem Inv.turned {it:QA}(I:Inv X pins σ H s)(k:∀b o,b≠it->s.heap.get? b=some o->h'.get? b=some o)(hn:H it=none)(hL:it≠X.env.locals)
  (h1:it∈X.ex\/X.s₀.heap.objs.size<=it) (h2:∀x c,X.env.cells.lookup x=some c->c≠it) (h3:∀p∈X.pn++pins,p.1≠it):Inv X pins σ H {s with heap:=h',toks:=t'}:=by
 have nit:∀b u,H b=some u->b≠it:=fun b u e z=>by rw[z,hn]at e;cases e
 refine I.step (g':=s.gens) (d':=s.drawn) (ch:=[it]) (fun b hb=>?_) (fun b o _ _ hc e _=>k b o (fun z=>hc (by simp[z])) e) (fun b o _ _ hc e _=>⟨o.slots,k b o (fun z=>hc (by simp[z])) e⟩) (fun _ _ _ _ n=>n)
  (fun b o hc e=>⟨o,k b o (fun z=>hc (by simp[z])) e⟩) (fun _ _ e=>e) (fun _ _ _ e=>e) (fun b ps e=>⟨#[],by rw[e];simp⟩) (fun m hm=>?_) (fun b u e=>?_) I.bare
 ·have e:b=it:=by simpa using hb
  subst e;exact⟨h1,hL,h2,h3⟩
 ·obtain⟨o,es,ep,ho,r⟩:=hm;exact⟨o,es,ep,k _ o (Sw hL) ho,r⟩
 refine(I.hok b u e).oJ (fun c v hc q=>k c v ?_ q) (fun _ q=>q) fun _ _ q=>q;rcases hc with z|z
 ·rw[z];exact nit b u e
 exact nit c _ z
theorem Inv.tok (I:Inv X pins σ H s)(t:Nat):Inv X pins σ H {s with toks:=t}:=I.un (h':=s.heap) (t':=t) Un.refl I.hok
theorem Inv.kept (I:Inv X pins σ H s)(k:∀b u,s.heap.get? b=some u->h'.get? b=some u):Inv X pins σ H {s with heap:=h',toks:=t'}:=I.un (Un.kept k) (I.hok.kept k)
theorem Inv.laid (I:Inv X pins σ H s)(k:∀b u,s.heap.get? b=some u->h'.get? b=some u)(hp:s.heap.objs.size<=a)(new:bg X.prog X.w (upd H a o) h' a o) :
  Inv X pins σ (upd H a o) {s with heap:=h',toks:=t'}:=I.un (Un.laid k hp (I.hok.fresh hp)) (I.hok.laid k hp new)
theorem Inv.write {x e:QA}(I:Inv X pins σ H s)(mu:Mut (H x))(he:e=x\/H e=some (.own x))(k:∀b u,b≠e->s.heap.get? b=some u->h'.get? b=some u)(heo:∃u,h'.get? e=some u)
  (new:bg X.prog X.w (upd H x o) h' x o):Inv X pins σ (upd H x o) {s with heap:=h',toks:=t'}:=I.un (Un.write mu he k heo) (I.hok.write mu he k heo new)
theorem Inv.yq {pins':List (QA×Obj)}(I:Inv X pins σ H s)(h:∀p∈pins',s.heap.get? p.1=some p.2/\H p.1=none/\p.1≠X.env.locals/\p.1 ∉ X.fs/\∀v,p.2.data≠.cell v):Inv X pins' σ H s:=
 ⟨I.ok,I.os,I.bare,I.base,I.loc,I.cell,I.free,I.freeC,fun p hp=>(x_.mp hp).elim (fun z=>I.pin p (y_ _ z)) (h p),I.hok,I.len⟩
theorem vO(hN:N.Nodup){j:Nat}(a:N[i]?=some x)(b:N[j]?=some x):i=j:=by obtain⟨h1,e1⟩:=f_.mp a;obtain⟨h2,e2⟩:=f_.mp b;exact(List.getElem_inj hN).mp (e1.trans e2.symm)
theorem sG(I:Inv X pins σ H s)(hN:X.N.Nodup)(hi:X.N[i]?=some x)(hx:Loc X.env.scope x)(r:RelV v u)
  (h:∀s',Inv X pins (σ.set i (some v)) H s'->(∃a,Rt a s.heap s'.heap/\(a=X.env.locals\/X.env.cells.lookup x=some a))->Q () s') (hf:X.fn x=true\/X.env.scope.names.lookup x=some .local:=by first|exact .inl rfl|exact .inr rfl|assumption):QG M A (WA X.env x u) Q E s:=by
 obtain⟨m,hn,hl⟩:=id I.loc;have hcls:(X.env.scope.kind == .class || (X.env.scope.kind == .module&&X.env.locals != X.env.globals))=false:=by rw[I.ok.kind];rfl
 have hiσ:i<σ.length:=by rw[I.len];exact(f_.mp hi).1
 have cne:=I.cne;have tracked:∀{a:QA}{h':QR},(∃o,s.heap.get? a=some o/\H a=none)->Rt a s.heap h'->HOk X.prog X.w H h':=fun{a h'} ha hs b ob e=>by
  obtain⟨_,_,hfree⟩:=ha;refine(I.hok b ob e).oJ (fun c w' hc q=>(hs.2 c ?_).trans q) (fun _ q=>q) fun _ _ q=>q;rintro rfl;rcases hc with rfl|hc
  ·rw[hfree]at e;cases e
  rw[hfree]at hc;cases hc
 rcases hx with hk|hk
 ·refine wpAny_storeName_local hk hn (fun h' hn' hs=>?_) hcls;obtain⟨oL,_,_,hoL,_⟩:=id hn;refine h _ ⟨I.ok,I.os,I.bare,⟨fun b o e n hb hx=>?_,fun b o e n hb hx=>?_,I.base.free,fun b o e hx=>?_,I.base.tups,I.base.frzs,I.base.tbls⟩,⟨_,hn',fun j y v' e1 e2 e3=>?_⟩,fun y c e=>?_,I.free,I.freeC,fun p hp=>?_,tracked ⟨oL,hoL,I.free⟩ hs,by simpa using I.len⟩ ⟨_,hs,.inl rfl⟩
  ·exact(hs.2 b (v_ (z_ (QK e) I.ok.above))).trans (I.base.keep b o e n hb hx)
  ·obtain⟨sl,e1⟩:=I.base.slot b o e n hb hx;exact⟨sl,(hs.2 b (v_ (z_ (QK e) I.ok.above))).trans e1⟩
  ·obtain⟨o',e1⟩:=I.base.there b o e hx;exact⟨o',(hs.2 b (v_ (z_ (QK e) I.ok.above))).trans e1⟩
  ·by_cases hj:j=i
   ·subst hj;rw[hi]at e1;cases e1;rw[N4 hiσ]at e2;cases e2;exact⟨u,r,.inl ⟨hk,by simp⟩⟩
   rw[Ob (Sw hj)]at e2;obtain⟨u',r',q⟩:=hl j y v' e1 e2 e3;refine⟨u',r',?_⟩;rcases q with⟨k,e⟩|⟨k,c,e,z⟩
   ·refine .inl ⟨k,?_⟩;have:y≠x:=fun e=>hj (vO hN e1 (e▸hi));simp[this,e]
   exact .inr ⟨k,c,e,z.sameBut hs (cne y c e)⟩
  ·obtain⟨w',z⟩:=I.cell y c e;exact⟨w',z.sameBut hs (cne y c e)⟩
  obtain⟨e,n,ne,nf,d⟩:=I.pin p hp;exact⟨(hs.2 p.1 ne).trans e,n,ne,nf,d⟩
 have hfn:X.fn x=true:=by
  rcases hf with z|z
  ·exact z
  rw[z]at hk;cases hk
 obtain⟨c,hc⟩:=I.ok.has x (.inl hk);obtain⟨w',z⟩:=I.cell x c hc;refine wpAny_storeName_cell I.ok.kind hk hc z (fun h' hc' hs=>?_);obtain⟨oc,hoc,hocd⟩:=id z;refine h {s with heap:=h'} ⟨I.ok,I.os,I.bare,⟨fun b o e n hb hx=>?_,fun b o e n hb hx=>?_,I.base.free,fun b o e hx=>?_,I.base.tups,I.base.frzs,I.base.tbls⟩,⟨m,hn.sameBut hs (Sw (cne x c hc)),fun j y v' e1 e2 e3=>?_⟩,fun y c' e=>?_,I.free,I.freeC,fun p hp=>?_,tracked ⟨oc,hoc,I.freeC x c hc⟩ hs,by simpa using I.len⟩ ⟨c,hs,.inr hc⟩
 ·exact(hs.2 b (v_ (z_ (QK e) (I.ok.cab x c hfn hc)))).trans (I.base.keep b o e n hb hx)
 ·obtain⟨sl,e1⟩:=I.base.slot b o e n hb hx;exact⟨sl,(hs.2 b (v_ (z_ (QK e) (I.ok.cab x c hfn hc)))).trans e1⟩
 ·obtain⟨o',e1⟩:=I.base.there b o e hx;exact⟨o',(hs.2 b (v_ (z_ (QK e) (I.ok.cab x c hfn hc)))).trans e1⟩
 ·by_cases hj:j=i
  ·subst hj;rw[hi]at e1;cases e1;rw[N4 hiσ]at e2;cases e2;exact⟨u,r,.inr ⟨.inl hk,c,hc,hc'⟩⟩
  rw[Ob (Sw hj)]at e2;obtain⟨u',r',q⟩:=hl j y v' e1 e2 e3;refine⟨u',r',?_⟩;rcases q with q|⟨k,c',e,z'⟩
  ·exact .inl q
  refine .inr ⟨k,c',e,z'.sameBut hs ?_⟩;rintro rfl;exact hj (vO hN e1 (I.ok.inj _ _ _ e hc▸hi))
 ·by_cases hcc:c'=c
  ·subst hcc;exact⟨_,hc'⟩
  obtain⟨w2,z2⟩:=I.cell y c' e;exact⟨w2,z2.sameBut hs hcc⟩
 obtain⟨e,n,ne,nf,d⟩:=I.pin p hp;refine⟨(hs.2 p.1 ?_).trans e,n,ne,nf,d⟩;intro q;rw[q,hoc]at e;have q':oc=p.2:=I_ e;exact d w' (by rw[<-q'];exact hocd)
theorem qd(I:Inv X pins σ H s)(hN:X.N.Nodup)(hi:X.N[i]?=some x)(hx:Loc X.env.scope x)(r:RelV v u)
  (h:∀s',Inv X pins (σ.set i (some v)) H s'->Q () s') (hf:X.fn x=true\/X.env.scope.names.lookup x=some .local:=by first|exact .inl rfl|exact .inr rfl|assumption):QG M A (WA X.env x u) Q E s:=
 sG I hN hi hx r (fun s' I' _=>h s' I') hf
theorem Inv.Gm {s':QB}(I:Inv X pins σ H s)(ho:s'.os=s.os)(u:Un (frs X.stack) ch H H' s.heap s'.heap)(hok:HOk X.prog X.w H' s'.heap)(hg:Ts s'.gens)
  (hch:∀b∈ch,(b∈X.ex\/X.s₀.heap.objs.size<=b)/\b≠X.env.locals/\(∀x c,X.env.cells.lookup x=some c->c≠b)/\∀p∈X.pn++pins,p.1≠b):Inv X pins σ H' s':=by
 obtain⟨h',g',d',t',o'⟩:=s';have e:o'=s.os:=ho;subst e;exact I.call (g':=g') (t':=t') (d':=d') u hok hg hch
end
abbrev XK:=Qy->Option QA->Hp->Prop
abbrev St:=List (Option V)
abbrev VK:=V->Hp->Prop
abbrev TE:=St->Hp->VK->Prop
abbrev TT:=St->Hp->(Bool->Hp->Prop)->Prop
abbrev TA:=St->Hp->(List V->Hp->Prop)->Prop
structure Ends where
 nx:St->Hp->Prop
 rt:VK
 bk:St->Hp->Prop:=fun _ _=>False
 ct:St->Hp->Prop:=fun _ _=>False
abbrev TS:=Ends->St->Hp->Prop
noncomputable def EP(X:Cx)(pins:List (QA×Obj))(σ:St)(Q:VK)(u:Qy)(s':QB):Prop:=∃v H',Inv X pins σ H' s'/\RelV v u/\Q v H'
noncomputable def TP(X:Cx)(pins:List (QA×Obj))(σ:St)(Q:Bool->Hp->Prop)(b:Bool)(s':QB):Prop:=∃H',Inv X pins σ H' s'/\Q b H'
noncomputable def AP(X:Cx)(pins:List (QA×Obj))(σ:St)(Q:List V->Hp->Prop)(us:List Qy)(s':QB):Prop:=∃vs H',Inv X pins σ H' s'/\Vals vs us/\Q vs H'
noncomputable def SP(X:Cx)(pins:List (QA×Obj))(D:Ends)(f:Flow)(s':QB):Prop:=
 match f with
 | .next=>∃ σ' H',Inv X pins σ' H' s'/\D.nx σ' H'
 | .brk=>∃ σ' H',Inv X pins σ' H' s'/\D.bk σ' H'
 | .cont=>∃ σ' H',Inv X pins σ' H' s'/\D.ct σ' H'
 | .ret u=>∃v σ' H',Inv X pins σ' H' s'/\RelV v u/\D.rt v H'
noncomputable def PE(X:Cx)(e:QQ)(t:TE):Prop:=
 ∀(pins:List (QA×Obj)) (s:QB) (σ:St) (H:Hp) (Q:VK),Inv X pins σ H s->t σ H Q->QG (QM X.prog X.w) X.A (Q9 e X.env) (EP X pins σ Q) X.xe s
noncomputable def PT(X:Cx)(e:QQ)(t:TT):Prop:=
 ∀(pins:List (QA×Obj)) (s:QB) (σ:St) (H:Hp) (Q:Bool->Hp->Prop),Inv X pins σ H s->t σ H Q->QG (QM X.prog X.w) X.A (Vh e X.env (Q9 e X.env)) (TP X pins σ Q) X.xe s
noncomputable def PW(X:Cx)(e:QQ)(t:TT):Prop:=
 ∀(whole:Sem Qy) (pins:List (QA×Obj)) (s:QB) (σ:St) (H:Hp) (Q:Bool->Hp->Prop),Inv X pins σ H s->t σ H Q->QG (QM X.prog X.w) X.A (Vh e X.env whole) (TP X pins σ Q) X.xe s
variable {X:Cx}{e:QQ}
theorem PW.pt {t:TT}(h:PW X e t):PT X e t:=h _
noncomputable def PA(X:Cx)(es:List QQ)(t:TA):Prop:=
 ∀(pos:Pos) (pins:List (QA×Obj)) (s:QB) (σ:St) (H:Hp) (Q:List V->Hp->Prop),Inv X pins σ H s->t σ H Q->QG (QM X.prog X.w) X.A (spliced (SM pos (QS es X.env))) (AP X pins σ Q) X.xe s
noncomputable def PS(X:Cx)(st:Q6)(t:TS):Prop:=
 ∀(pins:List (QA×Obj)) (s:QB) (σ:St) (H:Hp) (D:Ends),Inv X pins σ H s->t D σ H->QG (QM X.prog X.w) X.A (exec st X.env) (SP X pins D) X.xe s
noncomputable def PSs(X:Cx)(st:List Q6)(t:TS):Prop:=
 ∀(pins:List (QA×Obj)) (s:QB) (σ:St) (H:Hp) (D:Ends),Inv X pins σ H s->t D σ H->QG (QM X.prog X.w) X.A (execs st X.env) (SP X pins D) X.xe s
theorem thn{α:Type}{t:Sem α}{Q Q':α->QB->Prop}(h:QG M A t Q E s)(hQ:∀a s,Q a s->Q' a s):QG M A t Q' E s:=Q7 h hQ fun _ _ x=>x
variable {c:QQ}{pins:List (QA×Obj)}{pos:Pos}{σ:St}
section
variable{X:Cx}
noncomputable def Hd(i:Nat):TE:=fun σ H Q=>∃v,σ[i]?=some (some v)/\Q v H
noncomputable def tC(v:V):TE:=fun _ H Q=>Q v H
theorem fZ(hN:X.N[i]?=some x)(hv:Vis X.env.scope x)(hd:(x ==("__debug__":Str))=false:=by decide)(hcd:(x ==("__classdict__":Str))=false:=by decide):PE X (.Name x pos) (Hd i):=by
 intro pins s σ H Q I h;obtain⟨v,e,h⟩:=h;obtain⟨m,hn,hl⟩:=I.loc;obtain⟨u,r,l⟩:=hl i x v hN e hv;have fin:EP X pins σ Q u s:=⟨v,H,I,r,h⟩;rcases l with⟨hk,hm⟩|⟨hk,c,hc,hcell⟩
 ·exact VZ (U3 I.ok.kind hk hn hm fin) hd
 rcases hk with hk|hk
 ·exact VZ (Ve I.ok.kind hk hc hcell fin) hd
 exact VZ (wpAny_loadName_free I.ok.kind hk hc hcell fin hcd) hd
theorem bX{i j pos}:PE X (.Constant (.int i) j pos) (tC (.int i)):=fun _ _ _ H _ I h=>wpAny_Constant_int ⟨.int i,H,I.tok _,⟨_,rfl⟩,h⟩
theorem Jd{b j pos}:PE X (.Constant (.bool b) j pos) (tC (.bl b)):=fun _ _ _ H _ I h=>WG ⟨.bl b,H,I,rfl,h⟩
theorem HC{j pos}:PE X (.Constant .none j pos) (tC .non):=fun _ _ _ H _ I h=>Constant_none ⟨.non,H,I,rfl,h⟩
theorem gK{x j pos}:PE X (.Constant (.str x) j pos) (tC (.str x)):=fun _ _ _ H _ I h=>Calls.Constant_str ⟨.str x,H,I.tok _,⟨_,rfl⟩,h⟩
noncomputable def Gl(X:Cx)(x:Str):Prop:=X.env.kindOf x=some .globalImplicit
theorem zo{Q:Qy->QB->Prop}(I:Inv X pins σ H s)(hg:Gl X x)(hm:X.mg x=some u)(h:Q u s)
  (hd:(x ==("__debug__":Str))=false:=by decide):QG (QM X.prog X.w) X.A (Q9 (.Name x pos) X.env) Q E s:=
 T7 I.ok.kind hg (Calls.loadGlobal_global (by rw[I.ok.glob];exact I.mod.glob.keeps I.bk) hm h) hd
theorem dN{Q:Qy->QB->Prop}(I:Inv X pins σ H s)(hg:Gl X x)(hm:X.mg x=none)(hv:R6 x=some u)(h:Q u s)
  (hn:x≠"__name__":=by decide) (hd:(x ==("__debug__":Str))=false:=by decide):QG (QM X.prog X.w) X.A (Q9 (.Name x pos) X.env) Q E s:=by
 obtain⟨mb,h1,h2⟩:=I.mod.blt;exact T7 I.ok.kind hg (Calls.loadGlobal_builtin (by rw[I.ok.glob];exact I.mod.glob.keeps I.bk) hm (by rw[I.ok.blt];exact h1.keeps I.bk) ((h2 x hn).trans hv) h) hd
theorem DS(hg:Gl X x)(hm:X.mg x=some u)(r:RelV v u)(hd:(x ==("__debug__":Str))=false:=by decide):PE X (.Name x pos) (tC v):=
 fun _ _ _ H _ I h=>zo I hg hm ⟨v,H,I,r,h⟩ hd
theorem F9(hg:Gl X x)(hm:X.mg x=none)(hv:R6 x=some u)(r:RelV v u)(hn:x≠"__name__":=by decide)(hd:(x ==("__debug__":Str))=false:=by decide):PE X (.Name x pos) (tC v):=
 fun _ _ _ H _ I h=>dN I hg hm hv ⟨v,H,I,r,h⟩ hn hd
variable{a b:QQ}{ta tb:TE}{pos:Pos}
variable{tA tB':TT}{rest:List QQ}
noncomputable def LJ(t u:TT):TT:=fun σ H Q=>t σ H fun c H1=>if c=true then u σ H1 Q else Q false H1
noncomputable def tOr(t u:TT):TT:=fun σ H Q=>t σ H fun c H1=>if c=true then Q true H1 else u σ H1 Q
noncomputable def Lk(t:TT):TT:=fun σ H Q=>t σ H fun c H1=>Q (!c) H1
theorem Fj(ha:PT X a tA):PW X (.BoolOp .And [a] pos) tA:=by
 intro wh pins s σ H Q I h;refine isTrue_and (thn (ha pins s σ H Q I h) fun c s1 e=>?_);cases c with
 |true=>exact isTrue_and_nil e
 |false=>exact e
theorem Hb(ha:PT X a tA):PW X (.BoolOp .Or [a] pos) tA:=by
 intro wh pins s σ H Q I h;refine isTrue_or (thn (ha pins s σ H Q I h) fun c s1 e=>?_);cases c with
 |false=>exact isTrue_or_nil e
 |true=>exact e
theorem Iq(ha:PT X a tA)(hb:PW X (.BoolOp .And (b::rest) pos) tB'):PW X (.BoolOp .And (a::b::rest) pos) (LJ tA tB'):=by
 intro wh pins s σ H Q I h;refine isTrue_and (thn (ha pins s σ H _ I h) ?_);rintro c s1 ⟨H1,I1,q1⟩;cases c with
 |true=>exact hb wh pins s1 σ H1 Q I1 q1
 |false=>exact⟨H1,I1,q1⟩
theorem Jb(ha:PT X a tA)(hb:PW X (.BoolOp .Or (b::rest) pos) tB'):PW X (.BoolOp .Or (a::b::rest) pos) (tOr tA tB'):=by
 intro wh pins s σ H Q I h;refine isTrue_or (thn (ha pins s σ H _ I h) ?_);rintro c s1 ⟨H1,I1,q1⟩;cases c with
 |true=>exact⟨H1,I1,q1⟩
 |false=>exact hb wh pins s1 σ H1 Q I1 q1
theorem Ic(ha:PT X a tA):PT X (.UnaryOp .Not a pos) (Lk tA):=by intro pins s σ H Q I h;exact isTrue_not (ha pins s σ H (fun c H1=>Q (!c) H1) I h)
noncomputable def Kr(ta tb:TE):TE:=fun σ H Q=>ta σ H fun x H1=>∃c,x=.bl c/\if c=true then tb σ H1 Q else Q (.bl false) H1
noncomputable def KG(ta:TE):TE:=fun σ H Q=>ta σ H fun x H1=>∃c,x=.bl c/\Q (.bl (!c)) H1
theorem GU{op}{t:TE}(h:PE X a t):PE X (.BoolOp op [a] pos) t:=fun pins s σ H Q I hw=>BoolOp_one (h pins s σ H Q I hw)
theorem IX(ha:PE X a ta)(hb:PE X (.BoolOp .And (b::rest) pos) tb):PE X (.BoolOp .And (a::b::rest) pos) (Kr ta tb):=by
 intro pins s σ H Q I h;refine BoolOp_and (thn (ha pins s σ H _ I h) ?_);rintro v s1 ⟨x,H1,I1,r1,q1⟩;obtain⟨c,rfl,q1⟩:=q1;cases r1;refine RV ?_;cases c with
 |true=>exact hb pins s1 σ H1 Q I1 q1
 |false=>exact⟨.bl false,H1,I1,rfl,q1⟩
theorem J6(ha:PE X a ta):PE X (.UnaryOp .Not a pos) (KG ta):=by intro pins s σ H Q I h;refine UnaryOp_ (thn (ha pins s σ H _ I h) ?_);rintro v s1 ⟨x,H1,I1,r1,q1⟩;obtain⟨c,rfl,q1⟩:=q1;cases r1;exact not_of (RV ⟨.bl (!c),H1,I1,rfl,q1⟩)
noncomputable def tIf(t:TT)(ta tb:TE):TE:=fun σ H Q=>t σ H fun c H1=>if c=true then ta σ H1 Q else tb σ H1 Q
theorem CY(hc:PT X c tA)(ha:PE X a ta)(hb:PE X b tb):PE X (.IfExp c a b pos) (tIf tA ta tb):=by
 intro pins s σ H Q I h;refine wpAny_IfExp (thn (hc pins s σ H _ I h) ?_);rintro d s1 ⟨H1,I1,q1⟩;cases d with
 |true=>exact ha pins s1 σ H1 Q I1 q1
 |false=>exact hb pins s1 σ H1 Q I1 q1
end
noncomputable def SqL(K:Qz)(H:Hp)(a:QA)(xs:List V):Prop:=
 Rd H a (.lst xs)\/
  ∃(o:Obj) (its:Array Qy) (n:Nat),K.lookup a=some o/\o.cls=.type "list"/\o.dict=none/\o.data=.seq its n/\its.size<=sizeLine/\Vals xs its.toList
noncomputable def SqT(K:Qz)(H:Hp)(a:QA)(xs:List V):Prop:=
 Rd H a (.tup xs)\/
  ∃(o:Obj) (its:Array Qy) (n:Nat),K.lookup a=some o/\o.cls=.type "tuple"/\o.data=.seq its n/\its.size<=sizeLine/\Vals xs its.toList
noncomputable def Lc:Qy->Option V
 | .none=>some .non
 | .bool b=>some (.bl b)
 | .int i _=>some (.int i)
 | .str x _=>some (.str x)
 | .bytes b _=>some (.byt b)
 | .float b _=>some (.flt b)
 | .ref a=>some (.ref a)
 | .type n=>some (.ty n)
 | _=>none
theorem RelV.abs {x:V}(r:RelV x u):Lc u=some x:=by
 cases x with
 |non=>cases r;rfl
 |bl _=>cases r;rfl
 |int _=>obtain⟨t,rfl⟩:=r;rfl
 |str _=>obtain⟨t,rfl⟩:=r;rfl
 |byt _=>obtain⟨t,rfl⟩:=r;rfl
 |flt _=>obtain⟨t,rfl⟩:=r;rfl
 |ref _=>cases r;rfl
 |ty _=>cases r;rfl
theorem RelV.inj {x y:V}(r:RelV x u)(q:RelV y u):x=y:=I_ (r.abs.symm.trans q.abs)
theorem Vals.inj:∀{xs ys:List V}{us:List Qy},Vals xs us->Vals ys us->xs=ys:=by
 intro xs ys us x;induction x generalizing ys with
 |nil=>intro y;cases y;rfl
 |cons r t ih=>
  intro y;cases y with
  |cons r' t'=>rw[r.inj r',ih t']
variable {K:Qz}
section
variable{X:Cx}{pins:List (QA×Obj)}{σ:St}{H:Hp}{s:QB}{a:QA}{xs ys:List V}
theorem SqL.of (h:H a=some (.lst xs)):SqL K H a xs:=.inl (.inl h)
theorem SqT.of (h:H a=some (.tup xs)):SqT K H a xs:=.inl (.inl h)
theorem Inv.list (I:Inv X pins σ H s)(h:SqL X.K H a xs):∃its:List Qy,Vals xs its/\PlainL s.heap a its.toArray/\xs.length<=sizeLine:=by
 rcases h with h|⟨o,its,n,hk,hc,hd,hs,hz,r⟩
 ·obtain⟨z,its,n,r,e⟩:=h.ok I.hok;exact⟨its,r,⟨_,n,e,rfl,rfl,rfl⟩,z⟩
 refine⟨its.toList,r,⟨o,n,I.kIn a o hk,hc,hd,by simpa using hs⟩,?_⟩;have e:=r.length;simp only[gV]at e;lia
theorem Inv.tuple (I:Inv X pins σ H s)(h:SqT X.K H a xs):∃its:List Qy,Vals xs its/\WU s.heap a its.toArray/\xs.length<=sizeLine:=by
 rcases h with h|⟨o,its,n,hk,hc,hs,hz,r⟩
 ·obtain⟨z,its,r,p⟩:=h.ok I.hok;exact⟨its,r,p,z⟩
 refine⟨its.toList,r,⟨o,I.kIn a o hk,hc,n,by simpa using hs⟩,?_⟩;have e:=r.length;simp only[gV]at e;lia
theorem Inv.qI (I:Inv X pins σ H s)(h:SqL X.K H a xs)(h':SqL X.K H a ys):xs=ys:=by
 obtain⟨its,r,⟨o,n,e,_,_,d⟩,_⟩:=I.list h;obtain⟨its',r',⟨o',n',e',_,_,d'⟩,_⟩:=I.list h';rw[e]at e';cases e';rw[d]at d';injection d' with d1 _
 have:its=its':=by simpa using congrArg Qe d1
 subst this;exact r.inj r'
theorem Inv.fm (I:Inv X pins σ H s)(h:SqT X.K H a xs)(h':SqT X.K H a ys):xs=ys:=by
 obtain⟨its,r,⟨o,e,_,n,d⟩,_⟩:=I.tuple h;obtain⟨its',r',⟨o',e',_,n',d'⟩,_⟩:=I.tuple h';rw[e]at e';cases e';rw[d]at d';injection d' with d1 _
 have:its=its':=by simpa using congrArg Qe d1
 subst this;exact r.inj r'
end
abbrev Cx.qZ (X:Cx)(E:Qy->QB->Prop):Cx:={ X with xe:=E}
abbrev Cx.nox (X:Cx):Cx:=X.qZ fun _ _=>False
theorem Cx.Ok.qZ (ok:X.Ok)(E:Qy->QB->Prop):(X.qZ E).Ok:=
 ⟨ok.mod,ok.kind,ok.glob,ok.blt,ok.above,ok.inj,ok.has,ok.cab,ok.hd,ok.frames,ok.stk,ok.exf,ok.bs,ok.bsz,ok.noex,ok.exfs,ok.qG,ok.frf⟩
theorem Cx.Ok.gu (ok:(X.qZ E).Ok):X.Ok:=
 ⟨ok.mod,ok.kind,ok.glob,ok.blt,ok.above,ok.inj,ok.has,ok.cab,ok.hd,ok.frames,ok.stk,ok.exf,ok.bs,ok.bsz,ok.noex,ok.exfs,ok.qG,ok.frf⟩
section
variable{X:Cx}{pins:List (QA×Obj)}{σ:St}{H:Hp}{s:QB}{E:Qy->QB->Prop}
theorem Inv.qZ (I:Inv X pins σ H s)(E:Qy->QB->Prop):Inv (X.qZ E) pins σ H s:=⟨I.ok.qZ E,I.os,I.bare,I.base,I.loc,I.cell,I.free,I.freeC,I.pin,I.hok,I.len⟩
theorem Inv.gu (I:Inv (X.qZ E) pins σ H s):Inv X pins σ H s:=⟨I.ok.gu,I.os,I.bare,I.base,I.loc,I.cell,I.free,I.freeC,I.pin,I.hok,I.len⟩
theorem SP.gu {D:Ends}{f:Flow}{s':QB}(h:SP (X.qZ E) pins D f s'):SP X pins D f s':=by
 cases f with
 |next=>obtain⟨σ',H',I,q⟩:=h;exact⟨σ',H',I.gu,q⟩
 |brk=>obtain⟨σ',H',I,q⟩:=h;exact⟨σ',H',I.gu,q⟩
 |cont=>obtain⟨σ',H',I,q⟩:=h;exact⟨σ',H',I.gu,q⟩
 |ret u=>obtain⟨v,σ',H',I,r,q⟩:=h;exact⟨v,σ',H',I.gu,r,q⟩
theorem PSs.nox {st:List Q6}{t:TS}(h:PSs X.nox st t):PSs X st t:=fun pins s σ H D I hw=>
 Q7 (h pins s σ H D (I.qZ _) hw) (fun _ _ q=>q.gu) fun _ _ z=>QU z
end
section
variable{X:Cx}{st:Q6}{rest:List Q6}{t u:TS}{e:QQ}{te:TE}{pos:Pos}
noncomputable def Kb:TS:=fun D σ H=>D.nx σ H
noncomputable def Lq(t u:TS):TS:=fun D σ H=>t { D with nx:=u D} σ H
theorem tG:PSs X [] Kb:=fun _ _ σ H _ I h=>Tw ⟨σ,H,I,h⟩
theorem bN(h1:PS X st t)(h2:PSs X rest u):PSs X (st::rest) (Lq t u):=by
 intro pins s σ H D I h;refine VJ (thn (h1 pins s σ H { D with nx:=u D} I h) fun f s1 q=>?_);cases f with
 |next=>
  obtain⟨σ',H',I',q⟩:=q;exact h2 pins s1 σ' H' D I' q
 |ret v=>exact q
 |brk=>exact q
 |cont=>exact q
theorem kN(h1:PS X st t):PSs X [st] t:=by
 intro pins s σ H D I h;refine VJ (thn (h1 pins s σ H D I h) fun f s1 q=>?_);cases f with
 |next=>exact Tw q
 |ret v=>exact q
 |brk=>exact q
 |cont=>exact q
theorem Inv.quiet (I:Inv X pins σ H s):Xq X.env=false:=by simp[Xq,I.ok.kind]
noncomputable def Jl(te:TE):TS:=fun D σ H=>te σ H fun _ H1=>D.nx σ H1
theorem DO(he:PE X e te)(hs:Tt e none pos.line X.env=pure false:=by rfl):PS X (.Expr e pos) (Jl te):=by intro pins s σ H D I h;exact wpAny_Expr_any (thn (he pins s σ H _ I h) fun v s1 ⟨x,H1,I1,r1,q1⟩=>⟨σ,H1,I1,q1⟩) I.quiet hs
noncomputable def LG(te:TE):TS:=fun D σ H=>te σ H D.rt
theorem tS(he:PE X e te):PS X (.Return (some e) pos) (LG te):=by intro pins s σ H D I h;exact wpAny_Return_some (thn (he pins s σ H _ I h) fun v s1 ⟨x,H1,I1,r1,q1⟩=>⟨x,σ,H1,I1,r1,q1⟩)
noncomputable def Ll(c:TT)(t u:TS):TS:=fun D σ H=>c σ H fun b H1=>if b=true then t D σ H1 else u D σ H1
theorem C5{a b:List Q6}{tc:TT}(hc:PT X c tc)(ha:PSs X a t)(hb:PSs X b u):PS X (.If c a b pos) (Ll tc t u):=by
 intro pins s σ H D I h;refine wpAny_If (thn (hc pins s σ H _ I h) ?_);rintro d s1 ⟨H1,I1,q1⟩;cases d with
 |true=>exact ha pins s1 σ H1 D I1 q1
 |false=>exact hb pins s1 σ H1 D I1 q1
end
abbrev TG:=V->St->Hp->(St->Hp->Prop)->Prop
abbrev TGs:=List V->St->Hp->(St->Hp->Prop)->Prop
noncomputable def PG(X:Cx)(target:QQ)(t:TG):Prop:=
 ∀(pins:List (QA×Obj)) (s:QB) (σ:St) (H:Hp) (v:V) (u:Qy) (Q:St->Hp->Prop),Inv X pins σ H s->RelV v u->t v σ H Q->
  QG (QM X.prog X.w) X.A (Tg target X.env u) (fun _ s'=>∃ σ' H',Inv X pins σ' H' s'/\Q σ' H') X.xe s
noncomputable def PGs(X:Cx)(ts:List QQ)(t:TGs):Prop:=
 ∀(pins:List (QA×Obj)) (s:QB) (σ:St) (H:Hp) (vs:List V) (us:List Qy) (Q:St->Hp->Prop),Inv X pins σ H s->Vals vs us->t vs σ H Q->
  QG (QM X.prog X.w) X.A (assignInOrder ((R3 ts X.env).map (·.2)) us) (fun _ s'=>∃ σ' H',Inv X pins σ' H' s'/\Q σ' H') X.xe s
abbrev El:=V->V->V->Hp->(Hp->Prop)->Prop
noncomputable def xB(X:Cx)(t:El):Prop:=
 ∀(pins:List (QA×Obj)) (s:QB) (σ:St) (H:Hp) (o i v:V) (ov iv u:Qy) (Q:Hp->Prop),Inv X pins σ H s->RelV o ov->RelV i iv->RelV v u->t o i v H Q->
  QG (QM X.prog X.w) X.A (Wk ov iv u) (fun _ s'=>∃H',Inv X pins σ H' s'/\Q H') X.xe s
abbrev TIp:=V->V->Hp->VK->Prop
noncomputable def PIp(X:Cx)(op:Um)(t:TIp):Prop:=
 ∀(pins:List (QA×Obj)) (s:QB) (σ:St) (H:Hp) (x y:V) (v u:Qy) (Q:VK),Inv X pins σ H s->RelV x v->RelV y u->t x y H Q->
  QG (QM X.prog X.w) X.A (inplaceOp op v u) (EP X pins σ Q) X.xe s
variable {body:List Q6}{es:List QQ}{te:TE}{tg:QQ}
section
variable{X:Cx}{pos:Pos}
noncomputable def yy(i:Nat):TG:=fun v σ H Q=>Q (σ.set i (some v)) H
theorem yN(hN:X.N.Nodup)(hi:X.N[i]?=some x)(hx:Loc X.env.scope x)(hf:X.fn x=true\/X.env.scope.names.lookup x=some .local:=by first|exact .inl rfl|exact .inr rfl|assumption):PG X (.Name x pos) (yy i):=by intro pins s σ H v u Q I r h;exact Vx (qd I hN hi hx r (fun s' I'=>⟨_,H,I',h⟩) hf)
noncomputable def L6:TGs:=fun vs σ H Q=>vs=[]/\Q σ H
noncomputable def Jt(t:TG)(u:TGs):TGs:=fun vs σ H Q=>∃v r,vs=v::r/\t v σ H fun σ' H'=>u r σ' H' Q
theorem zY:PGs X [] L6:=by intro pins s σ H vs us Q I r h;obtain⟨e,h⟩:=h;subst e;cases r;exact assignInOrder_nil ⟨σ,H,I,h⟩
theorem pO{t:TG}{u:TGs}(h1:PG X e t)(h2:PGs X es u)
  (hs:(R3 (e::es) X.env).map (·.2)=Tg e X.env::(R3 es X.env).map (·.2):=by rfl):PGs X (e::es) (Jt t u):=by
 intro pins s σ H vs us Q I r h;obtain⟨v,vr,e1,h⟩:=h;subst e1;cases r with
 |cons r rr=>
  rw[hs];refine assignInOrder_cons (thn (h1 pins s σ H _ _ _ I r h) ?_);rintro _ s1 ⟨σ1,H1,I1,q1⟩;exact h2 pins s1 σ1 H1 _ _ Q I1 rr q1
noncomputable def LK(K:Qz)(n:Nat)(t:TGs):TG:=fun v σ H Q=>∃a xs,v=.ref a/\SqT K H a xs/\xs.length=n/\t xs σ H Q
theorem CH{k:Nat}{t:TGs}{n:Nat}(hc:X.calm=true)(h:PGs X es t)
  (hn:(R3 es X.env).length=n:=by rfl) (hst:(R3 es X.env).findIdx? (·.1)=none:=by rfl):PG X (.Tuple es k pos) (LK X.K n t):=by
 intro pins s σ H v u Q I r hw;obtain⟨a,xs,e1,hq,hl,hw⟩:=hw;subst e1;cases r;obtain⟨its,rv,ht,hz⟩:=I.tuple hq;refine assign_Tuple_tuple (I.ok.hd hc) ht (by simp[hn,<-hl,rv.length]) hst fun h' hx=>?_
 have I1:Inv X pins σ H {s with heap:=h'}:=I.kept (t':=s.toks) fun b o e=>hx b o (v_ (QK e)) e;exact h pins _ σ H xs _ Q I1 (by simpa using rv) hw
noncomputable def Ly(to ti:TE)(t:El):TG:=fun v σ H Q=>to σ H fun o H1=>ti σ H1 fun i H2=>t o i v H2 fun H3=>Q σ H3
theorem Di{o i:QQ}{to ti:TE}{t:El}(ho:PE X o to)(hi:PE X i ti)(hs:xB X t)
  (ha:∀v,Tg (.Subscript o i pos) X.env v=(do
   let ov <-Tu [v] (Q9 o X.env)
   let iv <-Tu [v,ov] (Q9 i X.env)
   Wl pos
   Tu [v,ov,iv] (Wk ov iv v)
   release [v,ov,iv] []):=by intro _;rfl):PG X (.Subscript o i pos) (Ly to ti t):=by
 intro pins s σ H v u Q I r h;rw[ha];refine Qx (Q2 (thn (ho pins s σ H _ I h) ?_));rintro ov s1 ⟨x,H1,I1,r1,q1⟩;refine Qx (Q2 (thn (hi pins s1 σ H1 _ I1 q1) ?_));rintro iv s2 ⟨y,H2,I2,r2,q2⟩;refine Qx (To (Qx (Q2 (thn (hs pins s2 σ H2 x y v ov iv u _ I2 r1 r2 r q2) ?_))));rintro _ s3 ⟨H3,I3,q3⟩;exact wpAny_release ⟨σ,H3,I3,q3⟩
noncomputable def DT(te:TE)(g:TG):TS:=fun D σ H=>te σ H fun x H1=>g x σ H1 D.nx
theorem Bj{g:TG}(he:PE X e te)(hg:PG X tg g)(hs:WH [tg] e pos.line X.env=pure false:=by rfl)(hw:WI [tg] e X.env=pure none:=by rfl)
  (h1:(R3 [tg] X.env).map (·.2)=[Tg tg X.env]:=by rfl):PS X (.Assign [tg] e pos) (DT te g):=by
 intro pins s σ H D I h;refine wpAny_Assign_stores (thn (he pins s σ H _ I h) fun v s1 ⟨x,H1,I1,r1,q1⟩=>?_) hs hw;rw[h1];exact thn (hg pins s1 σ H1 x v _ I1 r1 q1) fun _ s2 q=>q
theorem gf{pos':Pos}(hN:X.N.Nodup)(hi:X.N[i]?=some x)(hx:Loc X.env.scope x)(he:PE X e te)(hs:Tt e (some (.Name x pos')) pos.line X.env=pure false:=by rfl)(hf:X.fn x=true\/X.env.scope.names.lookup x=some .local:=by first|exact .inl rfl|exact .inr rfl|assumption) :
  PS X (.Assign [.Name x pos'] e pos) (DT te (yy i)):=by
 intro pins s σ H D I h;refine wpAny_Assign_Name (thn (he pins s σ H _ I h) fun v s1 ⟨y,H1,I1,r1,q1⟩=>?_) hs;exact qd I1 hN hi hx r1 (fun s2 I2=>⟨_,H1,I2,q1⟩) hf
noncomputable def LC(i:Nat)(te:TE)(ti:TIp):TS:=fun D σ H=>∃x,σ[i]?=some (some x)/\te σ H fun y H1=>ti x y H1 fun z H2=>D.nx (σ.set i (some z)) H2
theorem GV{op:Um}{ti:TIp}{pos':Pos}(hN:X.N.Nodup)(hi:X.N[i]?=some x)(hx:Loc X.env.scope x)(he:PE X e te)(ho:PIp X op ti)(hf:X.fn x=true\/X.env.scope.names.lookup x=some .local:=by first|exact .inl rfl|exact .inr rfl|assumption) :
  PS X (.AugAssign (.Name x pos') op e pos) (LC i te ti):=by
 intro pins s σ H D I h;obtain⟨v,e1,h⟩:=h;obtain⟨m,hn,hl⟩:=I.loc;have vis:Vis X.env.scope x:=by rcases hx with k|k;exact .inl k;exact .inr (.inl k)
 obtain⟨u,r,l⟩:=hl i x v hi e1 vis;refine wpAny_AugAssign_Name ?_;have go:QG (QM X.prog X.w) X.A (Q9 e X.env) (fun w s₂=>QG (QM X.prog X.w) X.A (inplaceOp op u w) (fun r s₃=>QG (QM X.prog X.w) X.A (WA X.env x r) (fun _=>SP X pins D .next) X.xe s₃) X.xe s₂) X.xe s:=by refine thn (he pins s σ H _ I h) ?_;rintro w s1 ⟨y,H1,I1,r1,q1⟩;refine thn (ho pins s1 σ H1 v y u w _ I1 r r1 q1) ?_;rintro z s2 ⟨zv,H2,I2,r2,q2⟩;exact qd I2 hN hi hx r2 (fun s3 I3=>⟨_,H2,I3,q2⟩) hf
 rcases l with⟨hk,hm⟩|⟨hk,c,hc,hcell⟩
 ·exact U3 I.ok.kind hk hn hm go
 rcases hk with hk|hk
 ·exact Ve I.ok.kind hk hc hcell go
 rcases hx with k|k
 ·have:X.env.scope.names.lookup x=some .free:=hk;rw[k]at this;cases this
 have:X.env.scope.names.lookup x=some .free:=hk;rw[k]at this;cases this
noncomputable def ipI(f:Int->Int->Int):TIp:=fun x y H Q=>∃i j,x=.int i/\y=.int j/\Q (.int (f i j)) H
theorem IA:PIp X .Add (ipI fun i j=>i+j):=by intro pins s σ H x y v u Q I r1 r2 h;obtain⟨i,j,e1,e2,q⟩:=h;subst e1;subst e2;obtain⟨t,rfl⟩:=r1;obtain⟨t',rfl⟩:=r2;exact iadd_int ⟨.int _,H,I.tok _,⟨_,rfl⟩,q⟩
noncomputable def IK(c:TT)(tb:TS):TS:=fun D σ H=>∃W:Nat->St->Hp->Prop,(∃m,W m σ H)/\∀m σ H,W m σ H->
 c σ H fun b H1=>if b=true then ∃N:St->Hp->Prop,(∀ σ' H',N σ' H'->∃m',m'<m/\W m' σ' H')/\tb { D with nx:=N,ct:=N,bk:=D.nx} σ H1 else D.nx σ H1
theorem DC{tc:TT}{tb:TS}(hp:Vi (QM X.prog X.w) X.A X.env X.xe)(hc:PT X c tc)(hb:PSs X body tb):PS X (.While c body [] pos) (IK tc tb):=by
 intro pins s σ H D I h;obtain⟨W,⟨m0,w0⟩,turn⟩:=h;refine wpAny_While (codeAny_whileLoop (fun n s'=>∃ σ' H',Inv X pins σ' H' s'/\W n σ' H') ?_ m0 ⟨σ,H,I,w0⟩);rintro n s1 ⟨σ1,H1,I1,w1⟩;refine R_ hp (thn (hc pins s1 σ1 H1 _ I1 (turn n σ1 H1 w1)) ?_);rintro b s2 ⟨H2,I2,q2⟩;cases b with
 |true=>
  obtain⟨N,hN,q2⟩:=q2;rw[if_pos rfl];refine R_ hp (thn (hb pins s2 σ1 H2 _ I2 q2) fun f s3 q3=>?_);cases f with
  |next=>
   obtain⟨σ3,H3,I3,n3⟩:=q3;obtain⟨m',hm,w3⟩:=hN σ3 H3 n3;exact⟨m',hm,σ3,H3,I3,w3⟩
  |cont=>
   obtain⟨σ3,H3,I3,n3⟩:=q3;obtain⟨m',hm,w3⟩:=hN σ3 H3 n3;exact⟨m',hm,σ3,H3,I3,w3⟩
  |brk=>exact q3
  |ret v=>exact q3
 |false=>
  rw[if_neg Me];exact Tw ⟨σ1,H2,I2,q2⟩
end
structure It where
 go:Nat->Hp->Prop
 yld:Nat->Hp->V->Hp->Prop
 stop:Nat->Hp->Prop
noncomputable def lg(X:Cx)(pins:List (QA×Obj))(H:Hp)(b:QA):Prop:=
 H b=none/\b≠X.env.locals/\b ∉ X.fs/\(b∈X.ex\/X.s₀.heap.objs.size<=b)/\(∀x c,X.env.cells.lookup x=some c->c≠b)/\∀p∈X.pn++pins,p.1≠b
theorem Inv.x8 {H':Hp}(I:Inv X pins σ H s)(hb:s.heap.objs.size<=b)(hn:H' b=none):lg X pins H' b:=by
 refine⟨hn,Nz (z_ I.lt hb),I.Lw hb,.inr (t_ I.sz hb),fun x c e z=>?_,fun p hp z=>?_⟩
 ·obtain⟨v,q⟩:=I.cell x c e;exact absurd (z_ q.lt (by rw[z];exact hb)) (MJ _)
 exact absurd (z_ (QK (I.pin p hp).1) (by rw[z];exact hb)) (MJ _)
structure Turn (P:QL) (w:QP) (K:Qz) (tg:QQ) (J:It) (fp:List QA) (it:QA) (tn:Nat->QR->Prop):Prop where
 mem:it∈fp
 obj:∀i h,tn i h->∀b∈fp,∃o,h.get? b=some o/\∀v,o.data≠.cell v
 keep:∀i h h',tn i h->(∀b∈fp,∀o,h.get? b=some o->h'.get? b=some o)->tn i h'
 item:∀(X:Cx),X.prog=P->X.w=w->X.K=K->X.calm=true->∀(i:Nat) (pins:List (QA×Obj)) (s:QB) (σ:St) (H:Hp) (E:Qy->QB->Prop),Inv X pins σ H s->(∀b∈fp,lg X pins H b)->tn i s.heap->J.go i H->
  QG (QM P w) X.A (Sd (.ref it)) (fun r s1=>∃u,r=some u/\
   QG (QM P w) X.A (Tx tg (.ref it) u) (fun _ s2=>∃x H',Inv X pins σ H' s2/\RelV x u/\J.yld i H x H'/\tn (i+1) s2.heap/\∀b∈fp,H' b=none) E s1) E s
 done:∀(X:Cx),X.prog=P->X.w=w->X.K=K->X.calm=true->∀(i:Nat) (pins:List (QA×Obj)) (s:QB) (σ:St) (H:Hp) (E:Qy->QB->Prop),Inv X pins σ H s->(∀b∈fp,lg X pins H b)->tn i s.heap->J.stop i H->
  QG (QM P w) X.A (Sd (.ref it)) (fun r s1=>r=none/\Inv X pins σ H s1) E s
 self:∀(A:QY) (i:Nat) (s:QB) (Q:Qy->QB->Prop) (E:Qy->QB->Prop),tn i s.heap->Q (.ref it) s->QG (QM P w) A (Tz (.ref it)) Q E s
abbrev TI:=St->Hp->(It->Hp->Prop)->Prop
noncomputable def PIE(X:Cx)(pins:List (QA×Obj))(σ:St)(tg:QQ)(R:It->Hp->Prop)(itv:Qy)(s2:QB):Prop:=
 ∃(it:QA) (fp:List QA) (tn:Nat->QR->Prop) (J:It) (H':Hp),itv=.ref it/\Inv X pins σ H' s2/\Turn X.prog X.w X.K tg J fp it tn/\tn 0 s2.heap/\(∀b∈fp,lg X pins H' b)/\R J H'
noncomputable def PI(X:Cx)(tg iter:QQ)(wi:TI):Prop:=
 ∀(pins:List (QA×Obj)) (s:QB) (σ:St) (H:Hp) (R:It->Hp->Prop),Inv X pins σ H s->wi σ H R->
  QG (QM X.prog X.w) X.A (Q9 iter X.env) (fun v s1=>QG (QM X.prog X.w) X.A (Tz v) (PIE X pins σ tg R) X.xe s1) X.xe s
theorem yJ{it:QA}{o:Obj}{n:String}{vs:Array Qy}(ho:s.heap.get? it=some o)(hc:o.cls=.type n)(hd:o.data=.fields vs)
    (hn:["enumerate","zip","dict_itemiterator","dict_reverseitemiterator","odict_iterator","itertools.zip_longest","itertools.pairwise"].contains n=false) (hQ:Q () s):QG M A (Tx tg (.ref it) u) Q E s:=by
  unfold Tx;cases tg <;> first
    |exact QC hQ
    | (cases u <;> first
        |exact QC hQ
        | (refine Qx (V0 ho ?_)
           rw[hc,hd];show QG M A (if(["enumerate","zip","dict_itemiterator","dict_reverseitemiterator","odict_iterator","itertools.zip_longest","itertools.pairwise"].contains n&&vs[0]? == some (RD _))=true then _ else _) Q E s;rw[if_neg (by intro h;rw[hn,Bool.false_and]at h;cases h)];exact QC hQ))
noncomputable def Itl(K:Qz)(a:QA):It:=
 ⟨fun i H=>∃xs x,SqL K H a xs/\xs[i]?=some x,fun i H x H'=>H'=H/\∀xs,SqL K H a xs->xs[i]?=some x,fun i H=>∃xs,SqL K H a xs/\xs.length<=i⟩
noncomputable def Itt(K:Qz)(a:QA):It:=
 ⟨fun i H=>∃xs x,SqT K H a xs/\xs[i]?=some x,fun i H x H'=>H'=H/\∀xs,SqT K H a xs->xs[i]?=some x,fun i H=>∃xs,SqT K H a xs/\xs.length<=i⟩
noncomputable def Itr(lo:Int)(n:Nat):It:=⟨fun i _=>i<n,fun i H x H'=>H'=H/\x=.int (lo+i),fun i _=>n<=i⟩
theorem AY(a it:QA):Turn P w K tg (Itl K a) [it] it (fun i h=>h.IsListIter it a i) where
 mem:=by simp
 obj:=fun i h st b hb=>by
  have e:b=it:=by simpa using hb
  subst e;obtain⟨o,e,c,d⟩:=st;exact⟨o,e,fun v z=>by rw[d]at z;cases z⟩
 keep:=fun i h h' st k=>st.at fun o e=>k it (by simp) o e
 item:=by
  intro X hP hw hK hc i pins s σ H E I hf st hg;subst hP hw hK;obtain⟨xs,x,hq,hx⟩:=hg;obtain⟨its,rv,p,hz⟩:=I.list hq;obtain⟨u,hu,ru⟩:=rv.get hx;obtain⟨f0,f1,f2,f3,f4,f5⟩:=hf it (by simp);refine wpAny_pyNext_list_item st p.isList (x:=u) (by simpa using hu) fun h' st' sb=>?_
  have I1:Inv X pins σ H {s with heap:=h'}:=I.turned (t':=s.toks) (fun b o hb e=>(sb.2 b hb).trans e) f0 f1 f3 f4 f5;obtain⟨o,e,c,d⟩:=id st';exact⟨u,rfl,yJ (s:={s with heap:=h'}) e c d (by decide) ⟨x,H,I1,ru,⟨rfl,fun ys hy=>by rw[I.qI hy hq];exact hx⟩,st',fun b hb=>(hf b hb).1⟩⟩
 done:=by intro X hP hw hK hc i pins s σ H E I hf st hg;subst hP hw hK;obtain⟨xs,hq,hx⟩:=hg;obtain⟨its,rv,p,hz⟩:=I.list hq;obtain⟨f0,f1,f2,f3,f4,f5⟩:=hf it (by simp);have hl:=rv.length;exact wpAny_pyNext_list_end (I.ok.hd hc) st p.isList (by simp;lia) fun h' eb=>⟨rfl,I.turned (t':=s.toks) (fun b o hb e=>eb b o hb e) f0 f1 f3 f4 f5⟩
 self:=fun _ _ _ _ _ st h=>wpAny_pyIter_listiter st h
theorem wV(a it:QA):Turn P w K tg (Itt K a) [it] it (fun i h=>h.IsTupleIter it a i) where
 mem:=by simp
 obj:=fun i h st b hb=>by
  have e:b=it:=by simpa using hb
  subst e;obtain⟨o,e,c,d⟩:=st;exact⟨o,e,fun v z=>by rw[d]at z;cases z⟩
 keep:=fun i h h' st k=>st.at fun o e=>k it (by simp) o e
 item:=by
  intro X hP hw hK hc i pins s σ H E I hf st hg;subst hP hw hK;obtain⟨xs,x,hq,hx⟩:=hg;obtain⟨its,rv,p,hz⟩:=I.tuple hq;obtain⟨u,hu,ru⟩:=rv.get hx;obtain⟨f0,f1,f2,f3,f4,f5⟩:=hf it (by simp);refine wpAny_pyNext_tuple_item st (show s.heap.IsTuple a its.toArray from p) (x:=u) (by simpa using hu) fun h' st' sb=>?_
  have I1:Inv X pins σ H {s with heap:=h'}:=I.turned (t':=s.toks) (fun b o hb e=>(sb.2 b hb).trans e) f0 f1 f3 f4 f5;obtain⟨o,e,c,d⟩:=id st';exact⟨u,rfl,yJ (s:={s with heap:=h'}) e c d (by decide) ⟨x,H,I1,ru,⟨rfl,fun ys hy=>by rw[I.fm hy hq];exact hx⟩,st',fun b hb=>(hf b hb).1⟩⟩
 done:=by intro X hP hw hK hc i pins s σ H E I hf st hg;subst hP hw hK;obtain⟨xs,hq,hx⟩:=hg;obtain⟨its,rv,p,hz⟩:=I.tuple hq;obtain⟨f0,f1,f2,f3,f4,f5⟩:=hf it (by simp);have hl:=rv.length;exact wpAny_pyNext_tuple_end (I.ok.hd hc) st (show s.heap.IsTuple a its.toArray from p) (by simp;lia) fun h' eb=>⟨rfl,I.turned (t':=s.toks) (fun b o hb e=>eb b o hb e) f0 f1 f3 f4 f5⟩
 self:=fun _ _ _ _ _ st h=>wpAny_pyIter_tupleiter st h
theorem xJ(it:QA)(lo:Int)(n:Nat):Turn P w K tg (Itr lo n) [it] it (fun i h=>Xr h it (lo+(i:Nat)*1) ((n:Int)-(i:Nat)) 1) where
 mem:=by simp
 obj:=fun i h st b hb=>by
  have e:b=it:=by simpa using hb
  subst e;exact⟨_,st,fun v z=>by have z':Xs _=Vj v:=z;cases z'⟩
 keep:=fun i h h' st k=>k it (by simp) _ st
 item:=by intro X hP hw hK hc i pins s σ H E I hf st hg;subst hP hw hK;obtain⟨f0,f1,f2,f3,f4,f5⟩:=hf it (by simp);have W:=Walks.range (prog:=X.prog) (w:=X.w) (I.ok.hd hc) it lo 1 n;refine W.item i s _ _ hg st fun v h' tk hv st' kk=>?_;obtain⟨t,rfl⟩:=hv;have I1:Inv X pins σ H {s with heap:=h',toks:=tk}:=I.turned (fun b o hb e=>kk b o (by simpa using hb) e) f0 f1 f3 f4 f5;refine⟨_,rfl,yJ (s:={s with heap:=h',toks:=tk}) (n:="range_iterator") st' rfl rfl (by decide) ⟨.int (lo+i),H,I1,⟨t,?_⟩,⟨rfl,rfl⟩,st',fun b hb=>(hf b hb).1⟩⟩;rw[PJ]
 done:=by intro X hP hw hK hc i pins s σ H E I hf st hg;subst hP hw hK;obtain⟨f0,f1,f2,f3,f4,f5⟩:=hf it (by simp);exact wpAny_pyNext_range_end (I.ok.hd hc) st (by have:n<=i:=hg;lia) fun h' eb=>⟨rfl,I.turned (t':=s.toks) (fun b o hb e=>eb b o hb e) f0 f1 f3 f4 f5⟩
 self:=fun _ _ _ _ _ st h=>wpAny_pyIter_rangeiter st h
variable {fp:List QA}
section
variable{X:Cx}{tg:QQ}
theorem vB{R:It->Hp->Prop}{lo hi:Int}{t u v:Tok}{tk:Nat}(I:Inv X pins σ H s)(h1:-(2 ^ 62)<=lo)(h2:lo<2 ^ 62)(h3:-(2 ^ 62)<=hi)(h4:hi<2 ^ 62)
  (q:R (Itr lo (hi-lo).toNat) H):QG (QM X.prog X.w) X.A (Tz (.ref s.heap.objs.size)) (PIE X pins σ tg R) E {s with heap:=s.heap.push { cls:=.type "range",data:=.fields #[.int lo t,.int hi u,.int 1 v] },toks:=tk}:=by
 refine wpAny_pyIter_range (Xt ..) (small_one h1 h2 h3 h4) ?_;have I1:Inv X pins σ H {s with heap:=s.heap.push { cls:=.type "range",data:=.fields #[.int lo t,.int hi u,.int 1 v] },toks:=tk}:=I.kept fun b o e=>QD _ e;refine⟨(s.heap.push { cls:=.type "range",data:=.fields #[.int lo t,.int hi u,.int 1 v] }).objs.size,[(s.heap.push { cls:=.type "range",data:=.fields #[.int lo t,.int hi u,.int 1 v] }).objs.size],_,_,H,rfl,
  I1.kept (t':=tk) fun b o e=>QD _ e,xJ _ lo (hi-lo).toNat,?_,fun b hb=>?_,q⟩
 ·have e1:lo+((0:Nat):Int)*1=lo:=by simp
  have e2:(((hi-lo).toNat:Nat):Int)-((0:Nat):Int)=Xk lo hi 1:=by rw[rangeSize_one];split <;> lia
  show Xr _ _ (lo+((0:Nat):Int)*1) ((((hi-lo).toNat:Nat):Int)-((0:Nat):Int)) 1;rw[e1,e2];exact QH _ rfl
 have e:b=(s.heap.push { cls:=.type "range",data:=.fields #[.int lo t,.int hi u,.int 1 v] }).objs.size:=by simpa using hb
 subst e;exact I1.x8 (b_ _) (I1.hok.fresh (b_ _))
noncomputable def JM(ta:TA):TI:=fun σ H R=>ta σ H fun vs H1=>∃j:Int,vs=[.int j]/\-(2 ^ 62)<=j/\j<2 ^ 62/\R (Itr 0 j.toNat) H1
noncomputable def JP(ta:TA):TI:=fun σ H R=>ta σ H fun vs H1=>∃i j:Int,vs=[.int i,.int j]/\(-(2 ^ 62)<=i/\i<2 ^ 62/\-(2 ^ 62)<=j/\j<2 ^ 62)/\R (Itr i (j-i).toNat) H1
theorem AW{a:QQ}{ta:TA}{p:Pos}(hg:Gl X "range")(hm:X.mg "range"=none)(ha:PA X [a] ta)(hs:QS [a] X.env=[(false,Q9 a X.env)]:=by rfl):PI X tg (.Call (.Name "range" p) [a] [] pos) (JM ta):=by
 intro pins s σ H R I h;refine Call_ (dN I hg hm V1 (R7 (thn (ha pos pins s σ H _ I h) fun us s1 ⟨vs,H1,I1,r1,q1⟩=>?_) hs rfl));obtain⟨j,e,q1,q2,q⟩:=q1;subst e;cases r1 with
 |cons r rr=>
  cases rr;obtain⟨t,rfl⟩:=r;exact call_range_1 (vB I1 (by lia) (by lia) q1 q2 (by simpa using q))
theorem Av{a b:QQ}{ta:TA}{p:Pos}(hg:Gl X "range")(hm:X.mg "range"=none)(ha:PA X [a,b] ta)(hs:QS [a,b] X.env=[(false,Q9 a X.env),(false,Q9 b X.env)]:=by rfl)(hs2:QS [b] X.env=[(false,Q9 b X.env)]:=by rfl) :
  PI X tg (.Call (.Name "range" p) [a,b] [] pos) (JP ta):=by
 intro pins s σ H R I h;refine Call_ (dN I hg hm V1 (R7 (thn (ha pos pins s σ H _ I h) fun us s1 ⟨vs,H1,I1,r1,q1⟩=>?_) (by rw[hs,hs2]) (by rw[hs2];rfl)));obtain⟨i,j,e,⟨q1,q2,q3,q4⟩,q⟩:=q1;subst e;cases r1 with
 |cons r rr=>
  cases rr with
  |cons r' rr=>
   cases rr;obtain⟨t,rfl⟩:=r;obtain⟨t',rfl⟩:=r';exact W0 (vB I1 q1 q2 q3 q4 q)
noncomputable def Lu(wi:TI)(g:TG)(tb:TS):TS:=fun D σ H=>wi σ H fun J H1=>∃W:Nat->Nat->St->Hp->Prop,(∃m,W 0 m σ H1)/\∀i m σ H,W i m σ H->
 (J.stop i H/\D.nx σ H)\/(J.go i H/\∃N:St->Hp->Prop,(∀ σ' H',N σ' H'->∃m',m'<m/\W (i+1) m' σ' H')/\∀x H',J.yld i H x H'->g x σ H' fun σ2 H2=>tb { D with nx:=N,ct:=N,bk:=D.nx} σ2 H2)
noncomputable def m7(fp:List QA)(h:QR):List (QA×Obj):=fp.filterMap fun b=>(h.get? b).map fun o=>(b,o)
theorem cH{o:Obj}(hb:b∈fp)(e:h.get? b=some o):(b,o)∈m7 fp h:=Pm.mpr ⟨b,hb,by rw[e];rfl⟩
theorem Ao{p:QA×Obj}(hp:p∈m7 fp h):p.1∈fp/\h.get? p.1=some p.2:=by
 obtain⟨b,hb,e⟩:=Pm.mp hp;cases q:h.get? b with
 |none=>rw[q]at e;cases e
 |some o=>
  rw[q]at e;have e':(b,o)=p:=I_ e;subst e';exact⟨hb,q⟩
theorem Inv.pinned (I:Inv X pins σ H s)(hf:∀b∈fp,lg X pins H b)(ho:∀b∈fp,∃o,s.heap.get? b=some o/\∀v,o.data≠.cell v):Inv X (pins++m7 fp s.heap) σ H s:=
 I.yq fun p hp=>(x_.mp hp).elim (fun z=>I.pin p (n_ _ z)) fun z=>by obtain⟨hb,e⟩:=Ao z;obtain⟨f0,f1,f2,_⟩:=hf p.1 hb;obtain⟨o,e',d⟩:=ho p.1 hb;rw[e]at e';cases e';exact⟨e,f0,f1,f2,d⟩
theorem Inv.gm {pl:List (QA×Obj)}(I:Inv X (pins++pl) σ H s):Inv X pins σ H s:=I.yq fun p hp=>I.pin p (n_ _ (y_ _ hp))
theorem IU{iter:QQ}{wi:TI}{g:TG}{tb:TS}(hp:Vi (QM X.prog X.w) X.A X.env X.xe)(hc:X.calm=true)(hi:PI X tg iter wi)(hg:PG X tg g)(hb:PSs X body tb)
  (hs:∀x,Ry iter X.env x=pure x:=by intro _;rfl):PS X (.For tg iter body [] pos) (Lu wi g tb):=by
 intro pins s σ H D I h;refine wpAny_For (thn (hi pins s σ H _ I h) fun v s1 h1=>thn h1 fun itv s2 h2=>?_) hs;obtain⟨it,fp,tn,J,H2,e,I2,T,st2,f2,W,⟨m0,w0⟩,turn⟩:=h2;subst e;have stat:∀{H':Hp},(∀b∈fp,H' b=none)->∀b∈fp,lg X pins H' b:=fun hn b hb=>⟨hn b hb,(f2 b hb).2⟩;refine codeAny_forLoop_any (fun n s'=>∃i σ' H',Inv X pins σ' H' s'/\tn i s'.heap/\(∀b∈fp,H' b=none)/\W i n σ' H') ?_ m0 ⟨0,σ,H2,I2,st2,fun b hb=>(f2 b hb).1,w0⟩;rintro n s3 ⟨i,σ3,H3,I3,st3,fr3,w3⟩;rcases turn i n σ3 H3 w3 with⟨stop,qn⟩|⟨go,N,hN,step⟩
 ·refine R_ hp (thn (T.done X rfl rfl rfl hc i pins s3 σ3 H3 X.xe I3 (stat fr3) st3 stop) ?_);rintro r s4 ⟨hr,I4⟩;subst hr;exact Tw ⟨σ3,H3,I4,qn⟩
 refine R_ hp (thn (T.item X rfl rfl rfl hc i pins s3 σ3 H3 X.xe I3 (stat fr3) st3 go) ?_);rintro r s4 ⟨u,hr,h4⟩;subst hr;refine R_ hp (thn h4 ?_);rintro _ s5 ⟨x,H5,I5,r5,y5,st5,fr5⟩;have I5':=I5.pinned (stat fr5) (T.obj _ _ st5);refine R_ hp (thn (hg _ s5 σ3 H5 x u _ I5' r5 (step x H5 y5)) ?_);rintro _ s6 ⟨σ6,H6,I6,q6⟩;refine R_ hp (thn (hb _ s6 σ6 H6 _ I6 q6) fun f s7 q7=>?_);have again:∀{σ7:St}{H7:Hp},Inv X (pins++m7 fp s5.heap) σ7 H7 s7->N σ7 H7->∃m,m<n/\∃i σ' H',Inv X pins σ' H' s7/\tn i s7.heap/\(∀b∈fp,H' b=none)/\W i m σ' H':=fun{σ7 H7} I7 n7=>by obtain⟨m',hm,w7⟩:=hN σ7 H7 n7;refine⟨m',hm,i+1,σ7,H7,I7.gm,T.keep _ _ _ st5 fun b hb o e=>(I7.pin (b,o) (n_ _ (n_ _ (cH hb e)))).1,fun b hb=>?_,w7⟩;obtain⟨o,e,d⟩:=T.obj _ _ st5 b hb;exact(I7.pin (b,o) (n_ _ (n_ _ (cH hb e)))).2.1
 cases f with
 |next=>obtain⟨σ7,H7,I7,n7⟩:=q7;exact again I7 n7
 |cont=>obtain⟨σ7,H7,I7,n7⟩:=q7;exact again I7 n7
 |brk=>obtain⟨σ7,H7,I7,q7⟩:=q7;exact⟨σ7,H7,I7.gm,q7⟩
 |ret v=>obtain⟨x7,σ7,H7,I7,r7,q7⟩:=q7;exact⟨x7,σ7,H7,I7.gm,r7,q7⟩
end
abbrev R2:=V->V->Hp->VK->Prop
noncomputable def OpR(X:Cx)(f:Qy->Qy->Sem Qy)(r:R2):Prop:=
 ∀(pins:List (QA×Obj)) (s:QB) (σ:St) (H:Hp) (x y:V) (v u:Qy) (Q:VK),Inv X pins σ H s->RelV x v->RelV y u->r x y H Q->
  QG (QM X.prog X.w) X.A (f v u) (EP X pins σ Q) X.xe s
noncomputable def UnR(X:Cx)(f:Qy->Sem Qy)(r:V->Hp->VK->Prop):Prop:=
 ∀(pins:List (QA×Obj)) (s:QB) (σ:St) (H:Hp) (x:V) (v:Qy) (Q:VK),Inv X pins σ H s->RelV x v->r x H Q->
  QG (QM X.prog X.w) X.A (f v) (EP X pins σ Q) X.xe s
noncomputable def bG(X:Cx)(f:Qy)(r:List V->Hp->VK->Prop):Prop:=
 ∀(pins:List (QA×Obj)) (s:QB) (σ:St) (H:Hp) (xs:List V) (us:List Qy) (Q:VK),Inv X pins σ H s->Vals xs us->r xs H Q->
  QG (QM X.prog X.w) X.A (call f us) (EP X pins σ Q) X.xe s
noncomputable def Lr(X:Cx)(r:V->Hp->(Bool->Hp->Prop)->Prop):Prop:=
 ∀(pins:List (QA×Obj)) (s:QB) (σ:St) (H:Hp) (x:V) (v:Qy) (Q:Bool->Hp->Prop),Inv X pins σ H s->RelV x v->r x H Q->
  QG (QM X.prog X.w) X.A (truthy v) (TP X pins σ Q) X.xe s
noncomputable def tOp(r:R2)(ta tb:TE):TE:=fun σ H Q=>ta σ H fun x H1=>tb σ H1 fun y H2=>r x y H2 Q
noncomputable def tUn(r:V->Hp->VK->Prop)(ta:TE):TE:=fun σ H Q=>ta σ H fun x H1=>r x H1 Q
noncomputable def rI(C:Int->Int->Prop)(g:Int->Int->V):R2:=fun x y H Q=>∃i j,x=.int i/\y=.int j/\C i j/\Q (g i j) H
noncomputable def rI0(g:Int->Int->V):R2:=fun x y H Q=>∃i j,x=.int i/\y=.int j/\Q (g i j) H
noncomputable def rU(g:Int->V):V->Hp->VK->Prop:=fun x H Q=>∃i,x=.int i/\Q (g i) H
variable {f:Qy->Qy->Sem Qy}{op:Vv}
section
variable{X:Cx}{a b c:QQ}{ta tb tc:TE}{pos:Pos}
theorem HZ(ha:PE X a ta)(hb:PE X b tb){R:V->V->Hp->Prop}(I:Inv X pins σ H s)
  (h:ta σ H fun x H1=>tb σ H1 fun y H2=>R x y H2) {Q:Qy->QB->Prop} {f:Qy->Qy->Sem Qy}
  (hf:∀v u s2 x y H2,Inv X pins σ H2 s2->RelV x v->RelV y u->R x y H2->QG (QM X.prog X.w) X.A (f v u) Q X.xe s2) :
  QG (QM X.prog X.w) X.A (Q9 a X.env) (fun v s₁=>QG (QM X.prog X.w) X.A (Q9 b X.env) (fun u s₂=>QG (QM X.prog X.w) X.A (f v u) Q X.xe s₂) X.xe s₁) X.xe s:=by
 refine thn (ha pins s σ H _ I h) ?_;rintro v s1 ⟨x,H1,I1,r1,q1⟩;refine thn (hb pins s1 σ H1 _ I1 q1) ?_;rintro u s2 ⟨y,H2,I2,r2,q2⟩;exact hf v u s2 x y H2 I2 r1 r2 q2
theorem cD{op:Um}{r:R2}(ho:OpR X (RJ op) r)(ha:PE X a ta)(hb:PE X b tb):PE X (.BinOp a op b pos) (tOp r ta tb):=by intro pins s σ H Q I h;exact wpAny_BinOp (HZ ha hb I h fun v u s2 x y H2 I2 rx ry q=>ho pins s2 σ H2 x y v u Q I2 rx ry q)
theorem JA{op:UnaryOp}{r:V->Hp->VK->Prop}(ho:UnR X (unaryOp op) r)(ha:PE X a ta):PE X (.UnaryOp op a pos) (tUn r ta):=by intro pins s σ H Q I h;exact UnaryOp_ (thn (ha pins s σ H _ I h) fun v s1 ⟨x,H1,I1,r1,q1⟩=>ho pins s1 σ H1 x v Q I1 r1 q1)
theorem opI{C:Int->Int->Prop}{g:Int->Int->Int}
  (rule:∀(i j:Int) (t u:Tok) (s:QB) (Q:Qy->QB->Prop) (E:Qy->QB->Prop),C i j->Q (.int (g i j) s.toks) {s with toks:=s.toks+1}->QG (QM X.prog X.w) X.A (f (.int i t) (.int j u)) Q E s) :
  OpR X f (rI C fun i j=>.int (g i j)):=by
 intro pins s σ H x y v u Q I rx ry h;obtain⟨i,j,rfl,rfl,hc,q⟩:=h;obtain⟨t,rfl⟩:=rx;obtain⟨t',rfl⟩:=ry;exact rule i j t t' s _ _ hc ⟨.int (g i j),H,I.tok _,⟨_,rfl⟩,q⟩
theorem Kh{g:Int->Int->Int}
  (rule:∀(i j:Int) (t u:Tok) (s:QB) (Q:Qy->QB->Prop) (E:Qy->QB->Prop),Q (.int (g i j) s.toks) {s with toks:=s.toks+1}->QG (QM X.prog X.w) X.A (f (.int i t) (.int j u)) Q E s) :
  OpR X f (rI0 fun i j=>.int (g i j)):=by
 intro pins s σ H x y v u Q I rx ry h;obtain⟨i,j,rfl,rfl,q⟩:=h;obtain⟨t,rfl⟩:=rx;obtain⟨t',rfl⟩:=ry;exact rule i j t t' s _ _ ⟨.int (g i j),H,I.tok _,⟨_,rfl⟩,q⟩
theorem E2{g:Int->Int->Bool}
  (rule:∀(i j:Int) (t u:Tok) (s:QB) (Q:Qy->QB->Prop) (E:Qy->QB->Prop),Q (.bool (g i j)) s->QG (QM X.prog X.w) X.A (f (.int i t) (.int j u)) Q E s) :
  OpR X f (rI0 fun i j=>.bl (g i j)):=by
 intro pins s σ H x y v u Q I rx ry h;obtain⟨i,j,rfl,rfl,q⟩:=h;obtain⟨t,rfl⟩:=rx;obtain⟨t',rfl⟩:=ry;exact rule i j t t' s _ _ ⟨.bl (g i j),H,I,rfl,q⟩
noncomputable def Au(i j:Int):Prop:=0<j/\j<1073741824
noncomputable def Lv(i j:Int):Prop:=0<=j/\j<=1000000/\i.natAbs<2 ^ 64
noncomputable def wD(i j:Int):Prop:=(-(2 ^ 64)<i/\i<2 ^ 64)\/(-(2 ^ 64)<j/\j<2 ^ 64)
theorem wD.ok {i j:Int}(h:wD i j):IntMulOk i j:=by
 rcases h with⟨h1,h2⟩|⟨h1,h2⟩
 ·exact .of_left (WJ h1 h2)
 exact .of_right (WJ h1 h2)
theorem qw:OpR X (RJ .Add) (rI0 fun i j=>.int (i+j)):=Kh fun _ _ _ _ _ _ _ q=>add_int q
theorem Io:OpR X (RJ .Sub) (rI0 fun i j=>.int (i-j)):=Kh fun _ _ _ _ _ _ _ q=>sub_int q
theorem kE:OpR X (RJ .Mult) (rI wD fun i j=>.int (i*j)):=opI fun _ _ _ _ _ _ _ hc q=>mul_int q hc.ok
theorem zX:OpR X (RJ .FloorDiv) (rI Au fun i j=>.int (i/j)):=opI fun i j _ _ _ _ _ hc q=>by have h1:(0:Int)<j:=hc.1;have h2:j<1073741824:=hc.2;exact floordiv_int (by lia) (by rw[OB i (by lia)];exact q) (.inl (UJ (by lia)))
theorem mf:OpR X (RJ .Mod) (rI (fun _ j=>0<j) fun i j=>.int (i%j)):=opI fun i j _ _ _ _ _ hc q=>by have h1:(0:Int)<j:=hc;exact mod_int' (by lia) (by rw[OC i (by lia)];exact q)
theorem Hk:OpR X (RJ .Pow) (rI Lv fun i j=>.int (i ^ j.toNat)):=opI fun _ _ _ _ _ _ _ hc q=>pow_int_small hc.1 hc.2.1 hc.2.2 q
theorem unI{f:Qy->Sem Qy}{g:Int->Int}
  (rule:∀(i:Int) (t:Tok) (s:QB) (Q:Qy->QB->Prop) (E:Qy->QB->Prop),Q (.int (g i) s.toks) {s with toks:=s.toks+1}->QG (QM X.prog X.w) X.A (f (.int i t)) Q E s) :
  UnR X f (rU fun i=>.int (g i)):=by
 intro pins s σ H x v Q I rx h;obtain⟨i,rfl,q⟩:=h;obtain⟨t,rfl⟩:=rx;exact rule i t s _ _ ⟨.int (g i),H,I.tok _,⟨_,rfl⟩,q⟩
theorem HJ:UnR X (unaryOp .USub) (rU fun i=>.int (-i)):=unI fun _ _ _ _ _ q=>neg_int q
theorem HF{Q:VK}{k k':Bool}(I:Inv X pins σ H s)(q:Q (.bl k) H)(e:k=k'):EP X pins σ Q (.bool k') s:=by subst e;exact⟨.bl k,H,I,rfl,q⟩
theorem Kd:OpR X (Ro .Lt) (rI0 fun i j=>.bl (decide (i<j))):=E2 fun _ _ _ _ _ _ _ q=>lt_int q
theorem Kt:OpR X (Ro .LtE) (rI0 fun i j=>.bl (decide (i<=j))):=E2 fun _ _ _ _ _ _ _ q=>le_int q
theorem K4:OpR X (Ro .Gt) (rI0 fun i j=>.bl (decide (j<i))):=E2 fun _ _ _ _ _ _ _ q=>gt_int q
theorem FW:OpR X (Ro .GtE) (rI0 fun i j=>.bl (decide (j<=i))):=E2 fun _ _ _ _ _ _ _ q=>ge_int q
theorem HL:OpR X (Ro .Is) (fun x y H Q=>y=.non/\Q (.bl (decide (x=.non))) H):=by
 intro pins s σ H x y v u Q I rx ry h;obtain⟨rfl,q⟩:=h;cases ry;refine is_none_gen (HF I q ?_);cases x <;> first
  | (cases rx;rfl)
  | (obtain⟨t,rfl⟩:=rx;rfl)
theorem aJ(b:QQ)(h:op≠.In:=by decide)(h2:op≠.NotIn:=by decide):SR op b=false:=by
 have e1:(op == CmpOp.In)=false:=by cases op <;> first|rfl|exact absurd rfl h
 have e2:(op == CmpOp.NotIn)=false:=by cases op <;> first|rfl|exact absurd rfl h2
 cases b <;> simp[SR,e1,e2]
theorem Ea{r:R2}(ho:OpR X (Ro op) r)(ha:PE X a ta)(hb:PE X b tb)(hm:SR op b=false):PE X (.Compare a [op] [b] pos) (tOp r ta tb):=by intro pins s σ H Q I h;exact wpAny_Compare1 (HZ ha hb I h fun v u s2 x y H2 I2 rx ry q=>ho pins s2 σ H2 x y v u Q I2 rx ry q) hm
noncomputable def By(t:TE):TT:=fun σ H Q=>t σ H fun x H'=>∃k,x=.bl k/\Q k H'
theorem uS{r:R2}(ho:OpR X (Ro op) r)(ha:PE X a ta)(hb:PE X b tb)(hm:SR op b=false):PT X (.Compare a [op] [b] pos) (By (tOp r ta tb)):=by
 intro pins s σ H Q I h;refine wpAny_isTrue_Compare1 (thn (ha pins s σ H _ I h) fun v s1 ⟨x,H1,I1,r1,q1⟩=>thn (hb pins s1 σ H1 _ I1 q1) fun u s2 ⟨y,H2,I2,r2,q2⟩=>
  thn (ho pins s2 σ H2 x y v u _ I2 r1 r2 q2) fun c s3 ⟨z,H3,I3,r3,k,e,q3⟩=>?_) hm
 subst e;cases r3;exact RV ⟨H3,I3,q3⟩
noncomputable def Cm(r r':R2)(ta tb tc:TE):TE:=fun σ H Q=>ta σ H fun x H1=>tb σ H1 fun y H2=>r x y H2 fun z H3=>∃k,z=.bl k/\
 (if k=true then tc σ H3 fun w' H4=>r' y w' H4 Q else Q (.bl false) H3)
theorem CB{op':Vv}{r r':R2}(ho:OpR X (Ro op) r)(ho':OpR X (Ro op') r')(ha:PE X a ta)(hb:PE X b tb)(hc:PE X c tc)
  (hm:lastMarks [op,op'] [b,c]=false:=by with_unfolding_all rfl):PT X (.Compare a [op,op'] [b,c] pos) (By (Cm r r' ta tb tc)):=by
 intro pins s σ H Q I h;refine isTrue_chain (thn (ha pins s σ H _ I h) ?_) hm;rintro v s1 ⟨x,H1,I1,r1,q1⟩;refine test_link (thn (hb pins s1 σ H1 _ I1 q1) ?_);rintro u s2 ⟨y,H2,I2,r2,q2⟩;refine thn (ho pins s2 σ H2 x y v u _ I2 r1 r2 q2) ?_;rintro d s3 ⟨z,H3,I3,r3,k,e,q3⟩;subst e;cases r3;refine RV ?_;cases k with
 |false=>
  obtain⟨k',e',q'⟩:=q3;cases e';exact ite_ff ⟨H3,I3,q'⟩
 |true=>
  refine ite_tt (test_last (thn (hc pins s3 σ H3 _ I3 q3) ?_));rintro w' s4 ⟨z',H4,I4,r4,q4⟩;refine thn (ho' pins s4 σ H4 y z' u w' _ I4 r2 r4 q4) ?_;rintro d' s5 ⟨z2,H5,I5,r5,k2,e2,q5⟩;subst e2;cases r5;exact RV ⟨H5,I5,q5⟩
noncomputable def Hr(K:Qz)(x:V)(H:Hp)(k:Bool):Prop:=
 match x with
 | .non=>k=false
 | .bl b=>k=b
 | .int i=>k=(i != 0)
 | .str y=>y.length<=sizeLine/\k=((y.length:Int) != 0)
 | .byt y=>y.size<=sizeLine/\k=((y.size:Int) != 0)
 | .ref p=>(∃xs,SqL K H p xs/\k=!xs.isEmpty)\/(∃xs,SqT K H p xs/\k=!xs.isEmpty)\/∃kvs,H p=some (.dK kvs)/\k=!kvs.isEmpty
 | _=>False
theorem x9{κ:Type}{kvs:List (κ×V)}{vs:List (κ×Qy)}(r:KV kvs vs):(!vs.isEmpty)=!kvs.isEmpty:=by cases r <;> rfl
theorem qh{its:List Qy}(r:Vals xs its):(!its.toArray.isEmpty)=!xs.isEmpty:=by cases r <;> simp
theorem kC:(sizeLine:Nat)<2 ^ 63:=by rw[sizeLine_eq];decide
theorem HW:Lr X (fun x H Q=>∃k,Hr X.K x H k/\Q k H):=by
 intro pins s σ H x v Q I rx h;obtain⟨k,e,q⟩:=h;have hl:=kC;have hs:sizeLine=16777216:=sizeLine_eq;cases x with
 |non=>
  cases rx;have e':k=false:=e;subst e';exact truthy_none ⟨H,I,q⟩
 |bl b=>
  cases rx;have e':k=b:=e;subst e';exact RV ⟨H,I,q⟩
 |int i=>
  obtain⟨t,rfl⟩:=rx;have e':k=(i != 0):=e;subst e';exact PySem.P.truthy_int ⟨H,I,q⟩
 |str y=>
  obtain⟨t,rfl⟩:=rx;obtain⟨hy,e'⟩:y.length<=sizeLine/\k=((y.length:Int) != 0):=e;subst e';exact PySem.P.truthy_str (by lia) ⟨H,I.tok _,q⟩
 |byt y=>
  obtain⟨t,rfl⟩:=rx;obtain⟨hy,e'⟩:y.size<=sizeLine/\k=((y.size:Int) != 0):=e;subst e';exact PySem.W.truthy_bytes (by lia) ⟨H,I.tok _,q⟩
 |ref p=>
  cases rx;have e':(∃xs,SqL X.K H p xs/\k=!xs.isEmpty)\/(∃xs,SqT X.K H p xs/\k=!xs.isEmpty)\/∃kvs,H p=some (.dK kvs)/\k=!kvs.isEmpty:=e;rcases e' with⟨xs,hx,e'⟩|⟨xs,hx,e'⟩|⟨kvs,hx,e'⟩
  ·subst e';obtain⟨its,r,pl,hz⟩:=I.list hx;have hlen:=r.length;exact wpAny_truthy_list pl.isList (by simp only[q_];lia) ⟨H,I.tok _,by rw[qh r];exact q⟩
  ·subst e';obtain⟨its,r,pl,hz⟩:=I.tuple hx;have hlen:=r.length;exact truthy_tuple pl (by simp only[q_];lia) ⟨H,I.tok _,by rw[qh r];exact q⟩
  ·subst e';obtain⟨hz,hS,vs,r,m⟩:kvs.length<=sizeLine/\(p == Rv)=false/\∃vs,KV kvs vs/\s.heap.DictOf (bo X.prog X.w) p vs:=I.hok p _ hx;have hlen:kvs.length=vs.length:=RX r;exact wpAny_truthy_dict hS m (by lia) ⟨H,I.tok _,by rw[x9 r];exact q⟩
 | _=>exact(show False from e).elim
theorem BR(ha:PE X a ta)(he:∀whole,Vh a X.env whole=(do let v <-whole;Wl a.pos;Tu [v] (truthy v))) :
  PT X a (fun σ H Q=>ta σ H fun x H'=>∃k,Hr X.K x H' k/\Q k H'):=by
 intro pins s σ H Q I h;exact isTrue_plain (thn (ha pins s σ H _ I h) fun v s1 ⟨x,H1,I1,r1,q1⟩=>HW pins s1 σ H1 x v Q I1 r1 q1) (he _)
theorem xE:OpR X (RJ .Add) (fun x y H Q=>∃i j,x=.str i/\y=.str j/\i.length+j.length<=sizeLine/\Q (.str (i++j)) H):=by intro pins s σ H x y v u Q I rx ry h;obtain⟨i,j,rfl,rfl,hz,q⟩:=h;obtain⟨t,rfl⟩:=rx;obtain⟨t',rfl⟩:=ry;exact add_str (fun t' tk=>⟨.str (i++j),H,I.tok _,⟨_,rfl⟩,q⟩) hz
theorem vals1{x:V}(r:Vals [x] us):∃u,us=[u]/\RelV x u:=by
 cases r with
 |cons r1 r2=>cases r2;exact⟨_,rfl,r1⟩
theorem vals2{x y:V}(r:Vals [x,y] us):∃u w',us=[u,w']/\RelV x u/\RelV y w':=by
 cases r with
 |cons r1 r2=>
  cases r2 with
  |cons r3 r4=>cases r4;exact⟨_,_,rfl,r1,r3⟩
theorem D6:bG X (.builtin "abs") (fun xs H Q=>∃i,xs=[.int i]/\Q (.int (if i<0 then -i else i)) H):=by intro pins s σ H xs us Q I r h;obtain⟨i,rfl,q⟩:=h;obtain⟨u,rfl,t,rfl⟩:=vals1 r;exact call_abs_int fun u tk=>⟨.int (if i<0 then -i else i),H,I.tok _,⟨_,rfl⟩,q⟩
theorem As(hc:X.calm=true):bG X (.builtin "max") (fun xs H Q=>∃i j,xs=[.int i,.int j]/\Q (.int (if j > i then j else i)) H):=by
 intro pins s σ H xs us Q I r h;obtain⟨i,j,rfl,q⟩:=h;obtain⟨u,w',rfl,⟨t,rfl⟩,⟨t',rfl⟩⟩:=vals2 r;refine max_two_ints (I.ok.hd hc) fun h' tk k=>⟨_,H,I.kept k,?_,q⟩;by_cases hj:j > i
 ·rw[if_pos hj,if_pos hj];exact⟨_,rfl⟩
 rw[if_neg hj,if_neg hj];exact⟨_,rfl⟩
theorem Aw(hc:X.calm=true):bG X (.builtin "min") (fun xs H Q=>∃i j,xs=[.int i,.int j]/\Q (.int (if j<i then j else i)) H):=by
 intro pins s σ H xs us Q I r h;obtain⟨i,j,rfl,q⟩:=h;obtain⟨u,w',rfl,⟨t,rfl⟩,⟨t',rfl⟩⟩:=vals2 r;refine min_two_ints (I.ok.hd hc) fun h' tk k=>⟨_,H,I.kept k,?_,q⟩;by_cases hj:j<i
 ·rw[if_pos hj,if_pos hj];exact⟨_,rfl⟩
 rw[if_neg hj,if_neg hj];exact⟨_,rfl⟩
theorem vP:bG X (.builtin "divmod") (fun xs H Q=>∃i j,xs=[.int i,.int j]/\Au i j/\∀p,H p=none->Q (.ref p) (upd H p (.tup [.int (i/j),.int (i%j)]))):=by intro pins s σ H xs us Q I r h;obtain⟨i,j,rfl,⟨h1,h2⟩,q⟩:=h;obtain⟨u,w',rfl,⟨t,rfl⟩,⟨t',rfl⟩⟩:=vals2 r;refine divmod_int (by lia) ?_ (.inl (UJ (by lia)));rw[OB i (by lia),OC i (by lia)];have hn:H s.heap.objs.size=none:=I.hok.fresh (b_ _);refine⟨.ref s.heap.objs.size,_,?_,rfl,q _ hn⟩;refine I.laid (fun b o e=>QD _ e) (b_ _) ⟨by simp only[h_,Mf];rw[sizeLine_eq];decide,[.int (i/j) s.toks,.int (i%j) (s.toks+1)],.cons ⟨_,rfl⟩ (.cons ⟨_,rfl⟩ .nil),?_⟩;exact⟨_,QH s.heap rfl,rfl,0,rfl⟩
end
theorem r6.some_of {o:Option Qy}(r:r6 (some v) o):∃u,o=some u/\RelV v u:=by
 cases o with
 |none=>exact(show False from r).elim
 |some u=>exact⟨u,rfl,r⟩
structure Room (k:Nat) (A:QY):Prop where
 hd:A.handled=none
 dp:A.depth+3*k+5<recursionLimit
 un:A.units+16*k+200<cLine
 gs:A.guards=some []
theorem Room.mono {j k:Nat}(r:Room k A)(h:j<=k):Room j A:=⟨r.hd,by have:=r.dp;lia,by have:=r.un;lia,r.gs⟩
theorem Room.deeper {k:Nat}(r:Room (k+1) A)(env:Env):Room k (A.deeper env):=
 ⟨r.hd,by have:=r.dp;show A.depth+1+3*k+5<_;lia,by have:=r.un;show A.units+3+16*k+200<_;lia,r.gs⟩
theorem Room.depth {k:Nat}(r:Room k A):A.depth<recursionLimit:=by have:=r.dp;lia
theorem Room.units {k:Nat}(r:Room k A):A.units+64<cLine:=by have:=r.un;lia
noncomputable def L4:TA:=fun _ H Q=>Q [] H
noncomputable def KD(ta:TE)(tr:TA):TA:=fun σ H Q=>ta σ H fun x H1=>tr σ H1 fun xs H2=>Q (x::xs) H2
section
variable{X:Cx}{e:QQ}{es:List QQ}{te:TE}{t:TA}{pos:Pos}
theorem jY:PA X [] L4:=fun _ _ _ _ H Q I h=>Vy ⟨[],H,I,.nil,h⟩
theorem eA(ha:PE X e te)(hr:PA X es t)(hs:QS (e::es) X.env=(false,Q9 e X.env)::QS es X.env:=by rfl):PA X (e::es) (KD te t):=by intro pos pins s σ H Q I h;rw[hs];show QG _ _ (spliced ((false,Q9 e X.env)::SM pos (QS es X.env))) _ _ s;refine Sz (thn (ha pins s σ H _ I h) ?_);rintro u s1 ⟨x,H1,I1,r1,q1⟩;exact thn (hr pos pins s1 σ H1 _ I1 q1) fun us s2 ⟨xs,H2,I2,r2,q2⟩=>⟨x::xs,H2,I2,.cons r1 r2,q2⟩
noncomputable def Ld(t:TA):TE:=fun σ H Q=>t σ H fun xs H1=>xs.length<=sizeLine/\∀p,H1 p=none->Q (.ref p) (upd H1 p (.lst xs))
theorem BW(h:PA X es t):PE X (.List es pos) (Ld t):=by intro pins s σ H Q I hq;refine Vk (thn (h pos pins s σ H _ I hq) fun us s1 ⟨xs,H1,I1,r,z,q⟩=>⟨by rw[<-r.length];exact z,?_⟩);have hf:H1 s1.heap.objs.size=none:=I1.hok.fresh (b_ _);refine⟨.ref s1.heap.objs.size,upd H1 s1.heap.objs.size (.lst xs),I1.laid (t':=s1.toks) (fun b u e=>QD _ e) (b_ _) ?_,rfl,q _ hf⟩;exact⟨z,us,0,r,QH _ rfl⟩
end
abbrev Sp:=List V->Hp->VK->XK->Prop
abbrev CXT:=List Env->Hp->QB->XK->Qy->QB->Prop
structure Env0 (P:QL) (w:QP) (K:Qz) (mg:Str->Option Qy) (base:QR) (A:QY) (outer:List Env) (s:QB) (H:Hp):Prop where
 frames:A.frames=some outer
 mod:Mod K mg base
 bs:∀b o,base.get? b=some o->s.heap.get? b=some o/\H b=none
 bsz:base.objs.size<=s.heap.objs.size
 qG:s.heap.FunFrames base outer
 frf:∀b∈frs outer,H b=none
 hok:HOk P w H s.heap
 bare:Ts s.gens
noncomputable def CE(outer:List Env)(P:QL)(w:QP)(H:Hp)(s:QB)(Q:VK)(u:Qy)(s':QB):Prop:=
 ∃v H',s'.os=s.os/\Ts s'.gens/\Un (frs outer) [] H H' s.heap s'.heap/\HOk P w H' s'.heap/\RelV v u/\Q v H'
noncomputable def CR(CX:CXT)(outer:List Env)(P:QL)(w:QP)(H:Hp)(s:QB)(Q:VK)(E:XK)(r:W4)(s':QB):Prop:=
 match r with
 | .ok (.ret u)=>CE outer P w H s Q u s'
 | .ok _=>False
 | .error e=>CX outer H s E e s'
structure FnOk (P:QL) (w:QP) (K:Qz) (mg:Str->Option Qy) (base:QR) (CX:CXT) (k:Nat) (f:QA) (fd:QW) (ps:List Str) (sp:Sp):Prop where
 len:∀vs H Q E,sp vs H Q E->vs.length=ps.length
 run:∀(A:QY) (outer:List Env) (s:QB) (H:Hp) (args:Args) (us:List Qy) (vs:List V) (Q:VK) (E:XK),Room k A->Env0 P w K mg base A outer s H->UR s fd args (ps.zip us)->Vals vs us->sp vs H Q E->
  Sx (QM P w) A (.call (.ref f) args) (CR CX outer P w H s Q E) s
variable {CX:CXT}{base:QR}{mg:Str->Option Qy}{ps:List Str}
theorem FnOk.imp {k:Nat}{f:QA}{fd:QW}{sp sp':Sp}(F:FnOk P w K mg base CX k f fd ps sp)
  (h:∀vs H Q E,sp' vs H Q E->sp vs H Q E):FnOk P w K mg base CX k f fd ps sp':=
 ⟨fun vs H Q E q=>F.len vs H Q E (h _ _ _ _ q),fun A outer s H args us vs Q E hr he hb hv hs=>F.run A outer s H args us vs Q E hr he hb hv (h _ _ _ _ hs)⟩
section
variable{X:Cx}{pins:List (QA×Obj)}{σ:St}{H:Hp}{s s':QB}
theorem Inv.Lx (I:Inv X pins σ H s):Env0 X.prog X.w X.K X.mg X.base X.A X.stack s H:=
 ⟨I.ok.frames,I.ok.mod,I.bs,t_ I.ok.bsz I.sz,I.stack,I.yF,I.hok,I.bare⟩
theorem Inv.after {Q:VK}(I:Inv X pins σ H s)(h:CE X.stack X.prog X.w H s Q u s'):EP X pins σ Q u s':=by obtain⟨v,H',os,bare,un,hok,r,q⟩:=h;obtain⟨hh,g,d,t,os'⟩:=s';obtain rfl:os'=s.os:=os;exact⟨v,H',I.call (h':=hh) (g':=g) (d':=d) (t':=t) (ch:=[]) un hok bare (fun b z=>absurd z (by simp)),r,q⟩
end
noncomputable def DJ(sp:Sp)(dvs:List V)(E:XK)(t:TA):TE:=fun σ H Q=>t σ H fun vs H1=>sp (vs++dvs) H1 Q E
noncomputable def Binds(K:Qz)(fd:QW)(ps:List Str)(ds:List Qy):Prop:=
 ∀(s:QB) (us:List Qy),K.In s.heap->(us++ds).length=ps.length->UR s fd ⟨us,[]⟩ (ps.zip (us++ds))
theorem Binds.all {fd:QW}(h:∀us:List Qy,us.length=ps.length->W5 fd ⟨us,[]⟩=pure (ps.zip us)):Binds K fd ps []:=fun s us _ hl=>by rw[E_]at hl ⊢;exact .of_eq (h us hl)
noncomputable def Passes(CX:CXT)(X:Cx)(E:XK):Prop:=∀(pins:List (QA×Obj)) (σ:St) (H:Hp) (s:QB) (e:Qy) (s':QB),Inv X pins σ H s->CX X.stack H s E e s'->X.xe e s'
variable {vs:List V}
section
variable{X:Cx}{CX:CXT}{k:Nat}{f C:QA}{fd:QW}{ps:List Str}{sp:Sp}{dvs:List V}{ds:List Qy}{E:XK}{x m:Str}{p pos apos:Pos}{e o:QQ}{es:List QQ}{ta:TE}{t:TA}
theorem HG{Q:VK}(F:FnOk X.prog X.w X.K X.mg X.base CX k f fd ps sp)(hr:Room k X.A)(hb:Binds X.K fd ps ds)(hd:Vals dvs ds)(hx:Passes CX X E)
  (I:Inv X pins σ H s) (r:Vals vs us) (h:sp (vs++dvs) H Q E):QG (QM X.prog X.w) X.A (call (.ref f) us) (EP X pins σ Q) X.xe s:=by
 have r2:Vals (vs++dvs) (us++ds):=r.append hd;have hl:(us++ds).length=ps.length:=by rw[<-r2.length];exact F.len _ _ _ _ h
 refine wpAny_call (Sl (F.run X.A X.stack s H ⟨us,[]⟩ (us++ds) (vs++dvs) Q E hr I.Lx (hb s us I.kIn hl) r2 h) fun r s' hq=>?_);cases r with
 |error e=>exact hx pins σ H s e s' I hq
 |ok fl=>
  cases fl with
  |ret u=>exact I.after hq
  |next=>exact QU hq
  |brk=>exact QU hq
  |cont=>exact QU hq
theorem Eo(F:FnOk X.prog X.w X.K X.mg X.base CX k f fd ps sp)(hr:Room k X.A)(hg:Gl X x)(hm:X.mg x=some (.ref f))(hk:Ta X.K (.ref f)=true)(hb:Binds X.K fd ps ds)(hd:Vals dvs ds)(hx:Passes CX X E)
  (ha:PA X (e::es) t) (hdb:(x ==("__debug__":Str))=false:=by decide) (he:QS (e::es) X.env=(false,Q9 e X.env)::QS es X.env:=by rfl) (hpl:(SM pos (QS es X.env)).any (·.1)=false:=by rfl) :
  PE X (.Call (.Name x p) (e::es) [] pos) (DJ sp dvs E t):=by
 intro pins s σ H Q I h;refine RE (zo I hg hm ?_ hdb);refine PySem.W.callWith_K (h₀:=X.base) I.ok.mod.kin hk (thn (ha pos pins s σ H _ I h) fun us s1 ⟨vs,H1,I1,r,q⟩=>⟨I1.kIn,?_⟩) he hpl;exact HG F hr hb hd hx I1 r q
end
structure FnScope (N P:List Str) (sc:RC):Prop where
 kind:sc.kind=.function
 co:sc.isCoroutine=false
 gen:sc.isGenerator=false
 nd:N.Nodup
 pre:N.take P.length=P
 par:∀x∈P,sc.names.lookup x=some .local\/sc.names.lookup x=some .cell
 nofree:∀y∈sc.names,y.2≠.free
theorem sR{kindOf:Str->Option Sn}{x:Str}:∀{binds:List (Str×Qy)}{m:Str->Option Qy},(∀v,(x,v) ∉ binds)->U4 kindOf binds m x=m x
 | [],_,_=>rfl
 | (n,v)::r,m,h=>by
  unfold U4;rw[sR fun w hw=>h w (k_ _ hw)];split
  ·have:x≠n:=by rintro rfl;exact h v o_
   simp[this]
  rfl
theorem sf{kindOf:Str->Option Sn}{x:Str}:∀{binds:List (Str×Qy)}{m:Str->Option Qy},(∀v,(x,v) ∉ binds)->U5 kindOf binds m x=m x
 | [],_,_=>rfl
 | (n,v)::r,m,h=>by
  unfold U5;rw[sf fun w hw=>h w (k_ _ hw)];split
  ·rfl
  have:x≠n:=by rintro rfl;exact h v o_
  simp[this]
theorem rm{kindOf:Str->Option Sn}{x:Str}{v:Qy}:∀{P:List Str}{vs:List Qy}{i:Nat}{m:Str->Option Qy},P.Nodup->P[i]?=some x->vs[i]?=some v->kindOf x=some .local->
  U4 kindOf (P.zip vs) m x=some v
 | [],_,_,_,_,h,_,_=>by simp at h
 | _::_,[],_,_,_,_,h,_=>by simp at h
 |p::P,w::vs,0,m,nd,h1,h2,hk=>by simp at h1 h2;subst h1;subst h2;show U4 kindOf ((p,w)::P.zip vs) m p=_;unfold U4;rw[sR fun v hv=>(G_.mp nd).1 (OZ hv).1,if_pos hk];simp
 |p::P,w::vs,i+1,m,nd,h1,h2,hk=>by show U4 kindOf ((p,w)::P.zip vs) m x=_;unfold U4;exact rm (i:=i) (G_.mp nd).2 (by simpa using h1) (by simpa using h2) hk
theorem rN{kindOf:Str->Option Sn}{x:Str}{v:Qy}:∀{P:List Str}{vs:List Qy}{i:Nat}{m:Str->Option Qy},P.Nodup->P[i]?=some x->vs[i]?=some v->kindOf x≠some .local->
  U5 kindOf (P.zip vs) m x=some v
 | [],_,_,_,_,h,_,_=>by simp at h
 | _::_,[],_,_,_,_,h,_=>by simp at h
 |p::P,w::vs,0,m,nd,h1,h2,hk=>by simp at h1 h2;subst h1;subst h2;show U5 kindOf ((p,w)::P.zip vs) m p=_;unfold U5;rw[sf fun v hv=>(G_.mp nd).1 (OZ hv).1,if_neg hk];simp
 |p::P,w::vs,i+1,m,nd,h1,h2,hk=>by show U5 kindOf ((p,w)::P.zip vs) m x=_;unfold U5;exact rN (i:=i) (G_.mp nd).2 (by simpa using h1) (by simpa using h2) hk
noncomputable def start(N:List Str)(vs:List V):St:=vs.map some++MX (N.length-vs.length) none
noncomputable def x5(CX:CXT)(P:QL)(w:QP)(K:Qz)(mg:Str->Option Qy)(base:QR)(N:List Str)(qual:Str)(scope:RC)(f:QA)(cd:Qy)(A:QY)(outer:List Env)(s:QB)(H:Hp)(E:XK):Cx where
 prog:=P
 w:=w
 K:=K
 mg:=mg
 base:=base
 A:=A.deeper (TB qual scope s.heap.objs.size f cd)
 N:=N
 s₀:=s
 H₀:=H
 env:=TB qual scope s.heap.objs.size f cd
 outer:=outer
 stack:=TB qual scope s.heap.objs.size f cd::outer
 ex:=[]
 calm:=true
 fn:=fun _=>true
 pn:=[]
 xe:=fun e s'=>QG (QM P w) (A.deeper (TB qual scope s.heap.objs.size f cd)) (leaving (TB qual scope s.heap.objs.size f cd) e) (fun _ s''=>CX outer H s E e s'') (fun e' s''=>CX outer H s E e' s'') s'
theorem vG{sc:RC}{n:Nat}(h:sc.names.lookup x=some .cell):∃c,(WB n sc.names []).lookup x=some c:=by have q:=UK sc.names n [] (.inl h);exact Option.isSome_iff_exists.mp q
theorem Ab{qual:Str}{scope:RC}{f:QA}{cd:Qy}{outer:List Env}{s1:QB}{E:XK}
  (S:FnScope N ps scope) (hd:A.handled=none) (e0:Env0 P w K mg base A outer s H) (hl:vs.length=ps.length) (r:Vals vs us)
  (x:InCallC s s.heap.objs.size (U4 (TB qual scope s.heap.objs.size f cd).kindOf (ps.zip us) fun _=>none) (WB (s.heap.objs.size+1) scope.names []) (U5 (TB qual scope s.heap.objs.size f cd).kindOf (ps.zip us) fun _=>none) s1) :
  Inv (x5 CX P w K mg base N qual scope f cd A outer s H E) [] (start N vs) H s1:=by
 have hpl:ps.length<=N.length:=by have:=congrArg Ox S.pre;rw[D_]at this;lia
 obtain⟨h1,tk,rfl,hk⟩:=x.done;have noA:∀b:QA,b ∉ (x5 CX P w K mg base N qual scope f cd A outer s H E).ex:=fun b z=>absurd (show b∈([]:List QA)from z) (by simp)
 refine⟨⟨e0.mod,S.kind,rfl,rfl,b_ _,fun y z c h1 h2=>?_,fun y hy=>?_,fun y c _ h=>?_,fun _=>hd,Around.frames_deeper e0.frames,.inr ⟨rfl,rfl⟩,fun b z=>absurd z (noA b),e0.bs,e0.bsz,fun b _ _=>noA b,fun b z=>absurd z (noA b),e0.qG,e0.frf⟩,
  rfl,e0.bare,Un.kept hk,⟨_,x.toInCall.ns,fun i y v h1 h2 h3=>?_⟩,fun y c h=>⟨_,x.cell y c h⟩,e0.hok.fresh (b_ _),fun y c h=>?_,fun p hp=>absurd (show p∈([]:List (QA×Obj))from hp) (by simp),e0.hok.kept hk,?_⟩
 ·exact name_of_addr x.apart (RK h1) (RK h2)
 ·have hy:scope.names.lookup y=some .cell\/scope.names.lookup y=some .free:=hy;rcases hy with hy|hy
  ·exact vG hy
  exact absurd rfl (S.nofree _ (RK hy))
 ·exact J_ (x.above y c (RK h))
 ·have hi:i<vs.length:=by
   unfold start at h2;by_cases hi:i<vs.length
   ·exact hi
   rw[LV (by simpa using hi)]at h2;rw[List.getElem?_replicate]at h2;split at h2 <;> cases h2
  have ha:vs[i]?=some v:=by
   unfold start at h2;rw[MM (by simpa using hi),B']at h2;cases e:vs[i]? with
   |none=>rw[e]at h2;cases h2
   |some a=>rw[e]at h2;cases h2;rfl
  obtain⟨u,hu,rv⟩:=r.get ha;have hp:ps[i]?=some y:=by rw[<-S.pre,List.getElem?_take_of_lt (by lia)];exact h1
  have ndP:ps.Nodup:=by rw[<-S.pre];exact S.nd.sublist (Nu _ _)
  refine⟨u,rv,?_⟩;rcases S.par y (F_ hp)with k|k
  ·exact .inl ⟨k,rm ndP hp hu k⟩
  obtain⟨c,e⟩:=vG (n:=s.heap.objs.size+1) k;refine .inr ⟨.inl k,c,e,?_⟩;have q:=x.cell y c e;rw[rN ndP hp hu (by show scope.names.lookup y≠_;rw[k];decide)]at q;exact q
 ·exact e0.hok.fresh (J_ (x.above y c (RK h)))
 unfold start;show _=N.length;rw[d_,a_,List.length_replicate];lia
theorem JU{k:Nat}{f:QA}{name qual:Str}{params:Arguments}{scope:RC}{dV kV doc pm cdv ct oc:Qy}{an od:Option QA}
  {osl:Array (Option Qy)}{N ps:List Str}{sp:Sp} (lk:K.lookup f=some ⟨oc,od,.func (R8 name qual params body scope dV kV doc pm an cdv ct),osl⟩) (hcd:TQ K cdv qual=true) (S:FnScope N ps scope)
  (len:∀vs H Q E,sp vs H Q E->vs.length=ps.length)
  (hbody:∀(A:QY) (outer:List Env) (s:QB) (H:Hp) (vs:List V) (Q:VK) (E:XK),Room k (A.deeper (TB qual scope s.heap.objs.size f cdv))->sp vs H Q E->
   ∃t,PSs (x5 CX P w K mg base N qual scope f cdv A outer s H E) body t/\t { nx:=fun _ H'=>Q .non H',rt:=Q} (start N vs) H) :
  FnOk P w K mg base CX (k+1) f (R8 name qual params body scope dV kV doc pm an cdv ct) ps sp:=by
 refine⟨len,fun A outer s H args us vs Q E hr e0 hb r hsp=>?_⟩;have hl:=len _ _ _ _ hsp;have KX:K.In s.heap:=e0.mod.kin.keeps fun b o e=>(e0.bs b o e).1;have lim:s.heap.NoLimit:=e0.mod.nolimit.keeps fun b o e=>(e0.bs b o e).1;have hkind:∀y∈ps.zip us,scope.names.lookup y.1=some .local\/(scope.names.lookup y.1=some .cell/\((WB (s.heap.objs.size+1) scope.names []).lookup y.1).isSome=true):=fun⟨n,v⟩ hy=>by
  rcases S.par n (OZ hy).1 with q|q
  ·exact .inl q
  exact .inr ⟨q,UK _ _ _ (.inl q)⟩
 refine codeAny_call_function hr.depth (KX _ _ lk) rfl S.co S.gen rfl (PySem.W.codeRec_of KX hcd) (hb _ _ _ _ ?_);refine wpAny_newFunctionEnv_cells S.kind hkind fun env he s1 x=>?_;subst he;refine⟨lim.keeps x.toInCall.keep,codeAny_func ?_⟩;obtain⟨t,ht,hq⟩:=hbody A outer s H vs Q E (hr.deeper _) hsp;have I:Inv (x5 CX P w K mg base N qual scope f cdv A outer s H E) [] (start N vs) H s1:=Ab S hr.hd e0 hl r x;refine Q7 (ht [] s1 (start N vs) H _ I hq) (fun fl s' hs=>?_) fun e s' hs=>hs;have fin:∀{σ':St}{H':Hp}{v:V}{u:Qy},Inv (x5 CX P w K mg base N qual scope f cdv A outer s H E) [] σ' H' s'->RelV v u->Q v H'->CE outer P w H s Q u s':=
  fun{σ' H' v u} J rv q=>⟨v,H',J.os,J.bare,J.base,J.hok,rv,q⟩
 cases fl with
 |ret u=>
  obtain⟨v,σ',H',J,rv,q⟩:=hs;exact fin J rv q
 |next=>
  obtain⟨σ',H',J,q⟩:=hs;exact fin (v:=V.non) (u:=Ra) J rfl q
 |brk=>
  obtain⟨_,_,_,q⟩:=hs;exact QU q
 |cont=>
  obtain⟨_,_,_,q⟩:=hs;exact QU q
section
variable{X:Cx}{x:Str}{p pos:Pos}{e:QQ}{es:List QQ}{t:TA}{id T:String}{r:List V->Hp->VK->Prop}
noncomputable def tCB(r:List V->Hp->VK->Prop)(t:TA):TE:=fun σ H Q=>t σ H fun vs H1=>r vs H1 Q
theorem pK(hc:bG X (.builtin id) r)(hg:Gl X x)(hm:X.mg x=none)(hv:R6 x=some (.builtin id))(ha:PA X (e::es) t)(hn:x≠"__name__":=by decide)(hdb:(x ==("__debug__":Str))=false:=by decide)
  (he:QS (e::es) X.env=(false,Q9 e X.env)::QS es X.env:=by rfl) (hpl:(SM pos (QS es X.env)).any (·.1)=false:=by rfl):PE X (.Call (.Name x p) (e::es) [] pos) (tCB r t):=by
 intro pins s σ H Q I h;refine RE (dN I hg hm hv ?_ hn hdb);exact V2 (thn (ha pos pins s σ H _ I h) fun us s1 ⟨vs,H1,I1,r1,q1⟩=>hc pins s1 σ H1 vs us Q I1 r1 q1) he hpl
theorem sS(hc:bG X (.type T) r)(hg:Gl X x)(hm:X.mg x=none)(hv:R6 x=some (.type T))(ha:PA X (e::es) t)(hn:x≠"__name__":=by decide)(hdb:(x ==("__debug__":Str))=false:=by decide)
  (he:QS (e::es) X.env=(false,Q9 e X.env)::QS es X.env:=by rfl) (hpl:(SM pos (QS es X.env)).any (·.1)=false:=by rfl):PE X (.Call (.Name x p) (e::es) [] pos) (tCB r t):=by
 intro pins s σ H Q I h;refine RE (dN I hg hm hv ?_ hn hdb);exact R7 (thn (ha pos pins s σ H _ I h) fun us s1 ⟨vs,H1,I1,r1,q1⟩=>hc pins s1 σ H1 vs us Q I1 r1 q1) he hpl
end
end L2
namespace HT
open PySem PyProof.Rows
variable {Q:Qy->QB->Prop}{hi lo:Option Int}
section
variable{prog:QL}{w:QP}{A:QY}{E:Qy->QB->Prop}{s:QB}
theorem Fe{t b:QA}{vs ws:List Qy}(ht:WU s.heap t vs.toArray)(hb:WU s.heap b ws.toArray)(hv:vs≠[])
  (h1:ws=[]->Q (.ref t) s) (h2:ws≠[]->Q (.ref s.heap.objs.size) {s with heap:=s.heap.push { cls:=.type "tuple",data:=.seq (vs++ws).toArray} })
  (hsz:vs.length+ws.length<=sizeLine):QG (QM prog w) A (RJ .Add (.ref t) (.ref b)) Q E s:=by
 obtain⟨⟨cls,dd,data,sl⟩,ho,hc,n,hd⟩:=id ht;obtain⟨⟨cls2,dd2,data2,sl2⟩,ho2,hc2,n2,hd2⟩:=id hb;simp only at hc hd hc2 hd2;subst hc hd hc2 hd2;have e:vs.toArray++ws.toArray=(vs++ws).toArray:=by simp
 by_cases hw:ws=[]
 ·exact Vl ⟨_,ho,rfl⟩ ⟨_,ho2,rfl⟩ Uo Va Ti Tb (S6 _ _)
   (tuple_addW1 t b vs.toArray ws.toArray n n2 dd dd2 sl sl2 (by simpa using hv) (by simp[hw])) ⟨ho,ho2,h1 hw⟩
 refine Vl ⟨_,ho,rfl⟩ ⟨_,ho2,rfl⟩ Uo Va Ti Tb (S6 _ _)
  (tuple_addW2 t b vs.toArray ws.toArray n n2 dd dd2 sl sl2 (by simpa using hv) (by simpa using hw) (by rw[q_,q_];exact hsz)) ⟨ho,ho2,?_⟩
 rw[e];exact h2 hw
noncomputable def sIx(n d:Nat):Option Int->Nat
 |none=>d
 |some v=>if v<0 then(v+(n:Int)).toNat else min v.toNat n
theorem wq(n d:Nat):sIx n d none=d:=rfl
theorem yu(n d k:Nat):sIx n d (some (k:Int))=min k n:=by show(if(k:Int)<0 then((k:Int)+(n:Int)).toNat else min (k:Int).toNat n)=min k n;rw[if_neg (by lia),Md]
theorem GH(n d:Nat)(hd:d<=n)(o:Option Int):sIx n d o<=n:=by
 cases o with
 |none=>exact hd
 |some v=>
  show(if v<0 then(v+(n:Int)).toNat else min v.toNat n)<=n;by_cases hv:v<0
  ·rw[if_pos hv];lia
  rw[if_neg hv];exact Nat.min_le_right _ _
theorem zg(v:Int)(n d:Nat):(if v<0 then max (v+(n:Int)) 0 else min v (n:Int))=((sIx n d (some v):Nat):Int):=by
 show(if v<0 then max (v+(n:Int)) 0 else min v (n:Int))=(((if v<0 then(v+(n:Int)).toNat else min v.toNat n):Nat):Int);by_cases hv:v<0
 ·simp only[if_pos hv];lia
 simp only[if_neg hv];lia
theorem xi(lo hi:Option Int)(n:Nat):S3 lo hi 1 (n:Int)=(((sIx n 0 lo:Nat):Int),((sIx n n hi:Nat):Int)):=by
 have h1:¬((1:Int)<0):=by lia
 unfold S3;simp only[h1,if_false];refine M7 ?_ ?_
 ·cases lo with
  |none=>rfl
  |some v=>exact zg v n 0
 cases hi with
 |none=>rfl
 |some v=>exact zg v n n
theorem xr(i j:Nat):Sf (i:Int) (j:Int) 1=j-i:=by
 unfold Sf;have h1:(1:Int) > 0:=by lia
 simp only[h1,if_true,Int.ediv_one];split <;> lia
theorem pX{v:Qy}{o:Option Int}{Q:Option Int->QB->Prop}(p:Uq v o)(h:Q o s):QG (QM prog w) A (Wm v) Q E s:=by
 cases p with
 |none=>exact Wn h
 |int i t=>exact slicePart_int h
theorem mC{sl:QA}{vl vu:Qy}{n:Nat}{Q:Int×Int×Nat->QB->Prop}(hs:s.heap.IsSliceOf sl vl vu .none)(pl:Uq vl lo)(pu:Uq vu hi)
  (h:Q (((sIx n 0 lo:Nat):Int),1,sIx n n hi-sIx n 0 lo) s):QG (QM prog w) A (T8 (.ref sl) (pure (n:Int))) Q E s:=by
 obtain⟨os,hos,hcs,hds⟩:=id hs;unfold T8 WW;refine Qx (Qx (Rx hos hds (x:=vl) rfl (Qx (Rx hos hds (x:=vu) rfl (Qx (Rx hos hds (x:=.none) rfl (QC ?_)))))));refine Qx (Wn ?_);show QG _ _ (if((1:Int) == 0)=true then _ else _) _ _ s;rw[if_neg (by decide)];refine Qx (pX pl (Qx (pX pu (Qx (QC ?_)))));show QG _ _ (match S3 lo hi 1 (n:Int)with|(lo,hi)=>pure (lo,(1:Int),Sf lo hi 1)) _ _ s;rw[xi lo hi n];show QG _ _ (pure (((sIx n 0 lo:Nat):Int),(1:Int),Sf ((sIx n 0 lo:Nat):Int) ((sIx n n hi:Nat):Int) 1)) _ _ s;rw[xr];exact QC h
theorem CP(xs:Array Qy)(i k:Nat):((A_ k).filterMap fun(m:Nat)=>xs[((i:Int)+(m:Int)*1).toNat]?).toArray=((xs.toList.drop i).take k).toArray:=by
 have e:(fun(m:Nat)=>xs[((i:Int)+(m:Int)*1).toNat]?)=fun m=>xs[i+m]?:=by
  funext m;have:((i:Int)+(m:Int)*1).toNat=i+m:=by lia
  rw[this]
 rw[e];have:=pick_run xs i k;rw[List.filterMap_map]at this;have e2:((fun x=>xs[x]?) ∘ fun x=>i+x)=fun m=>xs[i+m]?:=rfl;rw[e2]at this;rw[this]
theorem lB{t sl:QA}{items:Array Qy}{vl vu:Qy}(ht:WU s.heap t items)(hs:s.heap.IsSliceOf sl vl vu .none)(pl:Uq vl lo)(pu:Uq vu hi)
  (hw:¬(sIx items.size 0 lo=0/\sIx items.size items.size hi=items.size))
  (h:Q (.ref s.heap.objs.size) {s with heap:=s.heap.push { cls:=.type "tuple",data:=.seq ((items.toList.drop (sIx items.size 0 lo)).take (sIx items.size items.size hi-sIx items.size 0 lo)).toArray} })
  (hsz:items.size<=sizeLine):QG (QM prog w) A (TR (.ref t) (.ref sl)) Q E s:=by
 have htake:sizeOk (.seq ((items.toList.drop (sIx items.size 0 lo)).take (sIx items.size items.size hi-sIx items.size 0 lo)).toArray):=by show((items.toList.drop (sIx items.size 0 lo)).take (sIx items.size items.size hi-sIx items.size 0 lo)).toArray.size<=sizeLine;rw[q_,D_,H_,gV];omega
 have hj:sIx items.size items.size hi<=items.size:=GH _ _ (b_ _) hi;obtain⟨os,hos,hcs,hds⟩:=id hs;have hTs:s.TypeIs (.ref sl) "slice":=⟨os,hos,hcs⟩;unfold TR
 try with_reducible refine Q2 ?_
 first|refine Qx (QC ?_)|skip
 refine Qx (wpAny_sequenceKey ht.typeIs (by decide) ?_);refine Qx (Rf (name:=Rw "__getitem__") ht.typeIs Su
  (Rh Su ht.typeIs entry_tuple_getitem ?_ (args_tuple_getitem _ _)))
 show QG _ _ (WK (.ref t) >>= _) _ _ s;refine Qx (tupleItemsOf_ ht ?_);refine Qx (Vm hTs ?_);rw[if_pos (by decide)];refine Qx (mC hs pl pu ?_);have hno:¬((((sIx items.size 0 lo:Nat):Int) == 0&&(1:Int) == 1&&(sIx items.size items.size hi-sIx items.size 0 lo) == items.size)=true):=by intro q;rw[LW,LW]at q;have q1:((sIx items.size 0 lo:Nat):Int)=0:=eq_of_beq q.1.1;have q2:sIx items.size items.size hi-sIx items.size 0 lo=items.size:=eq_of_beq q.2;exact hw ⟨by lia,by lia⟩
 show QG _ _ (if(((sIx items.size 0 lo:Nat):Int) == 0&&(1:Int) == 1&&(sIx items.size items.size hi-sIx items.size 0 lo) == items.size)=true then _ else _) _ _ s;rw[if_neg hno,CP]
 first
  |exact Qx (m:=So _) (Q1 (QC ⟨_,rfl,QC h⟩) htake)
  |exact Qx (m:=So _) (Q1 (Qx (QC (QC ⟨_,rfl,QC h⟩))) htake)
  |exact Qx (Qx (m:=So _) (Q1 (QC (QC ⟨_,rfl,QC h⟩)) htake))
  |exact Qx (Qx (m:=So _) (Q1 (QC ⟨_,rfl,QC h⟩) htake))
end
end HT
namespace L2
open PySem PySem.Spec PyProof.Rows
abbrev TO:=St->Hp->(Option Int->Hp->Prop)->Prop
noncomputable def PO(X:Cx)(e:Option QQ)(t:TO):Prop:=
 ∀(pins:List (QA×Obj)) (s:QB) (σ:St) (H:Hp) (Q:Option Int->Hp->Prop),Inv X pins σ H s->t σ H Q->
  QG (QM X.prog X.w) X.A (evalPart e X.env) (fun u s'=>∃o H',Inv X pins σ H' s'/\Uq u o/\Q o H') X.xe s
noncomputable def Em:TO:=fun _ H Q=>Q none H
noncomputable def KP(t:TE):TO:=fun σ H Q=>t σ H fun x H1=>∃i,x=.int i/\Q (some i) H1
theorem intsAre_of{ns:List Int}:∀{us:List Qy},Vals (ns.map V.int) us->RL us ns:=by
 induction ns with
 |nil=>intro us r;rw[Nb]at r;cases r;exact .nil
 |cons n ns ih=>
  intro us r;rw[g_]at r;cases r with
  |cons r1 r2=>
   obtain⟨t,e⟩:=r1;subst e;exact .cons n t (ih r2)
variable {us:List Qy}
section
variable{X:Cx}{e:QQ}{te:TE}{lo hi:Option QQ}{tl th:TO}{pos p2:Pos}
theorem yA:PO X none Em:=by intro pins s σ H Q I h;rw[WL];exact QC ⟨none,H,I,.none,h⟩
theorem yx(h:PE X e te):PO X (some e) (KP te):=by intro pins s σ H Q I hw;rw[evalPart_some];refine thn (h pins s σ H _ I hw) ?_;rintro u s1 ⟨x,H1,I1,r1,q1⟩;obtain⟨i,rfl,q⟩:=q1;obtain⟨t,rfl⟩:=r1;exact⟨some i,H1,I1,.int i t,q⟩
noncomputable def SlR(X:Cx)(r:V->Option Int->Option Int->Hp->VK->Prop):Prop:=
 ∀(pins:List (QA×Obj)) (s:QB) (σ:St) (H:Hp) (x:V) (v vl vu:Qy) (lo hi:Option Int) (sl:QA) (Q:VK),Inv X pins σ H s->RelV x v->s.heap.IsSliceOf sl vl vu .none->Uq vl lo->Uq vu hi->r x lo hi H Q->
  ∃T id,typeLookup (.type T) "__getitem__"=pure (some (.builtin id))/\s.TypeIs v T/\QG (QM X.prog X.w) X.A (TR v (.ref sl)) (EP X pins σ Q) X.xe s
noncomputable def tSl(r:V->Option Int->Option Int->Hp->VK->Prop)(te:TE)(tl th:TO):TE:=fun σ H Q=>te σ H fun x H1=>tl σ H1 fun l H2=>th σ H2 fun u H3=>r x l u H3 Q
theorem wK{r:V->Option Int->Option Int->Hp->VK->Prop}(hr:SlR X r)(he:PE X e te)(hl:PO X lo tl)(hu:PO X hi th):PE X (.Subscript e (.Slice lo hi none p2) pos) (tSl r te tl th):=by intro pins s σ H Q I h;refine V3 (thn (he pins s σ H _ I h) ?_);rintro v s1 ⟨x,H1,I1,r1,q1⟩;refine wpAny_Slice (thn (hl pins s1 σ H1 _ I1 q1) fun vl s2 ⟨l,H2,I2,pl,q2⟩=>thn (hu pins s2 σ H2 _ I2 q2) ?_);rintro vu s3 ⟨u,H3,I3,pu,q3⟩;rw[WL];refine QC ?_;have I4:Inv X pins σ H3 {s3 with heap:=s3.heap.push { cls:=.type "slice",data:=.fields #[vl,vu,.none] } }:=I3.kept (t':=s3.toks) fun b ob q=>QD _ q;obtain⟨T,id,hT,ht,hg⟩:=hr pins {s3 with heap:=s3.heap.push { cls:=.type "slice",data:=.fields #[vl,vu,.none] } } σ H3 x v vl vu l u s3.heap.objs.size Q I4 r1 (XR ..) pl pu q3;show QG (QM X.prog X.w) X.A (Tp e (.Slice lo hi none p2) v (.ref s3.heap.objs.size)) (EP X pins σ Q) X.xe {s3 with heap:=s3.heap.push { cls:=.type "slice",data:=.fields #[vl,vu,.none] } };exact tail_any (ops:=[.ref s3.heap.objs.size,v]) ht hT hg (by with_unfolding_all rfl)
noncomputable def gH(xs:List V)(lo hi:Option Int):List V:=(xs.drop (HT.sIx xs.length 0 lo)).take (HT.sIx xs.length xs.length hi-HT.sIx xs.length 0 lo)
theorem oI(xs:List V)(lo hi:Option Int):(gH xs lo hi).length<=xs.length:=by unfold gH;rw[D_,H_];lia
noncomputable def LB(K:Qz):V->Option Int->Option Int->Hp->VK->Prop:=fun x lo hi H Q=>∃a xs,x=.ref a/\SqT K H a xs/\
 ¬(HT.sIx xs.length 0 lo=0/\HT.sIx xs.length xs.length hi=xs.length)/\∀p,H p=none->Q (.ref p) (upd H p (.tup (gH xs lo hi)))
theorem IL:SlR X (LB X.K):=by
 intro pins s σ H x v vl vu lo hi sl Q I rx hs pl pu h;obtain⟨a,xs,rfl,hx,hw,q⟩:=h;cases rx;obtain⟨its,r,ht,hz⟩:=I.tuple hx;have hlen:its.toArray.size=xs.length:=by rw[q_];exact r.length.symm
 refine⟨"tuple",_,Su.lookup,ht.typeIs,?_⟩;refine HT.lB ht hs pl pu (by rw[hlen];exact hw) ?_ (by rw[hlen];exact hz);rw[hlen];refine⟨.ref s.heap.objs.size,_,I.laid (t':=s.toks) (o:=.tup (gH xs lo hi)) (fun b ob q=>QD _ q) (b_ _) ?_,rfl,q _ (I.hok.fresh (b_ _))⟩;exact⟨t_ (oI xs lo hi) hz,_,(r.drop (HT.sIx xs.length 0 lo)).take (HT.sIx xs.length xs.length hi-HT.sIx xs.length 0 lo),WC _ _⟩
noncomputable def K7(K:Qz):R2:=fun x y H Q=>∃a b xs ys,x=.ref a/\y=.ref b/\SqT K H a xs/\SqT K H b ys/\xs≠[]/\xs.length+ys.length<=sizeLine/\
 (ys=[]->Q (.ref a) H)/\(ys≠[]->∀p,H p=none->Q (.ref p) (upd H p (.tup (xs++ys))))
theorem Vals.tU {xs:List V}(r:Vals xs us):us=[]↔xs=[]:=by
 cases r with
 |nil=>simp
 |cons _ _=>simp
theorem F4:OpR X (RJ .Add) (K7 X.K):=by intro pins s σ H x y v u Q I rx ry h;obtain⟨a,b,xs,ys,rfl,rfl,ha,hb,hx,hz,q1,q2⟩:=h;cases rx;cases ry;obtain⟨its,r1,p1,_⟩:=I.tuple ha;obtain⟨its2,r2,p2,_⟩:=I.tuple hb;refine HT.Fe p1 p2 (fun z=>hx (r1.tU.mp z)) (fun z=>⟨.ref a,H,I,rfl,q1 (r2.tU.mp z)⟩) (fun z=>?_) (by rw[<-r1.length,<-r2.length];exact hz);refine⟨.ref s.heap.objs.size,_,I.laid (t':=s.toks) (o:=.tup (xs++ys)) (fun b ob q=>QD _ q) (b_ _) ?_,rfl,q2 (fun w=>z (r2.tU.mpr w)) _ (I.hok.fresh (b_ _))⟩;exact⟨by rw[d_];exact hz,_,r1.append r2,WC _ _⟩
theorem oz:bG X (.type "tuple") (fun xs H Q=>∃a ys,xs=[.ref a]/\SqT X.K H a ys/\Q (.ref a) H):=by intro pins s σ H xs us Q I r h;obtain⟨a,ys,rfl,ha,q⟩:=h;obtain⟨u,rfl,ru⟩:=vals1 r;cases ru;obtain⟨its,_,p1,_⟩:=I.tuple ha;exact V4 (items:=its.toArray) p1 ⟨.ref a,H,I,rfl,q⟩
end
noncomputable def ixN(n:Nat)(i:Int):Option Nat:=if 0<=i then(if i<n then some i.toNat else none)else if -(n:Int)<=i then some (i+n).toNat else none
variable {α:Type}
noncomputable def atI(xs:List α)(i:Int):Option α:=(ixN xs.length i).bind fun j=>xs[j]?
variable {n:Nat}
theorem uA{i:Int}{j:Nat}(h:ixN n i=some j):seqIndex? i n=some j/\j<n/\-(n:Int)<=i/\i<n:=by
 unfold ixN at h;by_cases h0:0<=i
 ·rw[if_pos h0]at h;by_cases h1:i<n
  ·rw[if_pos h1]at h;have e:i.toNat=j:=I_ h;exact⟨by rw[VE h0 h1,e],by lia,by lia,h1⟩
  rw[if_neg h1]at h;cases h
 rw[if_neg h0]at h;by_cases h1:-(n:Int)<=i
 ·rw[if_pos h1]at h;have e:(i+n).toNat=j:=I_ h;exact⟨by rw[Vn (by lia) h1,e],by lia,h1,by lia⟩
 rw[if_neg h1]at h;cases h
theorem tZ{xs:List α}{i:Int}{v:α}(h:atI xs i=some v):∃j,seqIndex? i xs.length=some j/\xs[j]?=some v/\j<xs.length/\-(xs.length:Int)<=i/\i<xs.length:=by
 unfold atI at h;cases e:ixN xs.length i with
 |none=>rw[e]at h;cases h
 |some j=>
  rw[e]at h;obtain⟨h1,h2,h3,h4⟩:=uA e;exact⟨j,h1,h,h2,h3,h4⟩
theorem cA{xs:List α}{j:Nat}{v:α}(h:xs[j]?=some v):atI xs (j:Int)=some v:=by
 have hj:j<xs.length:=(f_.mp h).1;have e:ixN xs.length (j:Int)=some j:=by unfold ixN;rw[if_pos (by lia),if_pos (by lia)];simp
 unfold atI;rw[e];exact h
noncomputable def yO(b:QQ):Prop:=∀o i,T3 b false o i=XB [o,i] (TR o i)
noncomputable def IxR(X:Cx)(r:R2):Prop:=
 ∀(value slice:QQ) (pins:List (QA×Obj)) (s:QB) (σ:St) (H:Hp) (x y:V) (v u:Qy) (Q:VK),Inv X pins σ H s->RelV x v->RelV y u->r x y H Q->
  T3 slice false v u=XB [v,u] (TR v u)->QG (QM X.prog X.w) X.A (Tp value slice v u) (EP X pins σ Q) X.xe s
noncomputable def MtR(X:Cx)(id:String)(r:V->List V->Hp->VK->Prop):Prop:=
 ∀(pins:List (QA×Obj)) (s:QB) (σ:St) (H:Hp) (x:V) (xs:List V) (v:Qy) (us:List Qy) (Q:VK),Inv X pins σ H s->RelV x v->Vals xs us->r x xs H Q->
  QG (QM X.prog X.w) X.A (call (.builtin id) (v::us)) (EP X pins σ Q) X.xe s
variable {H:Hp}{its its':List Qy}{pins:List (QA×Obj)}{s:QB}{σ:St}
section
variable{X:Cx}{a b:QQ}{ta tb:TE}{pos:Pos}
theorem IxR.or {r r':R2}(h:IxR X r)(h':IxR X r'):IxR X (fun x y H Q=>r x y H Q\/r' x y H Q):=by
 intro value slice pins s σ H x y v u Q I rx ry q hs;rcases q with q|q
 ·exact h value slice pins s σ H x y v u Q I rx ry q hs
 exact h' value slice pins s σ H x y v u Q I rx ry q hs
theorem Ge{r:R2}(hr:IxR X r)(ha:PE X a ta)(hb:PE X b tb)(hs:yO b):PE X (.Subscript a b pos) (tOp r ta tb):=by intro pins s σ H Q I h;exact V3 (HZ ha hb I h fun v u s2 x y H2 I2 rx ry q=>hr a b pins s2 σ H2 x y v u Q I2 rx ry q (hs _ _))
noncomputable def Ki(K:Qz):R2:=fun x y H Q=>∃p xs i v,x=.ref p/\y=.int i/\SqL K H p xs/\atI xs i=some v/\Q v H
noncomputable def Je(K:Qz):R2:=fun x y H Q=>∃p xs i v,x=.ref p/\y=.int i/\SqT K H p xs/\atI xs i=some v/\Q v H
noncomputable def Kz:R2:=fun x y H Q=>∃z i c,x=.str z/\y=.int i/\z.length<=sizeLine/\atI z.cps.toList i=some c/\Q (.str ⟨#[c]⟩) H
theorem A1:IxR X (Ki X.K):=by
 intro value slice pins s σ H x y v u Q I rx ry h hs;obtain⟨p,xs,i,z,rfl,rfl,hq,he,q⟩:=h;cases rx;obtain⟨t,rfl⟩:=ry;obtain⟨its,r,pl,hz⟩:=I.list hq;obtain⟨j,h1,h2,h3,h4,h5⟩:=tZ he;obtain⟨w,ew,rw'⟩:=r.get h2;have hl:=r.length;have hn:=kC;have fin:EP X pins σ Q w s:=⟨z,H,I,rw',q⟩;by_cases h0:0<=i
 ·have hj:i.toNat=j:=by rw[VE h0 h5]at h1;exact I_ h1
  exact item_listR pl.isList h0 (by lia) (by rw[hj];simpa using ew) fin hs
 have hj:(i+(its.toArray.size:Int)).toNat=j:=by rw[Vn (by lia) h4]at h1;rw[q_,<-hl];exact I_ h1
 exact UL (x:=w) pl.isList.typeIs slot_list_getitem.lookup
  (wpAny_getItem_list_neg (Q:=fun r s'=>r=w/\EP X pins σ Q r s') pl.isList (by lia) (by rw[q_] <;> lia) (by lia) (by rw[hj];simpa using ew) ⟨rfl,fin⟩) hs
theorem HS:IxR X (Je X.K):=by
 intro value slice pins s σ H x y v u Q I rx ry h hs;obtain⟨p,xs,i,z,rfl,rfl,hq,he,q⟩:=h;cases rx;obtain⟨t,rfl⟩:=ry;obtain⟨its,r,pl,hz⟩:=I.tuple hq;obtain⟨j,h1,h2,h3,h4,h5⟩:=tZ he;obtain⟨w,ew,rw'⟩:=r.get h2;have hl:=r.length;have hn:=kC;have fin:EP X pins σ Q w s:=⟨z,H,I,rw',q⟩;exact UL (x:=w) pl.typeIs slot_tuple_getitem.lookup
  (getItem_tuple (j:=j) (Q:=fun r s'=>r=w/\EP X pins σ Q r s') pl (by lia) (by lia) (by rw[q_,<-hl];exact h1) (by simpa using ew) ⟨rfl,fin⟩) hs
theorem BI:IxR X Kz:=by
 intro value slice pins s σ H x y v u Q I rx ry h hs;obtain⟨z,i,c,rfl,rfl,hz,he,q⟩:=h;obtain⟨t,rfl⟩:=rx;obtain⟨t',rfl⟩:=ry;obtain⟨j,h1,h2,h3,h4,h5⟩:=tZ he;have hl:z.cps.toList.length=z.length:=by simp[Str.length]
 rw[hl]at h1 h4 h5;have hn:=kC;exact tail_any (typeIs_str s z t) slot_str_getitem.lookup (getItem_str (c:=c) (by have e1:decide (i < -(2 ^ 63:Int))=false:=decide_eq_false (by lia);have e2:decide (i>=2 ^ 63)=false:=decide_eq_false (by lia);rw[e1,e2,Qb]) (by rw[h1];simpa using h2) ⟨.str ⟨#[c]⟩,H,I.tok _,⟨_,rfl⟩,q⟩) hs
noncomputable def rIx(K:Qz):R2:=fun x y H Q=>Ki K x y H Q\/Je K x y H Q\/Kz x y H Q
theorem J8:IxR X (rIx X.K):=A1.or (HS.or BI)
theorem yb(its:List Qy)(n j:Nat)(u:Qy):Q0 (·.setIfInBounds j u) { cls:=.type "list",data:=.seq its.toArray n}={ cls:=.type "list",data:=.seq (its.set j u).toArray n}:=by simp[Q0]
theorem Inv.lst {pins:List (QA×Obj)}{σ:St}{H:Hp}{s:QB}{p:QA}{xs:List V}(I:Inv X pins σ H s)(h:H p=some (.lst xs)) :
  ∃(its:List Qy) (n:Nat),Vals xs its/\s.heap.get? p=some { cls:=.type "list",data:=.seq its.toArray n}/\xs.length<=sizeLine:=by
 obtain⟨z,its,n,r,e⟩:=I.hok p _ h;exact⟨its,n,r,e,z⟩
theorem Inv.HK {p:QA}{xs ys:List V}{n':Nat}{f:Obj->Obj}(I:Inv X pins σ H s)(h:H p=some (.lst xs))
  (ho:s.heap.get? p=some { cls:=.type "list",data:=.seq its.toArray n}) (hf:f { cls:=.type "list",data:=.seq its.toArray n}={ cls:=.type "list",data:=.seq its'.toArray n'}) (r:Vals ys its') (hz:ys.length<=sizeLine) (t:Nat) :
  Inv X pins σ (upd H p (.lst ys)) {s with heap:=s.heap.update p f,toks:=t}:=by
 have e:(s.heap.update p f).get? p=some { cls:=.type "list",data:=.seq its'.toArray n'}:=by rw[Rk f ho (by rw[hf] <;> rfl),hf]
 refine I.write (x:=p) (e:=p) (by rw[h];trivial) (.inl rfl) (fun b u hb q=>(RN _ _ (Sw hb)).trans q) ⟨_,e⟩ ?_;exact⟨hz,its',n',r,e⟩
noncomputable def JK:V->V->V->Hp->(Hp->Prop)->Prop:=fun o i v H Q=>∃p xs k j,o=.ref p/\i=.int k/\H p=some (.lst xs)/\ixN xs.length k=some j/\Q (upd H p (.lst (xs.set j v)))
theorem set_list:xB X JK:=by
 intro pins s σ H o i v ov iv u Q I ro ri rv h;obtain⟨p,xs,k,j,rfl,rfl,hp,hj,q⟩:=h;cases ro;obtain⟨t,rfl⟩:=ri;obtain⟨its,n,r,ho,hz⟩:=I.lst hp;obtain⟨h1,h2,h3,h4⟩:=uA hj;have hl:=r.length;have hn:=kC;have I':Inv X pins σ (upd H p (.lst (xs.set j v))) {s with heap:=s.heap.update p (Q0 (·.setIfInBounds j u)) }:=
  I.HK hp ho (yb its n j u) (r.set rv j) (by rw[LO];exact hz) s.toks
 by_cases h0:0<=k
 ·have hk:k.toNat=j:=by rw[VE h0 h4]at h1;exact I_ h1
  exact PySem.W.ki_setAt ho h0 (by lia) (by rw[q_,<-hl];exact h4) (by rw[hk];exact⟨_,I',q⟩)
 have hk:(k+(its.toArray.size:Int)).toNat=j:=by rw[Vn (by lia) h3]at h1;rw[q_,<-hl];exact I_ h1
 exact PySem.W.ki_setBack ho (by lia) (by rw[q_,<-hl];exact h3) (by lia) (by rw[hk];exact⟨_,I',q⟩)
theorem tK(lo hi:Option Int)(n:Nat):(SW lo hi none n).1=((HT.sIx n 0 lo:Nat):Int)/\(SW lo hi none n).2.1=((HT.sIx n n hi:Nat):Int)/\(SW lo hi none n).2.2=1:=by
 refine⟨?_,?_,rfl⟩
 ·cases lo with
  |none=>simp[SW,HT.sIx]
  |some i=>
   simp only[SW,HT.sIx,PR,show(1:Int) > 0 by decide,if_true];by_cases h:i<0
   ·simp only[h,if_true] <;> lia
   simp only[h,if_false] <;> lia
 cases hi with
 |none=>simp[SW,HT.sIx]
 |some i=>
  simp only[SW,HT.sIx,PR,show(1:Int) > 0 by decide,if_true];by_cases h:i<0
  ·simp only[h,if_true] <;> lia
  simp only[h,if_false] <;> lia
theorem qW(its:List Qy)(lo hi:Option Int):slicePick its.toArray lo hi none=((its.drop (HT.sIx its.length 0 lo)).take (HT.sIx its.length its.length hi-HT.sIx its.length 0 lo)).toArray:=by obtain⟨h1,h2,h3⟩:=tK lo hi its.toArray.size;unfold slicePick;rw[h1,h2,h3];simp only[sliceRange_one,pick_run,q_] <;> rfl
noncomputable def L8(K:Qz):V->Option Int->Option Int->Hp->VK->Prop:=fun x lo hi H Q=>∃a xs,x=.ref a/\SqL K H a xs/\∀p,H p=none->Q (.ref p) (upd H p (.lst (gH xs lo hi)))
theorem zf:SlR X (L8 X.K):=by intro pins s σ H x v vl vu lo hi sl Q I rx hs pl pu h;obtain⟨a,xs,rfl,hx,q⟩:=h;cases rx;obtain⟨its,r,ht,hz⟩:=I.list hx;have hlen:=r.length;refine⟨"list",_,slot_list_getitem.lookup,ht.isList.typeIs,?_⟩;refine wpAny_getItem_list_slice ht.isList hs pl pu .none (by simp) ?_ (by rw[q_] <;> lia);rw[qW,<-hlen];refine⟨.ref s.heap.objs.size,_,I.laid (t':=s.toks) (o:=.lst (gH xs lo hi)) (fun b ob q=>QD _ q) (b_ _) ?_,rfl,q _ (I.hok.fresh (b_ _))⟩;exact⟨t_ (oI xs lo hi) hz,_,0,(r.drop (HT.sIx xs.length 0 lo)).take (HT.sIx xs.length xs.length hi-HT.sIx xs.length 0 lo),QH _ rfl⟩
theorem kZ:bG X (.builtin "len") (fun xs H Q=>∃p ys,xs=[.ref p]/\(SqL X.K H p ys\/SqT X.K H p ys)/\Q (.int ys.length) H):=by
 intro pins s σ H xs us Q I r h;obtain⟨p,ys,rfl,hq,q⟩:=h;obtain⟨u,rfl,rx⟩:=vals1 r;cases rx;have hn:=kC;rcases hq with hq|hq
 ·obtain⟨its,r',pl,hz⟩:=I.list hq;have hlen:=r'.length;exact Calls.call_len_list pl.isList (by simp only[q_] <;> lia) ⟨.int ys.length,H,I.tok _,⟨s.toks+1,by rw[q_,hlen]⟩,q⟩
 obtain⟨its,r',pl,hz⟩:=I.tuple hq;have hlen:=r'.length;exact len_tuple pl (by simp only[q_] <;> lia) ⟨.int ys.length,H,I.tok _,⟨s.toks+1,by rw[q_,hlen]⟩,q⟩
theorem uq:bG X (.builtin "len") (fun xs H Q=>∃z,xs=[.str z]/\z.length<=sizeLine/\Q (.int z.length) H):=by intro pins s σ H xs us Q I r h;obtain⟨z,rfl,hz,q⟩:=h;obtain⟨u,rfl,t,rfl⟩:=vals1 r;have hn:=kC;exact len_str (by lia) ⟨.int z.length,H,I.tok _,⟨_,rfl⟩,q⟩
theorem tV:bG X (.type "list") (fun xs H Q=>∃p ys,xs=[.ref p]/\(SqL X.K H p ys\/SqT X.K H p ys)/\∀l,H l=none->Q (.ref l) (upd H l (.lst ys))):=by
 intro pins s σ H xs us Q I r h;obtain⟨p,ys,rfl,hq,q⟩:=h;obtain⟨u,rfl,rx⟩:=vals1 r;cases rx;have fin:∀(its:List Qy),Vals ys its->ys.length<=sizeLine->∀(h':QR) (c':Nat),(∀b o',s.heap.get? b=some o'->h'.get? b=some o')->
   h'.get? s.heap.objs.size=some { cls:=.type "list",dict:=none,data:=.seq its.toArray c',slots:=#[] }->EP X pins σ Q (.ref s.heap.objs.size) {s with heap:=h'}:=fun its r' hz h' c' kp e=>
  ⟨.ref s.heap.objs.size,_,I.laid (t':=s.toks) kp (b_ _) (show bg X.prog X.w _ h' _ (.lst ys)from⟨hz,its,c',r',e⟩),rfl,q _ (I.hok.fresh (b_ _))⟩
 rcases hq with hq|hq
 ·obtain⟨its,r',pl,hz⟩:=I.list hq;have hlen:=r'.length;obtain⟨o,ho,hc,n,hd⟩:=pl.isList;exact WM p (.inl rfl) ho hc hd (fun h' c' kp e=>fin its r' hz h' c' kp e) (by simp only[q_] <;> lia)
 obtain⟨its,r',pl,hz⟩:=I.tuple hq;have hlen:=r'.length;obtain⟨o,ho,hc,n,hd⟩:=pl;exact WM p (.inr rfl) ho hc hd (fun h' c' kp e=>fin its r' hz h' c' kp e) (by simp only[q_] <;> lia)
theorem qY:bG X (.type "tuple") (fun xs H Q=>∃p ys,xs=[.ref p]/\((SqL X.K H p ys/\∀l,H l=none->Q (.ref l) (upd H l (.tup ys)))\/(SqT X.K H p ys/\Q (.ref p) H))):=by
 intro pins s σ H xs us Q I r h;obtain⟨p,ys,rfl,h⟩:=h;obtain⟨u,rfl,rx⟩:=vals1 r;cases rx;rcases h with⟨hq,q⟩|⟨hq,q⟩
 ·obtain⟨its,r',pl,hz⟩:=I.list hq;have hlen:=r'.length;refine call_tuple_list pl.isList (fun h' kp=>?_) (by simp only[q_] <;> lia);have I1:Inv X pins σ H {s with heap:=h'}:=I.kept (t':=s.toks) kp;have I2:Inv X pins σ (upd H h'.objs.size (.tup ys)) {s with heap:=h'.push { cls:=.type "tuple",data:=.seq its.toArray} }:=
   I1.laid (t':=s.toks) (fun b o e=>QD _ e) (b_ _) (show bg X.prog X.w _ _ _ (.tup ys)from⟨hz,its,r',WC _ _⟩)
  exact⟨.ref h'.objs.size,_,I2,rfl,q _ (I1.hok.fresh (b_ _))⟩
 obtain⟨its,r',pl,hz⟩:=I.tuple hq;exact V4 pl ⟨.ref p,H,I,rfl,q⟩
noncomputable def tyV(K:Qz)(T:String)(x:V)(H:Hp):Prop:=match x with
 | .str _=>T="str"
 | .int _=>T="int"
 | .ref p=>(T="list"/\∃xs,SqL K H p xs)\/(T="tuple"/\∃o,K.lookup p=some o/\o.cls=.type "tuple"/\o.dict=none)\/
   (T="dict"/\((∃kvs,H p=some (.dK kvs))\/∃kvs,H p=some (.dT kvs)))\/(T="set"/\∃S n,H p=some (.set S n))
 | _=>False
theorem CA{T:String}{x:V}{v:Qy}(I:Inv X pins σ H s)(r:RelV x v)(ty:tyV X.K T x H) :
  s.TypeIs v T/\∀a,v=.ref a->∃ob,s.heap.get? a=some ob/\ob.dict=none:=by
 cases x with
 |str z=>
  obtain⟨t,rfl⟩:=r;cases (show T="str" from ty);exact⟨typeIs_str s z t,fun _ e=>nomatch e⟩
 |int i=>
  obtain⟨t,rfl⟩:=r;cases (show T="int" from ty);exact⟨typeIs_int s i t,fun _ e=>nomatch e⟩
 |ref p=>
  cases r;rcases ty with⟨rfl,xs,hq⟩|⟨rfl,o,hk,hc,hd⟩|⟨rfl,hk⟩|⟨rfl,S,n,hk⟩
  ·obtain⟨its,_,pl,_⟩:=I.list hq;refine⟨pl.isList.typeIs,fun a e=>?_⟩;cases e;obtain⟨o,n,e,c,hd,_⟩:=pl;exact⟨o,e,hd⟩
  ·refine⟨⟨o,I.kIn p o hk,hc⟩,fun a e=>?_⟩;cases e;exact⟨o,I.kIn _ o hk,hd⟩
  ·have z:∃o,s.heap.get? p=some o/\o.ExactDict:=by
    rcases hk with⟨kvs,hk⟩|⟨kvs,hk⟩
    ·obtain⟨_,_,_,_,o,_,_,e,ex,_⟩:=I.hok p _ hk;exact⟨o,e,ex⟩
    obtain⟨_,_,_,_,o,_,_,e,ex,_⟩:=I.hok p _ hk;exact⟨o,e,ex⟩
   obtain⟨o,e,ex⟩:=z;refine⟨⟨o,e,ex.1⟩,fun a e2=>?_⟩;cases e2;exact⟨o,e,ex.2.1⟩
  ·obtain⟨o,_,_,_,e,ex,_⟩:=I.hok p _ hk;refine⟨⟨o,e,ex.1⟩,fun a e2=>?_⟩;cases e2;exact⟨o,e,ex.2.1⟩
 | _=>exact QU ty
noncomputable def LA(K:Qz)(T:String)(r:V->List V->Hp->VK->Prop)(to:TE):TE:=fun σ H Q=>to σ H fun x H1=>tyV K T x H1/\r x [] H1 Q
noncomputable def tBM(K:Qz)(T:String)(r:V->List V->Hp->VK->Prop)(to:TE)(t:TA):TE:=fun σ H Q=>to σ H fun x H1=>tyV K T x H1/\t σ H1 fun xs H2=>r x xs H2 Q
variable{o e:QQ}{es:List QQ}{to:TE}{t:TA}{name:Str}{apos cpos:Pos}{T id:String}{r:V->List V->Hp->VK->Prop}
theorem Hh(pa:PlainAttrs T)(slot:W6 T name id)(hty:W7 (.builtin id)=pure (.type "method_descriptor"))(hm:MtR X id r)(ho:PE X o to)
  (hbase:T9 o name X.env (Q9 o X.env)=Q9 o X.env:=by rfl) (hline:(apos.endLine == cpos.line)=true:=by rfl):PE X (.Call (.Attribute o name apos) [] [] cpos) (LA X.K T r to):=by
 intro pins s σ H Q I h;refine wpAny_Call_method0_late hbase hline (thn (ho pins s σ H _ I h) ?_);rintro v s1 ⟨x,H1,I1,r1,ty,q1⟩;obtain⟨h1,h2⟩:=CA I1 r1 ty;exact⟨T,id,pa,slot,hty,h1,h2,UM rfl (PySem.evalArgs_none (hm pins s1 σ H1 x [] v [] Q I1 r1 .nil q1))⟩
theorem Jf(pa:PlainAttrs T)(slot:W6 T name id)(hty:W7 (.builtin id)=pure (.type "method_descriptor"))(hm:MtR X id r)(ho:PE X o to)(ha:PA X (e::es) t)
  (hbase:T9 o name X.env (Q9 o X.env)=Q9 o X.env:=by rfl)
  (hfew:((SM cpos (QS (e::es) X.env)).all (fun x=>!x.1)&&(backToKw cpos (Xu [] X.env)).all (fun x=>x.1.isSome)
   && decide ((e::es).length+([]:List Wo).length+(if([]:List Wo).isEmpty then 0 else 1)<30))=true:=by rfl)
  (hline:(apos.endLine == cpos.line)=true:=by rfl) (hs:QS (e::es) X.env=(false,Q9 e X.env)::QS es X.env:=by rfl) (hplain:(SM cpos (QS es X.env)).any (·.1)=false:=by rfl) :
  PE X (.Call (.Attribute o name apos) (e::es) [] cpos) (tBM X.K T r to t):=by
 intro pins s σ H Q I h;refine wpAny_Call_method_late hbase hfew hline rfl (thn (ho pins s σ H _ I h) ?_);rintro v s1 ⟨x,H1,I1,r1,ty,q1⟩;obtain⟨h1,h2⟩:=CA I1 r1 ty;refine⟨T,id,pa,slot,hty,h1,h2,?_⟩;have hA:=ha cpos pins s1 σ H1 _ I1 q1;rw[hs]at hA ⊢;refine UM (by show(false || (SM cpos (QS es X.env)).any (·.1))=false;rw[hplain] <;> rfl) (Calls.evalArgs_plain ?_);exact thn hA fun us s2 ⟨vs,H2,I2,r2,q2⟩=>hm pins s2 σ H2 x vs v us Q I2 r1 r2 q2
end
noncomputable def MtM(X:Cx)(id:String)(r:V->List V->Hp->VK->Prop):Prop:=
 ∀(pins:List (QA×Obj)) (s:QB) (σ:St) (H:Hp) (x:V) (xs:List V) (v:Qy) (us:List Qy) (Q:VK),Inv X pins σ H s->RelV x v->Vals xs us->r x xs H Q->
  QG (QM X.prog X.w) X.A (call (.builtin id) (v::us)) (EP X pins σ Q) X.xe s
theorem Vals.one:∀{x:V}{us:List Qy},Vals [x] us->∃u,us=[u]/\RelV x u:=by
 intro x us h;cases h with
 |cons r t=>cases t;exact⟨_,rfl,r⟩
theorem Vals.zero:∀{us:List Qy},Vals [] us->us=[]
 | _,.nil=>rfl
theorem Vals.dropLast {xs:List V}(h:Vals xs us):Vals xs.dropLast us.dropLast:=by
 induction h with
 |nil=>exact .nil
 |cons r t ih=>
  cases t with
  |nil=>exact .nil
  |cons q t'=>exact .cons r ih
theorem xR(l:List α):l.eraseIdx (l.length-1)=l.dropLast:=by
 induction l with
 |nil=>rfl
 |cons a r ih=>
  cases r with
  |nil=>rfl
  |cons b r=>
   have e:(a::b::r).length-1=((b::r).length-1)+1:=by have h1:(a::b::r).length=r.length+2:=rfl;have h2:(b::r).length=r.length+1:=rfl;lia
   rw[e,List.eraseIdx_cons_succ,ih]
   all_goals rfl
variable {t':Nat}
section
variable{X:Cx}{pins:List (QA×Obj)}{σ:St}{H:Hp}{s:QB}{l b:QA}{xs ys zs:List V}
theorem Inv.Hc {f:Array Qy->Array Qy}(I:Inv X pins σ H s)(hH:H l=some (.lst xs))
  (e:s.heap.get? l=some { cls:=.type "list",data:=.seq its.toArray n}) (hf:f its.toArray=its'.toArray) (hv:Vals ys its') (hz:ys.length<=sizeLine) :
  Inv X pins σ (upd H l (.lst ys)) {s with heap:=s.heap.update l (Q0 f),toks:=t'}:=by
 have q:=X5 e f;rw[hf]at q;refine I.write (x:=l) (e:=l) (by rw[hH];exact trivial) (.inl rfl) (fun b' u hb hu=>(RN s.heap (Q0 f) (Sw hb)).trans hu) ⟨_,q⟩ ?_;exact⟨hz,its',_,hv,q⟩
theorem Inv.L3 (I:Inv X pins σ H s)(hv:Vals ys its)(hz:ys.length<=sizeLine) :
  Inv X pins σ (upd H s.heap.objs.size (.lst ys)) {s with heap:=s.heap.push { cls:=.type "list",data:=.seq its.toArray},toks:=t'}:=
 I.laid (fun _ _ q=>QD _ q) (b_ _) ⟨hz,its,0,hv,QH _ rfl⟩
theorem Inv.fresh (I:Inv X pins σ H s):H s.heap.objs.size=none:=I.hok.fresh (b_ _)
theorem Inv.F8 (I:Inv X pins σ H s)(hH:H l=some (.lst xs)):xs.length<=sizeLine/\∃(its:List Qy) (n:Nat),Vals xs its/\xs.length=its.length/\s.heap.get? l=some { cls:=.type "list",data:=.seq its.toArray n}:=by obtain⟨z,its,n,r,e⟩:=I.hok l _ hH;exact⟨z,its,n,r,r.length,e⟩
theorem C3(h:n<=sizeLine):S7 n=false:=by unfold S7;exact decide_eq_false (by lia)
end
section
variable{X:Cx}
noncomputable def EM:V->List V->Hp->VK->Prop:=fun x vs H Q=>∃l xs y,x=.ref l/\vs=[y]/\H l=some (.lst xs)/\xs.length<sizeLine/\Q .non (upd H l (.lst (xs++[y])))
theorem mM:MtM X "list.append" EM:=by intro pins s σ H x vs v us Q I rx rv h;obtain⟨l,xs,y,rfl,rfl,hH,hz,q⟩:=h;cases rx;obtain⟨u,rfl,ru⟩:=rv.one;obtain⟨z,its,n,r,hl,e⟩:=I.F8 hH;refine V5 F.slot_list_append ⟨_,e,rfl⟩ F.entry_list_append (F.args_list_append_2 _ _) (PySem.list_append l its.toArray n u (by rw[q_];lia)) ⟨e,?_⟩;refine⟨.non,_,I.Hc (its':=its++[u]) hH e (by simp) (r.append (.cons ru .nil)) ?_,rfl,q⟩;rw[d_,O7];lia
noncomputable def EC:V->List V->Hp->VK->Prop:=fun x vs H Q=>∃l b xs zs,x=.ref l/\vs=[.ref b]/\H l=some (.lst xs)/\H b=some (.lst zs)/\xs.length+zs.length<=sizeLine/\Q .non (upd H l (.lst (xs++zs)))
theorem AO:MtM X "list.extend" EC:=by
 intro pins s σ H x vs v us Q I rx rv h;obtain⟨l,b,xs,zs,rfl,rfl,hH,hB,hz,q⟩:=h;cases rx;obtain⟨u,rfl,ru⟩:=rv.one;cases ru;obtain⟨z,its,n,r,hl,e⟩:=I.F8 hH;obtain⟨z2,its2,n2,r2,hl2,e2⟩:=I.F8 hB;have hsz:its.toArray.size+its2.toArray.size<=sizeLine:=by rw[q_,q_];lia
 have hlong:¬(!its.toArray.isEmpty&&S7 (its.toArray.size+its2.toArray.size))=true:=by rw[C3 hsz,P_];exact Me
 refine V5 F.slot_list_extend ⟨_,e,rfl⟩ F.entry_list_extend (F.args_list_extend_2 _ _)
  (VL l its.toArray n b its2.toArray n2 hlong (by rw[q_];lia) (by lia)) ⟨e,e2,?_⟩
 refine⟨.non,_,I.Hc (its':=its++its2) hH e (by simp) (r.append r2) ?_,rfl,q⟩;rw[d_];omega
noncomputable def Lf:V->List V->Hp->VK->Prop:=fun x vs H Q=>∃l xs y,x=.ref l/\vs=[]/\H l=some (.lst xs)/\xs[xs.length-1]?=some y/\Q y (upd H l (.lst xs.dropLast))
theorem HB:MtM X "list.pop" Lf:=by
 intro pins s σ H x vs v us Q I rx rv h;obtain⟨l,xs,y,rfl,rfl,hH,hy,q⟩:=h;cases rx;have hus:=rv.zero;subst hus;obtain⟨z,its,n,r,hl,e⟩:=I.F8 hH;obtain⟨u,hu,ru⟩:=r.get hy;have hy':its.toArray[its.toArray.size-1]?=some u:=by show its.toArray[its.length-1]?=some u;rw[<-f',<-hl];exact hu
 refine V5 F.slot_list_pop ⟨_,e,rfl⟩ F.entry_list_pop (F.args_list_pop_1 _) (Xv l its.toArray n u hy' (by rw[q_];lia)) ⟨e,?_⟩;refine⟨y,_,I.Hc (its':=its.dropLast) hH e ?_ r.dropLast ?_,ru,q⟩
 ·show its.toArray.eraseIdxIfInBounds (its.toArray.size-1)=its.dropLast.toArray;rw[q_,List.eraseIdxIfInBounds_toArray,xR]
 rw[M9];lia
end
variable {o:Option V}{u:Qy}{y:V}
section
variable{κ:Type}[DecidableEq κ]
noncomputable def dQ(kvs:List (κ×V))(k:κ):Option V:=(kvs.find? fun kv=>decide (kv.1=k)).map (·.2)
noncomputable def putK(kvs:List (κ×V))(k:κ)(v:V):List (κ×V):=
 if(kvs.any fun kv=>decide (kv.1=k))=true then kvs.map (fun kv=>if kv.1=k then(kv.1,v)else kv)else kvs++[(k,v)]
theorem qP{p:κ×V}{r:List (κ×V)}{k:κ}(e:p.1=k):dQ (p::r) k=some p.2:=by simp[dQ,My,e]
theorem pY{p:κ×V}{r:List (κ×V)}{k:κ}(e:¬p.1=k):dQ (p::r) k=dQ r k:=by simp[dQ,My,e]
theorem kY(k:κ):∀kvs:List (κ×V),(kvs.any fun kv=>decide (kv.1=k))=(dQ kvs k).isSome
 | []=>rfl
 |p::r=>by
  rw[OD];by_cases e:p.1=k
  ·simp only[qP e,decide_eq_true e,Bool.true_or,Pn]
  rw[pY e,decide_eq_false e,Bool.false_or];exact kY k r
theorem gB(kvs:List (κ×V))(k:κ)(v:V):(putK kvs k v).length<=kvs.length+1:=by
 unfold putK;split
 ·rw[a_];lia
 rw[d_,h_,Mf];lia
theorem vH{kvs:List (κ×V)}{k:κ}(v:V)(h:dQ kvs k=none):putK kvs k v=kvs++[(k,v)]:=by unfold putK;rw[kY,h];exact if_neg (by decide)
theorem r6.Ap {u:Option Qy}(r:r6 o u):o.isSome=u.isSome:=by
 cases o with
 |none=>cases u with
  |none=>rfl
  |some _=>exact(show False from r).elim
 |some _=>cases u with
  |none=>exact(show False from r).elim
  |some _=>rfl
theorem KV.val {kvs:List (κ×V)}{vs:List (κ×Qy)}(r:KV kvs vs)(k:κ):r6 (dQ kvs k) (Uk vs k):=by
 unfold KV at r;induction r with
 |nil=>exact R4
 | @cons p q ps qs h t ih=>
  obtain⟨h1,h2⟩:=h;by_cases e:p.1=k
  ·have e':q.1=k:=h1.symm.trans e;have b:Uk (q::qs) k=some q.2:=by simp[Uk,My,e']
   rw[qP e,b];exact h2
  have e':¬q.1=k:=fun z=>e (h1.trans z);have b:Uk (q::qs) k=Uk qs k:=by simp[Uk,My,e']
  rw[pY e,b];exact ih
theorem KV.any {kvs:List (κ×V)}{vs:List (κ×Qy)}(r:KV kvs vs)(k:κ):(kvs.any fun kv=>decide (kv.1=k))=vs.any fun kv=>decide (kv.1=k):=by
 unfold KV at r;induction r with
 |nil=>rfl
 |cons h t ih=>rw[OD,OD,ih,h.1]
theorem KV.Hi {kvs:List (κ×V)}{vs:List (κ×Qy)}(r:KV kvs vs)(k:κ)(ry:RelV y u) :
  KV (kvs.map fun kv=>if kv.1=k then(kv.1,y)else kv) (vs.map fun kv=>if kv.1=k then(kv.1,u)else kv):=by
 unfold KV at r ⊢;induction r with
 |nil=>exact .nil
 | @cons p q ps qs h t ih=>
  rw[g_,g_];refine .cons ?_ ih;obtain⟨h1,h2⟩:=h;by_cases e:p.1=k
  ·rw[if_pos e,if_pos (h1.symm.trans e)];exact⟨h1,ry⟩
  rw[if_neg e,if_neg (fun z=>e (h1.trans z))];exact⟨h1,h2⟩
theorem KV.put {kvs:List (κ×V)}{vs:List (κ×Qy)}(r:KV kvs vs)(k:κ)(ry:RelV y u):KV (putK kvs k y) (stored vs k u):=by
 unfold putK stored;rw[r.any k];by_cases e:(vs.any fun kv=>decide (kv.1=k))=true
 ·rw[if_pos e,if_pos e];exact r.Hi k ry
 rw[if_neg e,if_neg e];exact Xw r ⟨rfl,ry⟩
theorem KV.length {kvs:List (κ×V)}{vs:List (κ×Qy)}(r:KV kvs vs):kvs.length=vs.length:=RX r
end
variable {P:QL}{w:QP}
theorem ye{k:Key}(r:RelV (kV k) u):(bo P w).is k u=true:=by
 rcases k with i | _|x
 ·obtain⟨t,e⟩:=(show ∃t,u=R5 i t from r);subst e;exact vw P w i t
 ·cases r;rfl
 obtain⟨t,e⟩:=(show ∃t,u=Vg x t from r);subst e;exact vV P w x t
theorem rV{P:QL}{w:QP}:∀{ks:List Key}{us:List Qy},Vals (ks.map kV) us->ItemsAre (bo P w) ks us
 | [],_,r=>by rw[Nb]at r;cases r;exact .nil
 |k::ks,_,r=>by
  rw[g_]at r;cases r with
  |cons h t=>exact .cons (ye h) (rV t)
abbrev KT(H:Hp):List (List Key×V)->List (List Key×QA×Qy)->Prop:=SQ fun p q=>p.1=q.1/\H q.2.1=some (.tup (p.1.map kV))/\RelV p.2 q.2.2
variable {kvs:List (List Key×V)}{xs:List (List Key×QA×Qy)}
theorem KT.val (r:KT H kvs xs)(k:List Key):r6 (dQ kvs k) ((UC xs k).map (·.2)):=by
 induction r with
 |nil=>exact R4
 | @cons p q ps qs h t ih=>
  obtain⟨h1,_,h2⟩:=h;by_cases e:p.1=k
  ·have e':q.1=k:=h1.symm.trans e;have b:UC (q::qs) k=some q.2:=by simp[UC,My,e']
   rw[qP e,b];exact h2
  have e':¬q.1=k:=fun z=>e (h1.trans z);have b:UC (q::qs) k=UC qs k:=by simp[UC,My,e']
  rw[pY e,b];exact ih
theorem KT.Hi (r:KT H kvs xs)(k:List Key)(ry:RelV y u) :
  KT H (kvs.map fun kv=>if kv.1=k then(kv.1,y)else kv) (xs.map (putAt k u)):=by
 induction r with
 |nil=>exact .nil
 | @cons p q ps qs h t ih=>
  rw[g_,g_];refine .cons ?_ ih;obtain⟨h1,h2,h3⟩:=h;unfold putAt;by_cases e:p.1=k
  ·rw[if_pos e,if_pos (h1.symm.trans e)];exact⟨h1,h2,ry⟩
  rw[if_neg e,if_neg (fun z=>e (h1.trans z))];exact⟨h1,h2,h3⟩
theorem KT.put (r:KT H kvs xs)(k:List Key){b:QA}(hb:H b=some (.tup (k.map kV)))(ry:RelV y u) :
  KT H (putK kvs k y) (storedH xs k b u):=by
 have e:(kvs.any fun kv=>decide (kv.1=k))=(UC xs k).isSome:=by rw[kY,(r.val k).Ap,Option.isSome_map]
 unfold putK storedH;rw[e];by_cases q:(UC xs k).isSome=true
 ·rw[if_pos q,if_pos q];exact r.Hi k ry
 rw[if_neg q,if_neg q];exact Xw r ⟨rfl,hb,ry⟩
variable {H':Hp}
theorem KT.keeps (r:KT H kvs xs)(ht:∀b ys,H b=some (.tup ys)->H' b=some (.tup ys)):KT H' kvs xs:=
 Paired.Jn r fun _ _ z=>⟨z.1,ht _ _ z.2.1,z.2.2⟩
section
variable{P:QL}{w:QP}{H:Hp}{h:QR}{a:QA}
theorem Gg{u:HO}(ok:HOk P w H h)(e:Rd H a u):bg P w H h a u:=e.ok ok
theorem zG{kvs:List (Key×V)}(ok:HOk P w H h)(e:Rd H a (.dK kvs)):kvs.length<=sizeLine/\(a == Rv)=false/\∃vs,KV kvs vs/\h.DictOf (bo P w) a vs:=
 show bg P w H h a (.dK kvs)from Gg ok e
theorem Gi{kvs:List (Key×V)}(ok:HOk P w H h)(e:H a=some (.dK kvs)):kvs.length<=sizeLine/\(a == Rv)=false/\∃vs,KV kvs vs/\h.DictOf (bo P w) a vs:=zG ok (.inl e)
theorem xP{ks:List Key}(ok:HOk P w H h)(e:H a=some (.tup (ks.map kV))):(S5 (bo P w)).is h ks a:=by obtain⟨_,its,r,o,h1,h2,n,h3⟩:=(show bg P w H h a (.tup (ks.map kV))from ok a _ e);exact⟨o,its.toArray,n,h1,h2,h3,by simpa using rV r⟩
theorem zS(ok:HOk P w H h)(e:Rd H a (.dT kvs)):kvs.length<=sizeLine/\(a == Rv)=false/\
  ∃xs,KT H kvs xs/\h.DictOfH (S5 (bo P w)) a xs:=by
 obtain⟨z,y,xs,r,o,es,ep,h1,h2,h3,h4,h5⟩:=(show bg P w H h a (.dT kvs)from Gg ok e);refine⟨z,y,xs,r,o,es,ep,h1,h2,h3,h4,fun x hx=>?_,h5⟩;have all:∀{l:List (List Key×V)}{m:List (List Key×QA×Qy)},KT H l m->∀x∈m,(S5 (bo P w)).is h x.1 x.2.1:=by
  intro l m q;induction q with
  |nil=>intro x hx;exact nomatch hx
  | @cons p q ps qs hq t ih=>
   intro x hx;rcases m_.mp hx with e|hx
   ·subst e;exact xP ok (by rw[<-hq.1];exact hq.2.1)
   exact ih x hx
 exact all r x hx
theorem KY(ok:HOk P w H h)(e:H a=some (.dT kvs)):kvs.length<=sizeLine/\(a == Rv)=false/\
  ∃xs,KT H kvs xs/\h.DictOfH (S5 (bo P w)) a xs:=zS ok (.inl e)
end
noncomputable def oO(H:Hp)(a:QA)(y:V)(r:Option V):Prop:=
 (∃kvs k,Rd H a (.dK kvs)/\y=kV k/\r=dQ kvs k)\/∃kvs k b,Rd H a (.dT kvs)/\y=.ref b/\H b=some (.tup (k.map kV))/\r=dQ kvs k
noncomputable def Ah(H:Hp)(a:QA)(y v:V)(H':Hp):Prop:=
 (∃kvs k,H a=some (.dK kvs)/\y=kV k/\kvs.length<sizeLine/\H'=upd H a (.dK (putK kvs k v)))\/
 ∃kvs k b,H a=some (.dT kvs)/\y=.ref b/\H b=some (.tup (k.map kV))/\kvs.length<sizeLine/\H'=upd H a (.dT (putK kvs k v))
theorem oO.k {H:Hp}{a:QA}{kvs:List (Key×V)}{k:Key}(e:H a=some (.dK kvs)):oO H a (kV k) (dQ kvs k):=.inl ⟨kvs,k,.inl e,rfl,rfl⟩
theorem Ah.k {H:Hp}{a:QA}{kvs:List (Key×V)}{k:Key}{v:V}(e:H a=some (.dK kvs))(hl:kvs.length<sizeLine):Ah H a (kV k) v (upd H a (.dK (putK kvs k v))):=.inl ⟨kvs,k,e,rfl,hl,rfl⟩
variable {Q:Qy->QB->Prop}
section
variable{X:Cx}{pins:List (QA×Obj)}{σ:St}{H:Hp}{s:QB}{a:QA}{y v:V}{u r:Qy}{o:Option V}{A:QY}{E:Qy->QB->Prop}
theorem Inv.big (I:Inv X pins σ H s):Rv<s.heap.objs.size:=by have h:Ru<s.heap.objs.size:=(I.mod.glob.keeps I.bk).lt;exact Oe (by decide) h
theorem rQ(hu:A.units+1<cLine)(I:Inv X pins σ H s)(g:oO H a y (some v))(ry:RelV y u)(h:∀w' s',Inv X pins σ H s'->RelV v w'->Q w' s') :
  QG (QM X.prog X.w) A (TR (.ref a) u) Q E s:=by
 rcases g with⟨kvs,k,e,ey,l⟩|⟨kvs,k,b,e,ey,eb,l⟩
 ·subst ey;obtain⟨z,hd,vs,rel,dd⟩:=zG I.hok e;obtain⟨w',hw,rw'⟩:=r6.some_of (v:=v) (o:=Uk vs k) (by rw[l];exact rel.val k);exact wpAny_getItem_of (ye ry) dd.mapOf hw (h w' _ (I.tok _) rw')
 subst ey;cases (show u=Rc b from ry);obtain⟨z,hd,xs,rel,dd⟩:=zS I.hok e;obtain⟨w',hw,rw'⟩:=r6.some_of (v:=v) (o:=(UC xs k).map (·.2)) (by rw[l];exact rel.val k);obtain⟨p,hp,hp2⟩:=N5.mp hw;refine wpAny_getItem_heap (Vp hu) (xP I.hok eb) dd hp ?_;rw[hp2];exact h w' _ (I.tok _) rw'
theorem p9{h':QR}{ob:HO}(I:Inv X pins σ H s)(mu:Mut (H a))(hs:Rt a s.heap h')(he:∃q,h'.get? a=some q)(new:bg X.prog X.w (upd H a ob) h' a ob) :
  Inv X pins σ (upd H a ob) {s with heap:=h',toks:=t'}:=
 I.write (x:=a) (e:=a) mu (.inl rfl) (fun b q hb z=>(hs.2 b hb).trans z) he new
theorem Ce{h':QR}{kvs:List (Key×V)}{vs:List (Key×Qy)}(z:kvs.length<=sizeLine)(hd:(a == Rv)=false)(rel:KV kvs vs)(dd:h'.DictOf (bo P w) a vs) :
  bg P w H' h' a (.dK kvs):=⟨z,hd,vs,rel,dd⟩
theorem nK{Q:Unit->QB->Prop}(hu:A.units+1<cLine)(I:Inv X pins σ H s)(g:Ah H a y v H')(ry:RelV y u)(rv:RelV v r)(h:∀s',Inv X pins σ H' s'->Q () s') :
  QG (QM X.prog X.w) A (Wk (.ref a) u r) Q E s:=by
 rcases g with⟨kvs,k,e,ey,l,eH⟩|⟨kvs,k,b,e,ey,eb,l,eH⟩
 ·subst ey eH;obtain⟨z,hd,vs,rel,dd⟩:=Gi I.hok e;have hz:vs.length<=sizeLine:=by rw[<-rel.length];exact z
  have hl:(putK kvs k v).length<=sizeLine:=by have:=gB kvs k v;lia
  refine wpAny_setItem_pairs (hsz:=hz) (ye ry) dd fun h' dd' hs=>h _ ?_;have he:∃q,h'.get? a=some q:=let ⟨q,_,_,hq,_⟩:=dd';⟨q,hq⟩
  exact p9 I (by rw[e];exact R4) hs he (Ce hl hd (rel.put k rv) dd')
 subst ey eH;cases (show u=Rc b from ry);obtain⟨z,hd,xs,rel,dd⟩:=KY I.hok e;have hz:xs.length<=sizeLine:=by rw[<-RX rel];exact z
 have hl:(putK kvs k v).length<=sizeLine:=by have:=gB kvs k v;lia
 refine wpAny_setItem_heap (hsz:=hz) (Vp hu) (xP I.hok eb) dd fun h' dd' hs=>h _ ?_;obtain⟨q,es,ep,hq,h2,h3,h4,_,h5⟩:=dd';refine p9 I (by rw[e];exact R4) hs ⟨q,hq⟩ ⟨hl,hd,_,(rel.put k eb rv).keeps fun c ys ec=>?_,q,es,ep,hq,h2,h3,h4,h5⟩;rw[aP (Cf ec e (fun z=>nomatch z))];exact ec
end
section
variable{X:Cx}{pins:List (QA×Obj)}{σ:St}{H:Hp}{s:QB}{a:QA}{kvs:List (Key×V)}{k:Key}{u:Qy}{A:QY}{E:Qy->QB->Prop}
theorem Jp(I:Inv X pins σ H s)(e:Rd H a (.dK kvs))(h:∀t s',Inv X pins σ H s'->Q (.int kvs.length t) s'):QG (QM X.prog X.w) A (call (.builtin "len") [.ref a]) Q E s:=by obtain⟨z,hd,vs,rel,dd⟩:=zG I.hok e;refine call_len_dict hd dd (by rw[<-rel.length];rw[sizeLine_eq]at z;lia) ?_;rw[<-rel.length];exact h _ _ (I.tok _)
end
noncomputable def K9(i:QQ):Prop:=∀ov iv,T3 i false ov iv=XB [ov,iv] (TR ov iv)
variable {pos:Pos}
theorem Er{prog:QL}{A:QY}{E:Qy->QB->Prop}{env:Env}{value slice:QQ}{T id:String}
  (hl:typeLookup (.type T) "__getitem__"=pure (some (.builtin id))) (hs:K9 slice)
  (h:QG (QM prog w) A (Q9 value env) (fun o s₁=>QG (QM prog w) A (Q9 slice env) (fun i s₂=>s₂.TypeIs o T/\QG (QM prog w) A (TR o i) Q E s₂) E s₁) E s) :
  QG (QM prog w) A (Q9 (.Subscript value slice pos) env) Q E s:=by
 refine V3 (Q7 h (fun o s₁ h₁=>Q7 h₁ (fun i s₂ h₂=>?_) fun _ _ x=>x) fun _ _ x=>x);obtain⟨hT,h₂⟩:=h₂;unfold Tp;refine Qx ?_;rw[US hT.not_modules];refine Qx (UD hT hl ?_);have fin:QG (QM prog w) A (T3 slice false o i) (fun r s₃=>QG (QM prog w) A (Wq value o r >>= fun _=>pure r) Q E s₃) E s₂:=by rw[hs o i];exact V6 (Q7 h₂ (fun r s₃ h₃=>Qx (U6 (QC h₃))) fun _ _ x=>x)
 first
  |exact QC (Qx fin)
  |exact Qx (QC (Qx fin))
  |exact Qx fin
variable {X:Cx}
theorem oq{a:QA}(I:Inv X pins σ H s)(g:oO H a y o):s.TypeIs (.ref a) "dict":=by
 rcases g with⟨kvs,k,e,_,_⟩|⟨kvs,k,b,e,_,_,_⟩
 ·obtain⟨_,_,vs,_,dd⟩:=zG I.hok e;exact dd.typeIs
 obtain⟨_,_,xs,_,dd⟩:=zS I.hok e;exact dd.typeIs
noncomputable def JO(td ty:TE):TE:=fun σ H Q=>td σ H fun x H1=>ty σ H1 fun y H2=>∃a v,x=.ref a/\oO H2 a y (some v)/\Q v H2
noncomputable def JG(td ty tv:TE):TS:=fun D σ H=>tv σ H fun v H1=>td σ H1 fun x H2=>ty σ H2 fun y H3=>∃a H4,x=.ref a/\Ah H3 a y v H4/\D.nx σ H4
section
variable{X:Cx}{o i e value:QQ}{pos pos' tpos:Pos}{td ty tv:TE}
theorem oS(hu:X.A.units+1<cLine)(ho:PE X o td)(hi:PE X i ty)(hs:K9 i):PE X (.Subscript o i pos) (JO td ty):=by intro pins s σ H Q I h;refine Er Ug.lookup hs (thn (ho pins s σ H _ I h) fun u s1 ⟨x,H1,I1,rx,q1⟩=>thn (hi pins s1 σ H1 _ I1 q1) ?_);rintro iv s2 ⟨y,H2,I2,ry,a,v,ex,g,q2⟩;subst ex;obtain rfl:u=Rc a:=rx;exact⟨oq I2 g,rQ hu I2 g ry fun w' s3 I3 rw'=>⟨v,H2,I3,rw',q2⟩⟩
theorem Eh(hu:X.A.units+1<cLine)(ho:PE X o td)(hi:PE X i ty)(hv:PE X value tv)(hs:Tt value (some (.Subscript o i pos')) pos.line X.env=pure false) :
  PS X (.Assign [.Subscript o i pos'] value pos) (JG td ty tv):=by
 intro pins s σ H D I h;refine wpAny_Assign_Subscript (thn (hv pins s σ H _ I h) ?_) hs;rintro r s1 ⟨v,H1,I1,rv,q1⟩;refine thn (ho pins s1 σ H1 _ I1 q1) ?_;rintro u s2 ⟨x,H2,I2,rx,q2⟩;refine thn (hi pins s2 σ H2 _ I2 q2) ?_;rintro iv s3 ⟨y,H3,I3,ry,a,H4,ex,g,q3⟩;subst ex;obtain rfl:u=Rc a:=rx;exact nK hu I3 g ry rv fun s4 I4=>⟨σ,H4,I4,q3⟩
end
theorem Bo(h:QR)(hb:Rv<h.objs.size):bg P w H (h.push { cls:=.type "dict",data:=.dict #[] }) h.objs.size (.dK []):=
 ⟨D' _,beq_eq_false_iff_ne.mpr (Sw (v_ hb)),[],.nil,X' h⟩
theorem DL(h:QR)(hb:Rv<h.objs.size):bg P w H (h.push { cls:=.type "dict",data:=.dict #[] }) h.objs.size (.dT []):=
 ⟨D' _,beq_eq_false_iff_ne.mpr (Sw (v_ hb)),[],.nil,_,#[],0,QH _ rfl,⟨rfl,rfl,rfl⟩,rfl,rfl,MY⟩
noncomputable def GX:TE:=fun _ H Q=>∀p,H p=none->Q (.ref p) (upd H p (.dT []))
section
variable{X:Cx}{pos:Pos}
theorem C7:PE X (.Dict [] [] pos) GX:=fun pins s σ H Q I h=>
 wpAny_Dict_empty ⟨.ref s.heap.objs.size,_,I.laid (a:=s.heap.objs.size) (o:=.dT []) (t':=s.toks) (fun _ _ q=>QD _ q) (b_ _) (DL s.heap I.big),rfl,h _ (I.hok.fresh (b_ _))⟩
end
noncomputable def xo:List (TE×TE)->St->Hp->(List (V×V)->Hp->Prop)->Prop
 | [],_,H,Q=>Q [] H
 | (tk,tv)::r,σ,H,Q=>tk σ H fun x H1=>tv σ H1 fun y H2=>xo r σ H2 fun ps H3=>Q ((x,y)::ps) H3
abbrev VV:List (V×V)->List (Qy×Qy)->Prop:=SQ fun p q=>RelV p.1 q.1/\RelV p.2 q.2
noncomputable def PPs(X:Cx)(pos:Pos)(keys:List (Option QQ))(values:List QQ)(trs:List (TE×TE)):Prop:=
 ∀(pins:List (QA×Obj)) (s:QB) (σ:St) (H:Hp) (Q:List (V×V)->Hp->Prop),Inv X pins σ H s->xo trs σ H Q->
  QG (QM X.prog X.w) X.A (evalPairs (pairTrees keys values X.env pos)) (fun vs s'=>∃ps H',Inv X pins σ H' s'/\VV ps vs/\Q ps H') X.xe s
theorem Fu:PPs X pos [] [] []:=fun pins s σ H Q I h=>pairTrees_nil_walk ⟨[],H,I,.nil,h⟩
variable {trs:List (TE×TE)}
theorem wL{k v:QQ}{ks:List (Option QQ)}{vs:List QQ}{tk tv:TE}(hk:PE X k tk)(hv:PE X v tv)(hr:PPs X pos ks vs trs) :
  PPs X pos (some k::ks) (v::vs) ((tk,tv)::trs):=fun pins s σ H Q I h=>
 pairTrees_cons_walk (thn (hk pins s σ H _ I h) fun u s1 ⟨x,H1,I1,rx,q1⟩=>thn (hv pins s1 σ H1 _ I1 q1) fun w2 s2 ⟨y,H2,I2,ry,q2⟩=>
  thn (hr pins s2 σ H2 _ I2 q2) fun ws s3 ⟨ps,H3,I3,rel,q3⟩=>⟨(x,y)::ps,H3,I3,.cons ⟨rx,ry⟩ rel,q3⟩)
noncomputable def gM(kvs more:List (Key×V)):List (Key×V):=more.foldl (fun acc kv=>putK acc kv.1 kv.2) kvs
theorem KV.merge:∀{more:List (Key×V)}{rs:List (Key×Qy)}{kvs:List (Key×V)}{vs:List (Key×Qy)},KV more rs->KV kvs vs->KV (gM kvs more) (merged vs rs):=by
 intro more rs kvs vs r;unfold KV at r;induction r generalizing kvs vs with
 |nil=>intro q;exact q
 | @cons p q ps qs h t ih=>
  intro r0;have e:KV (putK kvs p.1 p.2) (stored vs q.1 q.2):=by have:=r0.put p.1 h.2;rw[<-h.1];exact this
  exact ih e
theorem jL:∀(more kvs:List (Key×V)),(gM kvs more).length<=kvs.length+more.length
 | [],kvs=>by show kvs.length<=kvs.length+0;lia
 |p::r,kvs=>by have h1:=jL r (putK kvs p.1 p.2);have h2:=gB kvs p.1 p.2;show(gM (putK kvs p.1 p.2) r).length<=_;rw[h_];lia
theorem qv{P:QL}{w:QP}:∀{kvs:List (Key×V)}{ws:List (Qy×Qy)},VV (kvs.map fun kv=>(kV kv.1,kv.2)) ws->∃rs,Carries (bo P w) ws rs/\KV kvs rs
 | [],_,r=>by rw[Nb]at r;cases r;exact⟨[],R4,.nil⟩
 |p::kvs,_,r=>by
  rw[g_]at r;cases r with
  | @cons a b as bs h t=>
   obtain⟨rs,c,q⟩:=qv (P:=P) (w:=w) t;obtain⟨b1,b2⟩:=b;exact⟨(p.1,b2)::rs,⟨ye h.1,rfl,c⟩,.cons ⟨rfl,h.2⟩ q⟩
noncomputable def Kx(trs:List (TE×TE)):TE:=fun σ H Q=>∀p,H p=none->xo trs σ (upd H p (.dK [])) fun ps H2=>H2 p=some (.dK [])/\∃kvs:List (Key×V),ps=kvs.map (fun kv=>(kV kv.1,kv.2))/\kvs.length<=15/\Q (.ref p) (upd H2 p (.dK (gM [] kvs)))
theorem Ek{keys:List (Option QQ)}{values:List QQ}(h:PPs X pos keys values trs)(hall:keys.all (·.isSome)=true)(hl:keys.length=values.length)(h0:keys≠[])
  (h15:keys.length<=15):PE X (.Dict keys values pos) (Kx trs):=by
 intro pins s σ H Q I q;have hn:=I.hok.fresh (b_ s.heap.objs.size);have I1:=I.laid (a:=s.heap.objs.size) (o:=.dK []) (h':=s.heap.push { cls:=.type "dict",data:=.dict #[] }) (t':=s.toks) (fun _ _ q=>QD _ q) (b_ _) (Bo s.heap I.big);refine wpAny_Dict_walk (knd:=bo X.prog X.w) hall hl h0 h15 (thn (h pins _ σ _ _ I1 (q _ hn)) ?_);rintro ws s2 ⟨ps,H2,I2,rel,e,kvs,ep,lk,q2⟩;subst ep;obtain⟨rs,c,rk⟩:=qv (P:=X.prog) (w:=X.w) rel;obtain⟨z,hd,vs0,r0,dd⟩:=Gi I2.hok e;cases r0;refine⟨rs,c,dd,fun h' dd' hs=>⟨.ref s.heap.objs.size,_,?_,rfl,q2⟩⟩;have hz:(gM [] kvs).length<=sizeLine:=by have h1:=jL kvs [];rw[Mf]at h1;rw[sizeLine_eq];lia
 have he:∃q,h'.get? s.heap.objs.size=some q:=let ⟨q,_,_,hq,_⟩:=dd';⟨q,hq⟩
 exact p9 I2 (by rw[e];exact R4) hs he (Ce hz hd (rk.merge .nil) dd')
end L2
namespace Att
open PySem PySem.W PySem.Calls PyProof.Rows
theorem oK{P:Ur}{h:QR}:∀(ns:List Int) (vs:List Qy),WellAll P h vs (ns.map WData.int)->RL vs ns:=by
 intro ns;induction ns with
 |nil=>
  intro vs w;rw[Nb]at w;cases w;exact .nil
 |cons n ns ih=>
  intro vs w;rw[g_]at w;cases w with
  |cons a b=>
   cases a;exact .cons _ _ (ih _ b)
theorem Ad{l:OpenLaw}{n:Nat}(hn:l.most=some n){P:Ur}{h:QR}{args:List WData}{vals:List Qy}
  (hpre:l.row.toRowW.claim.pre args=true) (hwl:WellAll P h vals args) :
  ∃a vs ns,vals=[Rc a]/\args=[WData.list (ns.map WData.int)]/\h.get? a=some { cls:=.type "list",data:=.seq vs.toArray}/\RL vs ns/\ns.length<=n:=by
 have hsh:WShape.hasAll [] args [.list .int]=true:=(pre_splitW hpre).1;have hc:l.pre.holds [] { args:=args}=true:=(pre_splitW hpre).2;obtain⟨d,r,rfl,h1,h2⟩:=hasAllW_cons hsh;obtain rfl:=hasAllW_nil h2;obtain⟨xs,rfl,h3⟩:=hasW_list h1;obtain⟨ns,rfl⟩:=items_int h3;have hlen:ns.length<=n:=by
  unfold OpenLaw.pre at hc;have h4:(WTm.not (.lt (.lit (.int (n:Int))) (.len (.arg 0)))).holds [] { args:=[.list (ns.map .int)] }=true:=by have h4:=(holds_andW hc).1;rw[hn]at h4;exact h4
  have h5:=condW_of h4 (w_not (w_lt w_lit (w_len_list (w_arg rfl))));rw[a_]at h5;refine LX fun q=>?_;have q':(n:Int)<((ns.length:Nat):Int):=by lia
  first
   | (rw[decide_eq_true q']at h5;exact absurd h5 (by decide))
   | (simp at h5;omega)
 cases hwl with
 |cons w1 w2=>
  cases w2;cases w1 with
  |list ho hall=>exact⟨_,_,ns,rfl,rfl,ho,oK ns _ hall,hlen⟩
theorem A5(l:OpenLaw)(args:List WData):l.row.toRowW.claim.post args (.bool true) args=true:=
 postW_of (r:=l.row.toRowW) (X:=(true == true))
  (show WShape.has [] (.bool true) .bool=true by first|rfl|decide|simp[WShape.has,WShape.arms,WShape.armsAll])
  (show(WTm.eq .res (.lit (.bool true))).value [] { args:=args,res:=some (.bool true),after:=args}=some (.bool (true == true))from w_eq_bool (w_res rfl) w_lit) rfl
theorem wU{l:OpenLaw}{n:Nat}{q:QL}{loose:List Str}{XP:(Str->Option Qy)->QR->Prop}{YP:QP->QR->Prop}{d:DefRec}
  (hn:l.most=some n) (hdf:d.params.defaults=[])
  (call:∀(w:QP) (s₀ s₁:QB) (mg mb:Str->Option Qy) (fa:QA) (o:Obj) (pm cd doc:Qy) (a:QA) (vs:List Qy) (ns:List Int),
   Ground q loose [] XP w s₀ mg mb s₁.heap->YP w s₁.heap->
   s₁.heap.get? fa=some o->o.data=.func (docDef d.name d.params d.body d.scope pm cd doc)->s₁.heap.CodeRec cd d.name->mg d.name=some (.ref fa)->
   s₁.heap.get? a=some { cls:=.type "list",data:=.seq vs.toArray}->RL vs ns->ns.length<=n->s₁.gens=#[]->
   Sx (QM l.prog w) Ul (.call (.ref fa) ⟨[.ref a],[]⟩) (fun r s'=>r=.ok (.ret (.bool true))/\OldK s₁.heap s'.heap/\s'.os=s₁.os/\Ts s'.gens) s₁) :
  WalkO q loose XP YP l.row.toRowW d [] (fun f vs=>V7 f vs):=by
 intro w s₀ s₁ mg mb G Y fa o pm cd doc dV kV ho hd hcd hD hmg hg args vals as hpre hlay hrd hwl hlo;obtain rfl:dV=.none:=Dflts.none hD hdf;obtain rfl:kV=.none:=Dflts.noKw hD;obtain⟨a,vs,ns,rfl,rfl,hobj,hints,hlen⟩:=Ad hn hpre hwl;refine enter_call (Sl (call w s₀ s₁ mg mb fa o pm cd doc a vs ns G Y ho (fd_plain hd) hcd hmg hobj hints hlen hg) fun r s' hq=>?_);obtain⟨rfl,h2,h3,h4⟩:=hq;exact⟨.inl ⟨.bool true,.bool true,[],rfl,fun _=>rfl,.bool true,A5 l _,fun _=>⟨N1,fun _ hm=>(nomatch hm)⟩⟩,h2,h3,h4⟩
section
variable{prog:QL}{w:QP}{A:QY}{E:Qy->QB->Prop}{s:QB}{K:Frag}
noncomputable def ledger(h:QR)(L d:QA):List (QA×Obj):=(A_ h.objs.size).filterMap fun a=>if a=L\/a=d then none else(h.get? a).map fun o=>(a,o)
end
end Att
namespace L2
open PySem PySem.Spec PyProof.Rows
theorem sJ:∀{vs:List Qy}{ns:List Int},RL vs ns->Vals (ns.map V.int) vs
 | _,_,.nil=>.nil
 | _,_,.cons n t h=>.cons ⟨t,rfl⟩ (sJ h)
noncomputable def HX(H:Hp):Prop:=∀b,H b=none\/∃o xs,H b=some (.frz o (.lst xs))
variable {fd:QW}{x:Str}
theorem Df{P:QL}{w:QP}{K:Qz}{mg mb:Str->Option Qy}{CX:CXT}{k:Nat}{fa a:QA}{sp:Sp}{s₁:QB}{vs:List Qy}{ns:List Int}
  (KX:K.In s₁.heap) (hns:s₁.heap.Ns Ru mg) (hb:s₁.heap.Ns U2 mb) (hbb:∀x:Str,x≠"__name__"->mb x=R6 x) (hlim:s₁.heap.NoLimit) (hg:s₁.gens=#[])
  (ha:s₁.heap.get? a=some { cls:=.type "list",data:=.seq vs.toArray}) (hi:RL vs ns) (hl:ns.length<=sizeLine) (hr:Room k Ul)
  (F:∀base:QR,K.In base->base.Ns Ru mg->FnOk P w K mg base CX k fa fd [x] sp) (hbind:∀(s:QB) (u:Qy),UR s fd ⟨[u],[]⟩ [(x,u)])
  (hsp:∀H:Hp,HX H->SqL K H a (ns.map V.int)->sp [.ref a] H (fun v _=>v=.bl true) fun _ _ _=>False)
  (hCX:∀H e s',CX [] H s₁ (fun _ _ _=>False) e s'->False) :
  Sx (QM P w) Ul (.call (.ref fa) ⟨[.ref a],[]⟩) (fun r s'=>r=.ok (.ret (.bool true))/\OldK s₁.heap s'.heap/\s'.os=s₁.os/\Ts s'.gens) s₁:=by
 have rv:=sJ hi;have lenV:=hi.length;have core:∀H:Hp,HX H->SqL K H a (ns.map V.int)->HOk P w H s₁.heap->(∀b,H b≠none->b=a)->(H a≠none->K.lookup a=none)->
   Sx (QM P w) Ul (.call (.ref fa) ⟨[.ref a],[]⟩) (fun r s'=>r=.ok (.ret (.bool true))/\OldK s₁.heap s'.heap/\s'.os=s₁.os/\Ts s'.gens) s₁:=by
  intro H hO hS hok hA hK;have base_of:∀{b:QA}{o:Obj},s₁.heap.get? b=some o->H b=none->(tE s₁.heap H).get? b=some o:=fun e n=>D9 e n;have noA:∀{b:QA}{o:Obj}{es:Array SD}{ep:Nat},s₁.heap.get? b=some o->o.data=.dict es ep->H b=none:=fun{b o es ep} e d=>by
   cases q:H b with
   |none=>rfl
   |some u=>
    have e':b=a:=hA b (by rw[q];simp);subst e';rw[ha]at e;cases e;have d':W8 vs.toArray _=Data.dict es ep:=d;cases d'
  have nsK:∀{b:QA}{m:Str->Option Qy},s₁.heap.Ns b m->(tE s₁.heap H).Ns b m:=fun{b m} ⟨o,es,ep,e,d,r⟩=>⟨o,es,ep,base_of e (noA e d),d,r⟩;have hKb:K.In (tE s₁.heap H):=fun b o e=>base_of (KX b o e) (by
   cases q:H b with
   |none=>rfl
   |some u=>
    have e':b=a:=hA b (by rw[q];simp);subst e';rw[hK (by rw[q];simp)]at e;cases e)
  have hM:Mod K mg (tE s₁.heap H):=⟨hKb,nsK hns,⟨mb,nsK hb,hbb⟩,let ⟨mc,h1,h2⟩:=hlim;⟨mc,nsK h1,h2⟩⟩;have e0:Env0 P w K mg (tE s₁.heap H) Ul [] s₁ H:=⟨rfl,hM,fun b o e=>Fs e,NS (AI _ _),trivial,fun b hb=>absurd (show b∈([]:List QA)from hb) (by simp),hok,.of_eq hg⟩;refine Sl ((F _ hKb (nsK hns)).run Ul [] s₁ H ⟨[.ref a],[]⟩ [.ref a] [.ref a] _ _ hr e0 (hbind s₁ (.ref a)) (.cons rfl .nil) (hsp H hO hS)) fun r s' h=>?_;cases r with
  |error e=>exact(hCX H e s' h).elim
  |ok fl=>
   cases fl with
   |next=>exact QU h
   |brk=>exact QU h
   |cont=>exact QU h
   |ret u=>
    obtain⟨v,H',os,bare,un,hok',r',q⟩:=h;have q':v=.bl true:=q;subst q';obtain rfl:u=VY true:=r';refine⟨rfl,OldK.of_keep fun b o e=>?_,os,bare⟩;cases q:H b with
    |none=>exact un.keep b o e q (by intro z;exact absurd (show b∈([]:List QA)from z) (by simp)) (by simp)
    |some u=>
     rcases hO b with z|⟨ob,xs,z⟩
     ·rw[q]at z;cases z
     have z2:=un.frzs b ob _ z;obtain⟨e1,_⟩:=hok b _ z;obtain⟨e2,_⟩:=hok' b _ z2;rw[e]at e1;cases e1;exact e2
 cases hk:K.lookup a with
 |some o=>
  have e:=KX a o hk;rw[ha]at e;cases e;refine core (fun _=>none) (fun _=>.inl rfl) (.inr ⟨_,vs.toArray,_,hk,rfl,rfl,rfl,by rw[q_,lenV];exact hl,by simpa using rv⟩) (fun b u z=>by have z':(none:Option HO)=some u:=z;cases z') (fun b z=>absurd rfl z) fun z=>absurd rfl z
 |none=>
  refine core (fun b=>if b=a then some (.frz { cls:=.type "list",data:=.seq vs.toArray} (.lst (ns.map V.int)))else none) (fun b=>?_) (.inl (.inr ⟨{ cls:=.type "list",data:=.seq vs.toArray},if_pos rfl⟩)) (fun b u z=>?_) (fun b z=>?_) fun _=>hk
  ·by_cases hb:b=a
   ·exact .inr ⟨_,_,if_pos hb⟩
   exact .inl (if_neg hb)
  ·by_cases hb:b=a
   ·have z':=(if_pos hb).symm.trans z;cases z';subst hb;exact⟨ha,by rw[a_];exact hl,vs,_,rv,ha⟩
   have z':=(if_neg hb).symm.trans z;cases z'
  by_cases hb:b=a
  ·exact hb
  exact absurd (if_neg hb) z
theorem Ep{l:UE}{n k:Nat}{q:QL}{loose:List Str}{XP:(Str->Option Qy)->QR->Prop}{YP:QP->QR->Prop}{d:DefRec}{K:Ur->Qz}{CX:QP->CXT}{sp:QP->Sp}
  (hn:l.most=some n) (hn2:n<=sizeLine) (hdf:d.params.defaults=[]) (hr:Room k Ul)
  (hY:∀(w:QP) (h:QR),YP w h->(K w.params).In h)
  (F:∀(w:QP) (mg:Str->Option Qy) (fa:QA) (h:QR),(K w.params).In h->h.Ns Ru mg->mg d.name=some (.ref fa)->
   ∃fd:QW,(∀(s:QB) (u:Qy),UR s fd ⟨[u],[]⟩ [(x,u)])/\
    ∀base:QR,(K w.params).In base->base.Ns Ru mg->FnOk l.prog w (K w.params) mg base (CX w) k fa fd [x] (sp w))
  (hsp:∀(w:QP) (H:Hp) (a:QA) (ns:List Int),ns.length<=n->HX H->SqL (K w.params) H a (ns.map V.int)->sp w [.ref a] H (fun v _=>v=.bl true) fun _ _ _=>False)
  (hCX:∀(w:QP) (H:Hp) (s:QB) (e:Qy) (s':QB),CX w [] H s (fun _ _ _=>False) e s'->False) :
  WN q loose XP YP l.row.toRowW d [] (fun f vs=>V7 f vs):=by
 refine Att.wU hn hdf fun w s₀ s₁ mg mb fa o pm cd doc a vs ns G Y ho hd hcd hmg hobj hints hlen hg=>?_;have KX:=hY w _ Y;obtain⟨fd,hb,hF⟩:=F w mg fa _ KX G.T.g hmg;exact Df KX G.T.g G.T.b G.T.builtins G.T.nolimit hg hobj hints (t_ hlen hn2) hr hF hb (fun H hO hS=>hsp w H a ns hlen hO hS) fun H e s'=>hCX w H s₁ e s'
noncomputable def eB(s:Q6):Arguments:=match s with
 | .FunctionDef _ a _ _ _ _ _ _ _ _=>a
 | _=>{ posonlyargs:=[],args:=[],vararg:=none,kwonlyargs:=[],kw_defaults:=[],kwarg:=none,defaults:=[] }
noncomputable def cO(s:Q6):List Q6:=match s with
 | .FunctionDef _ _ b _ _ _ _ _ _ _=>b
 | _=>[]
noncomputable def ax(s:Q6):RC:=match s with
 | .FunctionDef _ _ _ _ _ _ sc _ _ _=>sc
 | _=>{ kind:=.function,names:=[],isGenerator:=false,isCoroutine:=false}
abbrev CX0:CXT:=fun _ _ _ _ _ _=>False
abbrev E0:XK:=fun _ _ _=>False
theorem JN{X:Cx}:Passes CX0 X E0:=fun _ _ _ _ _ _ _ h=>h.elim
structure Fun (K:Qz) (x qual:Str) (st:Q6) (f:QA) (fd:QW):Prop where
 ex:∃(oc:Qy) (od:Option QA) (kV doc pm:Qy) (an:Option QA) (cdv ct:Qy) (osl:Array (Option Qy)),
  fd=R8 x qual (eB st) (cO st) (ax st) .none kV doc pm an cdv ct/\K.lookup f=some ⟨oc,od,.func fd,osl⟩/\TQ K cdv qual=true
 kp:Ta K (.ref f)=true
variable {f:QA}{ps:List Str}{qual:Str}{st:Q6}
section
variable{P:QL}{w:QP}{K:Qz}{mg:Str->Option Qy}{base:QR}
theorem Fun.ok {N:List Str}{k:Nat}{sp:Sp}(F:Fun K x qual st f fd)(S:FnScope N ps (ax st))(len:∀vs H Q E,sp vs H Q E->vs.length=ps.length)
  (hbody:∀(cdv:Qy) (A:QY) (outer:List Env) (s:QB) (H:Hp) (vs:List V) (Q:VK) (E:XK),Room k (A.deeper (TB qual (ax st) s.heap.objs.size f cdv))->sp vs H Q E->
   ∃t,PSs (x5 CX0 P w K mg base N qual (ax st) f cdv A outer s H E).nox (cO st) t/\t { nx:=fun _ H'=>Q .non H',rt:=Q} (start N vs) H):FnOk P w K mg base CX0 (k+1) f fd ps sp:=by
 obtain⟨oc,od,kV,doc,pm,an,cdv,ct,osl,rfl,lk,hcd⟩:=F.ex;refine JU lk hcd S len fun A outer s H vs Q E hr hsp=>?_;obtain⟨t,h,q⟩:=hbody cdv A outer s H vs Q E hr hsp;exact⟨t,h.nox,q⟩
theorem Fun.binds (F:Fun K x qual st f fd)
  (h:∀(kV doc pm:Qy) (an:Option QA) (cdv ct:Qy) (us:List Qy),us.length=ps.length->W5 (R8 x qual (eB st) (cO st) (ax st) .none kV doc pm an cdv ct) ⟨us,[]⟩=pure (ps.zip us)):Binds K fd ps []:=by
 obtain⟨oc,od,kV,doc,pm,an,cdv,ct,osl,rfl,lk,hcd⟩:=F.ex;exact .all (h kV doc pm an cdv ct)
theorem xZ{oc:Qy}{od an:Option QA}{osl:Array (Option Qy)}{kV doc pm cdv ct:Qy}(l:K.lookup f=some ⟨oc,od,.func (R8 x qual (eB st) (cO st) (ax st) .none kV doc pm an cdv ct),osl⟩)
  (c:TQ K cdv qual=true) (k:Ta K (.ref f)=true):Fun K x qual st f (R8 x qual (eB st) (cO st) (ax st) .none kV doc pm an cdv ct):=⟨⟨oc,od,kV,doc,pm,an,cdv,ct,osl,rfl,l,c⟩,k⟩
end
theorem sE{A:QY}{k:Nat}(hr:Room k A):A.units+1<cLine:=MC (MW (by decide:1<=64) _) hr.units
section
variable{X:Cx}
theorem pv(i:Nat){pos:Pos}(hN:X.N[i]?=some x:=by rfl)(hv:Vis X.env.scope x:=by first|exact e_ rfl|exact s_ (e_ rfl)|exact s_ (s_ rfl))(hd:(x ==("__debug__":Str))=false:=by decide)
  (hcd:(x ==("__classdict__":Str))=false:=by decide):PE X (.Name x pos) (Hd i):=fZ hN hv hd hcd
end
theorem Li{A B:Prop}(h:B):if false=true then A else B:=by rw[if_neg Me];exact h
theorem Lj{A B:Prop}(h:A):if true=true then A else B:=by rw[if_pos rfl];exact h
noncomputable def bI(H H':Hp):Prop:=∀b o,H b=some o->H' b=some o
theorem bI.seq {K:Qz}{H H':Hp}{a:QA}{xs:List V}(e:bI H H')(h:SqL K H a xs):SqL K H' a xs:=by
 rcases h with (h|⟨o,h⟩)|h
 ·exact .inl (.inl (e _ _ h))
 ·exact .inl (.inr ⟨o,e _ _ h⟩)
 exact .inr h
end L2
namespace ZG
open PySem
noncomputable def Sq(b:Bool)(h:QR)(l:QA)(xs:Array Qy):Prop:=match b with
 |true=>h.IsTuple l xs
 |false=>h.IsList l xs
noncomputable def Dr(b:Bool)(h:QR)(i l:QA)(k:Nat):Prop:=match b with
 |true=>h.IsTupleIter i l k
 |false=>h.IsListIter i l k
variable {b:Bool}{h h':QR}{xs:Array Qy}
theorem Sq.ext {l c:QA}(x:Sq b h l xs)(k:SX c h h')(n:l≠c):Sq b h' l xs:=by
 cases b with
 |true=>exact XJ (show h.IsTuple l xs from x) k n
 |false=>exact XS (show h.IsList l xs from x) k n
variable {i:QA}
theorem Dr.ext {l c:QA}{k:Nat}(x:Dr b h i l k)(e:SX c h h')(n:i≠c):Dr b h' i l k:=by
 cases b with
 |true=>exact Xl (show h.IsTupleIter i l k from x) e n
 |false=>exact Xx (show h.IsListIter i l k from x) e n
theorem Dr.some {b:Bool}{h:QR}{i l:QA}{k:Nat}(x:Dr b h i l k):∃o,h.get? i=some o/\∀v,o.data≠.cell v:=by
 cases b with
 |true=>obtain⟨o,e,_,d⟩:=(show h.IsTupleIter i l k from x);exact⟨o,e,fun v z=>by rw[d]at z;cases z⟩
 |false=>obtain⟨o,e,_,d⟩:=(show h.IsListIter i l k from x);exact⟨o,e,fun v z=>by rw[d]at z;cases z⟩
theorem Dr.at {l:QA}{k:Nat}(x:Dr b h i l k)(e:∀o,h.get? i=Qp o->h'.get? i=Qp o):Dr b h' i l k:=by
 cases b with
 |true=>obtain⟨o,q,r⟩:=(show h.IsTupleIter i l k from x);exact⟨o,e o q,r⟩
 |false=>obtain⟨o,q,r⟩:=(show h.IsListIter i l k from x);exact⟨o,e o q,r⟩
variable {Q:Qy->QB->Prop}{a:Qy}{b1 b2:Bool}{i1 i2 l1 l2 z:QA}{ys:Array Qy}
section
variable{prog:QL}{w:QP}{A:QY}{E:Qy->QB->Prop}{s:QB}
theorem Fl{l:QA}{k:Nat}{v:Qy}(d:s.heap.IsTupleIter i l k)(q:s.heap.IsTuple l xs)(hv:xs[k]?=some v)
  (r:∀g,g.IsTupleIter i l (k+1)->Rt i s.heap g->Q v {s with heap:=g}):QG (QM prog w) A (Rb (.ref i)) Q E s:=by
 obtain⟨oi,hoi,ci,di⟩:=id d;obtain⟨ol,hol,_,nl,dl⟩:=q;unfold Rb;refine Qx (Rf (name:=Rw "__next__") d.typeIs R' (Rh R' d.typeIs T4 ?_ (TU _)));show QG _ _ (U7 (.ref i) 0 >>= _) _ _ s;refine Qx (Rx hoi di (x:=.ref l) rfl ?_);show QG _ _ (if(Rc l == Ra)=true then _ else _) _ _ s;rw[if_neg (show ¬((Rc l == Ra)=true)from Me)];show QG _ _ (U7 (.ref i) 1 >>= _) _ _ s;refine Qx (Rx hoi di (x:=.int k 0) rfl ?_);show QG _ _ (Vq (.ref l) >>= _) _ _ s;refine Qx (R0 hol dl ?_);simp only[Md,hv];refine Qx (RG hoi di (by simp) (QC ⟨v,rfl,QC (r _ ?_ (Rg ..))⟩));exact⟨_,Rk _ hoi (RT (Q_ di _)),(SJ ..).trans ci,by rw[Q_ di];simp[RD]⟩
theorem Ig{l:QA}{k:Nat}(hh:A.handled=none)(d:s.heap.IsTupleIter i l k)(q:s.heap.IsTuple l xs)(hv:xs[k]?=none)
  (r:∀g e,SX i s.heap g->(∃o,g.get? e=some o/\o.cls=.type "StopIteration")->E (.ref e) {s with heap:=g}):QG (QM prog w) A (Rb (.ref i)) Q E s:=by
 obtain⟨oi,hoi,ci,di⟩:=id d;obtain⟨ol,hol,_,nl,dl⟩:=q;unfold Rb;refine Qx (Rf (name:=Rw "__next__") d.typeIs R' (Rh R' d.typeIs T4 ?_ (TU _)));show QG _ _ (U7 (.ref i) 0 >>= _) _ _ s;refine Qx (Rx hoi di (x:=.ref l) rfl ?_);show QG _ _ (if(Rc l == Ra)=true then _ else _) _ _ s;rw[if_neg (show ¬((Rc l == Ra)=true)from Me)];show QG _ _ (U7 (.ref i) 1 >>= _) _ _ s;refine Qx (Rx hoi di (x:=.int k 0) rfl ?_);show QG _ _ (Vq (.ref l) >>= _) _ _ s;refine Qx (R0 hol dl ?_);simp only[Md,hv];refine Qx (Sh (Qx (RG hoi di (by simp) ?_)));show QG _ _ (Us (.type "StopIteration") [] >>= _) _ _ _;refine Qx ?_;simp only[Us,VM];refine Qx (Q1 ?_ (by size_fits));refine Qx (m:=R1 _ _) (SY (a:=Ra) (by first|rfl|(simp only[R1];rfl)) ?_);refine Q1 ?_ (by size_fits);simp only[VN];refine Qx (T_ ?_)
 first|rw[show A.in1.handled=none from hh]|rw[hh]
 refine Qx (QC (UN ?_));exact r _ _ (((Rg ..).extBut.push _).push _) ⟨_,QH _ rfl,rfl⟩
theorem wY{l:QA}{k:Nat}{v:Qy}(d:Dr b s.heap i l k)(q:Sq b s.heap l xs)(hv:xs[k]?=some v)
  (r:∀g,Dr b g i l (k+1)->Rt i s.heap g->Q v {s with heap:=g}):QG (QM prog w) A (Rb (.ref i)) Q E s:=by
 cases b with
 |true=>exact Fl d q hv r
 |false=>exact wpAny_nextOf_list_item d q hv r
theorem Gk{l:QA}{k:Nat}(hh:A.handled=none)(d:Dr b s.heap i l k)(q:Sq b s.heap l xs)(hv:xs[k]?=none)
  (r:∀g e,SX i s.heap g->(∃o,g.get? e=some o/\o.cls=.type "StopIteration")->E (.ref e) {s with heap:=g}):QG (QM prog w) A (Rb (.ref i)) Q E s:=by
 cases b with
 |true=>exact Ig hh d q hv r
 |false=>exact wpAny_nextOf_list_end hh d q hv r
structure Off (z TI TO i1 i2 l1 l2:QA):Prop where
 a1:TI≠z
 a2:TO≠z
 a3:i1≠z
 a4:i2≠z
 a5:TI≠TO
 a6:TI≠i1
 a7:TI≠i2
 a8:TO≠i1
 a9:TO≠i2
 b1:i1≠i2
 c1:l1≠z
 c2:l1≠TO
 c3:l1≠i1
 c4:l1≠i2
 e1:l2≠z
 e2:l2≠TO
 e3:l2≠i1
 e4:l2≠i2
theorem Ka{TI TO:QA}{k:Nat}{x y b:Qy}(D:Off z TI TO i1 i2 l1 l2)
  (hz:SN s.heap z TI TO .none) (hi:RO s.heap TI (.ref i1) (.ref i2)) (ho:RO s.heap TO a b)
  (d1:Dr b1 s.heap i1 l1 k) (d2:Dr b2 s.heap i2 l2 k) (q1:Sq b1 s.heap l1 xs) (q2:Sq b2 s.heap l2 ys) (hx:xs[k]?=some x) (hy:ys[k]?=some y)
  (r:∀g,SN g z TI TO (RD s.heap.objs.size)->RO g TO x y->Dr b1 g i1 l1 (k+1)->Dr b2 g i2 l2 (k+1)->RO g s.heap.objs.size x y->g.objs.size=s.heap.objs.size+1->
   (∀c o,c≠z->c≠TO->c≠i1->c≠i2->s.heap.get? c=some o->g.get? c=some o)->Q (.ref s.heap.objs.size) {s with heap:=g}) :
  QG (QM prog w) A (RM.«zip.__next__» ⟨[.ref z],[]⟩) (fun fin s'=>∃v,fin=.done (.ret v)/\Q v s') E s:=by
 show QG _ _ (U7 (.ref z) 2 >>= _) _ _ _;refine Qx (Rx hz rfl (x:=.bool false) rfl ?_);show QG _ _ (U7 (.ref z) 3 >>= _) _ _ _;refine Qx (Rx hz rfl (x:=.ref TI) rfl (Qx (R0 hi rfl ?_)));show QG _ _ (RH (.ref z) >>= _) _ _ _;refine Qx ?_;unfold RH;refine Qx (Rx hz rfl (x:=.none) rfl (QC ?_));simp only[if_true];refine Qx (Sh (Qx (Rx hz rfl (x:=.ref TO) rfl (Qx (R9 hz (by simp) fun g1 z1 s1=>?_)))));have z1:SN g1 z TI TO .ellipsis:=z1;refine Qx ?_;simp only[OO,P0,O0,O8];refine Qx (Qx (T' ?_));show QG _ _ (Rb (.ref i1) >>= _) _ _ _;refine Qx (wY (d1.ext s1.extBut D.a3) (q1.ext s1.extBut D.c1) hx fun g2 w2 s2=>QC ?_);have o2:RO g2 TO a b:=s2.extBut _ _ D.a8 (s1.extBut _ _ D.a2 ho);refine Qx (R0 o2 rfl (Qx (TC o2 fun g3 o3 s3=>?_)));have o3:RO g3 TO x b:=o3;refine Qx (UO (QC (Qx (Qx (T' ?_)))));show QG _ _ (Rb (.ref i2) >>= _) _ _ _;refine Qx (wY (((d2.ext s1.extBut D.a4).ext s2.extBut D.b1.symm).ext s3.extBut D.a9.symm) (((q2.ext s1.extBut D.e1).ext s2.extBut D.e3).ext s3.extBut D.e2) hy fun g4 w4 s4=>QC ?_);have o4:RO g4 TO x b:=s4.extBut _ _ D.a9 o3;refine Qx (R0 o4 rfl (Qx (TC o4 fun g5 o5 s5=>?_)));have o5:RO g5 TO x y:=o5;refine Qx (UO (QC (QC (Qx (R0 o5 rfl (Qx (UT ?_)))))));have sz:g5.objs.size=s.heap.objs.size:=by rw[s5.1,s4.1,s3.1,s2.1,s1.1]
 have z5:SN g5 z TI TO .ellipsis:=s5.extBut _ _ D.a2.symm (s4.extBut _ _ D.a4.symm (s3.extBut _ _ D.a2.symm (s2.extBut _ _ D.a3.symm z1)));have k5:∀c o,c≠z->c≠TO->c≠i1->c≠i2->s.heap.get? c=some o->g5.get? c=some o:=fun c o n1 n2 n3 n4 e=>
  s5.extBut _ _ n2 (s4.extBut _ _ n4 (s3.extBut _ _ n2 (s2.extBut _ _ n3 (s1.extBut _ _ n1 e))))
 have w15:Dr b1 g5 i1 l1 (k+1):=((w2.ext s3.extBut D.a8.symm).ext s4.extBut D.b1).ext s5.extBut D.a8.symm;have w25:Dr b2 g5 i2 l2 (k+1):=w4.ext s5.extBut D.a9.symm;have zlt:z<g5.objs.size:=QK z5;show QG _ _ (S8 (.ref z) (.ref g5.objs.size) >>= _) _ _ _;refine Qx ?_;unfold S8;have z6:SN (g5.push { cls:=.type "tuple",data:=.seq #[x,y] }) z TI TO .ellipsis:=QD _ z5;refine Qx (R9 z6 (by simp) fun g7 z7 s7=>?_);have z7:SN g7 z TI TO (RD g5.objs.size):=z7;refine R9 z7 (by simp) fun g8 z8 s8=>?_
 have z8:SN g8 z TI TO (RD g5.objs.size):=z8;have up:∀c o,c≠z->g5.get? c=some o->g8.get? c=some o:=fun c o n e=>s8.extBut _ _ n (s7.extBut _ _ n (QD _ e));have t8:RO g8 g5.objs.size x y:=s8.extBut _ _ (Nz zlt) (s7.extBut _ _ (Nz zlt) (QH _ rfl));have e8:g8.objs.size=g5.objs.size+1:=by rw[s8.1,s7.1,Rr]
 rw[sz]at z8 t8 e8;refine QC ⟨_,rfl,?_⟩;show Q (.ref g5.objs.size) _;rw[sz];exact r g8 z8 (up _ _ D.a2 o5) (w15.at fun o e=>up _ o D.a3 e) (w25.at fun o e=>up _ o D.a4 e) t8 e8 fun c o n1 n2 n3 n4 e=>up c o n1 (k5 c o n1 n2 n3 n4 e)
theorem zEnd{TI TO:QA}{k:Nat}{b:Qy}{Q:Fin->QB->Prop}(hh:A.handled=none)(D:Off z TI TO i1 i2 l1 l2)
  (hz:SN s.heap z TI TO .none) (hi:RO s.heap TI (.ref i1) (.ref i2)) (ho:RO s.heap TO a b)
  (d1:Dr b1 s.heap i1 l1 k) (d2:Dr b2 s.heap i2 l2 k) (q1:Sq b1 s.heap l1 xs) (q2:Sq b2 s.heap l2 ys) (hn:xs[k]?=none\/ys[k]?=none)
  (r:∀g e,(∀c o,c≠z->c≠TO->c≠i1->c≠i2->s.heap.get? c=some o->g.get? c=some o)->(∃o,g.get? e=some o/\o.cls=.type "StopIteration")->E (.ref e) {s with heap:=g}) :
  QG (QM prog w) A (RM.«zip.__next__» ⟨[.ref z],[]⟩) Q E s:=by
 show QG _ _ (U7 (.ref z) 2 >>= _) _ _ _;refine Qx (Rx hz rfl (x:=.bool false) rfl ?_);show QG _ _ (U7 (.ref z) 3 >>= _) _ _ _;refine Qx (Rx hz rfl (x:=.ref TI) rfl (Qx (R0 hi rfl ?_)));show QG _ _ (RH (.ref z) >>= _) _ _ _;refine Qx ?_;unfold RH;refine Qx (Rx hz rfl (x:=.none) rfl (QC ?_));simp only[if_true];refine Qx (Sh (Qx (Rx hz rfl (x:=.ref TO) rfl (Qx (R9 hz (by simp) fun g1 z1 s1=>?_)))));have z1:SN g1 z TI TO .ellipsis:=z1;refine Qx ?_;simp only[OO,P0,O0,O8];refine Qx (Qx (T' ?_));show QG _ _ (Rb (.ref i1) >>= _) _ _ _;cases hx:xs[k]? with
 |none=>
  refine Qx (Gk hh (d1.ext s1.extBut D.a3) (q1.ext s1.extBut D.c1) hx fun g2 e s2 he=>?_);obtain⟨oe,hoe,ce⟩:=he;have z2:SN g2 z TI TO .ellipsis:=s2 _ _ D.a3.symm z1;have ne:e≠z:=fun q=>by subst q;rw[z2]at hoe;cases hoe;simp at ce
  exact R9 z2 (by simp) fun g3 _ s3=>r g3 e (fun c o n1 _ n3 _ q=>s3.extBut _ _ n1 (s2 _ _ n3 (s1.extBut _ _ n1 q))) ⟨oe,s3.extBut _ _ ne hoe,ce⟩
 |some x=>
  have hy:ys[k]?=none:=by
   rcases hn with h|h
   ·rw[hx]at h;cases h
   exact h
  refine Qx (wY (d1.ext s1.extBut D.a3) (q1.ext s1.extBut D.c1) hx fun g2 w2 s2=>QC ?_);have o2:RO g2 TO a b:=s2.extBut _ _ D.a8 (s1.extBut _ _ D.a2 ho);refine Qx (R0 o2 rfl (Qx (TC o2 fun g3 o3 s3=>?_)));refine Qx (UO (QC (Qx (Qx (T' ?_)))));show QG _ _ (Rb (.ref i2) >>= _) _ _ _;refine Qx (Gk hh (((d2.ext s1.extBut D.a4).ext s2.extBut D.b1.symm).ext s3.extBut D.a9.symm) (((q2.ext s1.extBut D.e1).ext s2.extBut D.e3).ext s3.extBut D.e2) hy fun g4 e s4 he=>?_);obtain⟨oe,hoe,ce⟩:=he;have z4:SN g4 z TI TO .ellipsis:=s4 _ _ D.a4.symm (s3.extBut _ _ D.a2.symm (s2.extBut _ _ D.a3.symm z1));have ne:e≠z:=fun q=>by subst q;rw[z4]at hoe;cases hoe;simp at ce
  exact R9 z4 (by simp) fun g5 _ s5=>r g5 e (fun c o n1 n2 n3 n4 q=>s5.extBut _ _ n1 (s4 _ _ n4 (s3.extBut _ _ n2 (s2.extBut _ _ n3 (s1.extBut _ _ n1 q))))) ⟨oe,s5.extBut _ _ ne hoe,ce⟩
theorem wJ{TI TO:QA}{k:Nat}{x y b:Qy}{Q:Option Qy->QB->Prop}(D:Off z TI TO i1 i2 l1 l2)
  (hz:SN s.heap z TI TO .none) (hi:RO s.heap TI (.ref i1) (.ref i2)) (ho:RO s.heap TO a b)
  (d1:Dr b1 s.heap i1 l1 k) (d2:Dr b2 s.heap i2 l2 k) (q1:Sq b1 s.heap l1 xs) (q2:Sq b2 s.heap l2 ys) (hx:xs[k]?=some x) (hy:ys[k]?=some y)
  (r:∀g,SN g z TI TO (RD s.heap.objs.size)->RO g TO x y->Dr b1 g i1 l1 (k+1)->Dr b2 g i2 l2 (k+1)->RO g s.heap.objs.size x y->g.objs.size=s.heap.objs.size+1->
   (∀c o,c≠z->c≠TO->c≠i1->c≠i2->s.heap.get? c=some o->g.get? c=some o)->Q (some (.ref s.heap.objs.size)) {s with heap:=g}) :
  QG (QM prog w) A (Sd (.ref z)) Q E s:=by
 have hT:s.TypeIs (.ref z) "zip":=⟨_,hz,rfl⟩;unfold Sd;refine Qx (RP (Rf (name:=Rw "__next__") hT TF (Rh TF hT VO ?_ (Vz _))));exact Ka D hz hi ho d1 d2 q1 q2 hx hy fun g p1 p2 p3 p4 p5 p6 p7=>QC (r g p1 p2 p3 p4 p5 p6 p7)
theorem wW{TI TO:QA}{k:Nat}{b:Qy}{Q:Option Qy->QB->Prop}(hh:A.handled=none)(D:Off z TI TO i1 i2 l1 l2)
  (hz:SN s.heap z TI TO .none) (hi:RO s.heap TI (.ref i1) (.ref i2)) (ho:RO s.heap TO a b)
  (d1:Dr b1 s.heap i1 l1 k) (d2:Dr b2 s.heap i2 l2 k) (q1:Sq b1 s.heap l1 xs) (q2:Sq b2 s.heap l2 ys) (hn:xs[k]?=none\/ys[k]?=none)
  (r:∀g,(∀c o,c≠z->c≠TO->c≠i1->c≠i2->s.heap.get? c=some o->g.get? c=some o)->Q none {s with heap:=g}):QG (QM prog w) A (Sd (.ref z)) Q E s:=by
 have hT:s.TypeIs (.ref z) "zip":=⟨_,hz,rfl⟩;unfold Sd;refine Qx (RP (Rf (name:=Rw "__next__") hT TF (Rh TF hT VO (zEnd hh D hz hi ho d1 d2 q1 q2 hn fun g e k he=>?_) (Vz _))));obtain⟨o,he,hc⟩:=he;exact Qx (SO (T:="StopIteration") (b:=true) ⟨o,he,hc⟩ TV (QC (r _ k)))
end
noncomputable def nm(b:Bool):String:=if b=true then "tuple_iterator" else "list_iterator"
abbrev Z1(h:QR)(b1:Bool)(l1:QA):QR:=h.push { cls:=.type (nm b1),data:=.fields #[.ref l1,.int 0 0] }
abbrev Z2(h:QR)(b1 b2:Bool)(l1 l2:QA):QR:=(Z1 h b1 l1).push { cls:=.type (nm b2),data:=.fields #[.ref l2,.int 0 0] }
abbrev Z3(h:QR)(b1 b2:Bool)(l1 l2:QA):QR:=(Z2 h b1 b2 l1 l2).push { cls:=.type "tuple",data:=.seq #[.ref h.objs.size,.ref (Z1 h b1 l1).objs.size] }
abbrev Z4(h:QR)(b1 b2:Bool)(l1 l2:QA):QR:=(Z3 h b1 b2 l1 l2).push { cls:=.type "tuple",data:=.seq #[.none,.none] }
abbrev Z5(h:QR)(b1 b2:Bool)(l1 l2:QA):QR:=(Z4 h b1 b2 l1 l2).push { cls:=.type "zip",data:=.fields #[.none,.bool false,.bool false,.ref (Z2 h b1 b2 l1 l2).objs.size,.ref (Z3 h b1 b2 l1 l2).objs.size] }
theorem F0(b1 b2:Bool)(l1 l2:QA)(xs ys:Array Qy) :
  Meets (RM.«zip.__new__» ⟨[.type "zip",.ref l1,.ref l2],[]⟩) (fun _ R s=>Sq b1 s.heap l1 xs/\Sq b2 s.heap l2 ys/\R (.ok (.ret (.ref (Z4 s.heap b1 b2 l1 l2).objs.size))) {s with heap:=Z5 s.heap b1 b2 l1 l2}):=
 .of_wp fun prog w A R s h=>by
  obtain⟨hp,g,d,tk,os⟩:=s;obtain⟨q1,q2,h⟩:=h;have hsub:=sub_zip;cases b1 with
  |false=>
   have p1:VF (Tj ⟨hp,g,d,tk,os⟩) l1 xs:=q1;cases b2 with
   |false=>
    have p2:VF (Tj ⟨hp.push { cls:=.type "list_iterator",data:=.fields #[.ref l1,.int 0 0] },g,d,tk,os⟩) l2 ys:=VP q2 _
    wp_walk using RW p1,RW p2
    exact⟨_,rfl,h⟩
   |true=>
    have p2:Vr (Tj ⟨hp.push { cls:=.type "list_iterator",data:=.fields #[.ref l1,.int 0 0] },g,d,tk,os⟩) l2 ys:=VA q2 _
    wp_walk using RW p1,RU p2
    exact⟨_,rfl,h⟩
  |true=>
   have p1:Vr (Tj ⟨hp,g,d,tk,os⟩) l1 xs:=q1;cases b2 with
   |false=>
    have p2:VF (Tj ⟨hp.push { cls:=.type "tuple_iterator",data:=.fields #[.ref l1,.int 0 0] },g,d,tk,os⟩) l2 ys:=VP q2 _
    wp_walk using RU p1,RW p2
    exact⟨_,rfl,h⟩
   |true=>
    have p2:Vr (Tj ⟨hp.push { cls:=.type "tuple_iterator",data:=.fields #[.ref l1,.int 0 0] },g,d,tk,os⟩) l2 ys:=VA q2 _
    wp_walk using RU p1,RU p2
    exact⟨_,rfl,h⟩
section
variable{prog:QL}{w:QP}{A:QY}{E:Qy->QB->Prop}{s:QB}
theorem Bf(q1:Sq b1 s.heap l1 xs)(q2:Sq b2 s.heap l2 ys)
  (r:∀g,SN g (s.heap.objs.size+4) (s.heap.objs.size+2) (s.heap.objs.size+3) .none->RO g (s.heap.objs.size+2) (.ref s.heap.objs.size) (.ref (s.heap.objs.size+1))->RO g (s.heap.objs.size+3) .none .none->
    Dr b1 g s.heap.objs.size l1 0->Dr b2 g (s.heap.objs.size+1) l2 0->g.objs.size=s.heap.objs.size+5->(∀c o,s.heap.get? c=some o->g.get? c=some o)->Q (.ref (s.heap.objs.size+4)) {s with heap:=g}) :
  QG (QM prog w) A (call (.type "zip") [.ref l1,.ref l2]) Q E s:=by
 refine callType_new F.called_zip (by decide) (F.typeCall_zip_2 _ _) (F.newCall_zip_2 _ _) (fun obj=>F.args_object_init_3 obj _ _) F.entry_zip_new (F0 b1 b2 l1 l2 xs ys) ⟨q1,q2,?_⟩;have z1:(Z1 s.heap b1 l1).objs.size=s.heap.objs.size+1:=Rr ..;have z2:(Z2 s.heap b1 b2 l1 l2).objs.size=s.heap.objs.size+2:=by rw[Rr,z1]
 have z3:(Z3 s.heap b1 b2 l1 l2).objs.size=s.heap.objs.size+3:=by rw[Rr,z2]
 have z4:(Z4 s.heap b1 b2 l1 l2).objs.size=s.heap.objs.size+4:=by rw[Rr,z3]
 have z5:(Z5 s.heap b1 b2 l1 l2).objs.size=s.heap.objs.size+5:=by rw[Rr,z4]
 have u5:∀c o,(Z4 s.heap b1 b2 l1 l2).get? c=some o->(Z5 s.heap b1 b2 l1 l2).get? c=some o:=fun c o e=>QD _ e;have u4:∀c o,(Z3 s.heap b1 b2 l1 l2).get? c=some o->(Z5 s.heap b1 b2 l1 l2).get? c=some o:=fun c o e=>u5 c o (QD _ e);have u3:∀c o,(Z2 s.heap b1 b2 l1 l2).get? c=some o->(Z5 s.heap b1 b2 l1 l2).get? c=some o:=fun c o e=>u4 c o (QD _ e);have u2:∀c o,(Z1 s.heap b1 l1).get? c=some o->(Z5 s.heap b1 b2 l1 l2).get? c=some o:=fun c o e=>u3 c o (QD _ e);have g5:(Z5 s.heap b1 b2 l1 l2).get? (Z4 s.heap b1 b2 l1 l2).objs.size=some _:=QH _ rfl;have g4:=u5 (Z3 s.heap b1 b2 l1 l2).objs.size _ (QH _ rfl);have g3:=u4 (Z2 s.heap b1 b2 l1 l2).objs.size _ (QH _ rfl);have g2:=u3 (Z1 s.heap b1 l1).objs.size _ (QH _ rfl);have g1:=u2 s.heap.objs.size _ (QH _ rfl);show _/\_;rw[z2,z3,z4]at g5;rw[z1,z2]at g3;rw[z3]at g4;rw[z1]at g2;rw[z4];refine⟨⟨_,g5,rfl⟩,r _ g5 g3 g4 ?_ ?_ z5 fun c o e=>u2 c o (QD _ e)⟩
 ·cases b1 with
  |true=>exact⟨_,g1,rfl,rfl⟩
  |false=>exact⟨_,g1,rfl,rfl⟩
 cases b2 with
 |true=>exact⟨_,g2,rfl,rfl⟩
 |false=>exact⟨_,g2,rfl,rfl⟩
end
end ZG
namespace L2
open PySem PySem.Spec PyProof.Rows
noncomputable def dR(env:Env):List (Str×Sn)->List (Str×QA)->List (Str×QA)
 | [],cs=>cs
 |x::r,cs=>dR env r (if(x.2 == RQ)=true then(x.1,(env.cells.lookup x.1).getD 0)::cs else cs)
theorem qk{env:Env}(f:Str×Sn->List (Str×QA)->Sem (ForInStep (List (Str×QA))))(hf:∀n k cs,f (n,k) cs=if(k == RQ)=true then(do let a <-cellOf env n;pure (QV ((n,a)::cs)))else pure (QV cs)) :
  ∀(names:List (Str×Sn)) (cs:List (Str×QA)),(∀x∈names,x.2=.free->∃c,env.cells.lookup x.1=some c)->forIn names cs f=pure (dR env names cs)
 | [],cs,_=>by rw[O8];rfl
 | (n,k)::r,cs,h=>by
  rw[O0,hf];have hr:∀x∈r,x.2=.free->∃c,env.cells.lookup x.1=some c:=fun x hx=>h x (k_ _ hx);by_cases e:(k == RQ)=true
  ·obtain⟨c,hc⟩:=h (n,k) o_ (by simpa using e);have hc':env.cells.lookup n=some c:=hc;rw[if_pos e];have q:cellOf env n=pure c:=by unfold cellOf;rw[hc']
   rw[q,pure_bind,pure_bind];show forIn r ((n,c)::cs) f=pure (dR env ((n,k)::r) cs);rw[qk f hf r _ hr];unfold dR;rw[if_pos e,hc'];cases r <;> rfl
  rw[if_neg e,pure_bind];show forIn r cs f=pure (dR env ((n,k)::r) cs);rw[qk f hf r _ hr]
  conv=>rhs;unfold dR
  rw[if_neg e]
variable {sc:RC}
theorem qt{env:Env}(h:∀x∈sc.names,x.2=.free->∃c,env.cells.lookup x.1=some c):closureFor sc env=pure (dR env sc.names []):=by
 unfold closureFor;show(forIn sc.names [] _ >>= fun cs=>pure cs)=_;rw[qk (env:=env) _ (fun n k cs=>by cases e:k == RQ <;> simp[e]) sc.names [] h]
 rfl
theorem vx{env:Env}:∀{names:List (Str×Sn)}{cs:List (Str×QA)}{x:Str}{c:QA},(∀y∈names,y.2=.free->∃c,env.cells.lookup y.1=some c)->(dR env names cs).lookup x=some c->
  (env.cells.lookup x=some c/\(x,RQ)∈names)\/cs.lookup x=some c
 | [],cs,x,c,_,h=>.inr h
 | (n,k)::r,cs,x,c,hn,h=>by
  unfold dR at h;have hr:∀y∈r,y.2=.free->∃c,env.cells.lookup y.1=some c:=fun y hy=>hn y (k_ _ hy);have hh:=vx hr h;clear h;rcases hh with⟨h1,h2⟩|h
  ·exact .inl ⟨h1,k_ _ h2⟩
  by_cases e:(k == RQ)=true
  ·rw[if_pos e]at h;obtain⟨c',hc⟩:=hn (n,k) o_ (by simpa using e);have hc':env.cells.lookup n=some c':=hc;rw[hc',ND]at h;by_cases ex:(x == n)=true
   ·rw[ex]at h;have ex':x=n:=by simpa using ex
    have ek:k=RQ:=by simpa using e
    subst ex' ek;have h':c'=c:=I_ h;subst h';exact .inl ⟨hc',o_⟩
   have ex':(x == n)=false:=by simpa using ex
   rw[ex']at h;exact .inr h
  rw[if_neg e]at h;exact .inr h
theorem vb{env:Env}:∀{names:List (Str×Sn)}{cs:List (Str×QA)}{x:Str}{c:QA},(∀y∈names,y.2=.free->∃c,env.cells.lookup y.1=some c)->env.cells.lookup x=some c->cs.lookup x=some c->(dR env names cs).lookup x=some c
 | [],cs,x,c,_,_,h=>h
 | (n,k)::r,cs,x,c,hn,he,h=>by
  unfold dR;refine vb (fun y hy=>hn y (k_ _ hy)) he ?_;by_cases e:(k == RQ)=true
  ·rw[if_pos e,ND];by_cases ex:(x == n)=true
   ·rw[ex];have ex':x=n:=by simpa using ex
    subst ex';show some ((env.cells.lookup x).getD 0)=some c;rw[he];rfl
   have ex':(x == n)=false:=by simpa using ex
   rw[ex'];exact h
  rw[if_neg e];exact h
theorem uV{env:Env}:∀{names:List (Str×Sn)}{cs:List (Str×QA)}{x:Str}{c:QA},(∀y∈names,y.2=.free->∃c,env.cells.lookup y.1=some c)->env.cells.lookup x=some c->(x,RQ)∈names->(dR env names cs).lookup x=some c
 | (n,k)::r,cs,x,c,hn,he,hm=>by
  have hr:∀y∈r,y.2=.free->∃c,env.cells.lookup y.1=some c:=fun y hy=>hn y (k_ _ hy);unfold dR;rcases m_.mp hm with e|hm
  ·obtain⟨rfl,rfl⟩:=Qq e;rw[if_pos (by rfl)];refine vb hr he ?_;rw[ND,beq_self_eq_true];show some ((env.cells.lookup x).getD 0)=some c;rw[he];rfl
  exact uV hr he hm
noncomputable def qb(env:Env)(sc:RC):RC:={sc with names:=sc.names.map fun x=>if(x.2 == .free&&env.scope.kind == .function&&env.kindOf x.1 == some .cell)=true then(x.1,.cell)else(x.1,x.2) }
theorem kH{f:Str×Sn->Bool}(x:Str):∀names:List (Str×Sn),(names.map fun y=>if f y=true then(y.1,Ye)else(y.1,y.2)).lookup x=(names.lookup x).map fun k=>if f (x,k)=true then .cell else k
 | []=>rfl
 | (n,k)::r=>by
  rw[g_];by_cases ex:(x == n)=true
  ·have ex':x=n:=by simpa using ex
   subst ex';cases e:f (x,k) <;> simp[e,ND]
  have ex':(x == n)=false:=by simpa using ex
  have ih:=kH (f:=f) x r;cases e:f (n,k) <;> simp only[e,if_true,if_false,LQ,ND,ex',ih]
theorem kJ(env:Env)(sc:RC)(x:Str):(qb env sc).names.lookup x=(sc.names.lookup x).map fun k=>if(k == .free&&env.scope.kind == .function&&env.kindOf x == some .cell)=true then .cell else k:=
 kH (f:=fun y=>(y.2 == .free&&env.scope.kind == .function&&env.kindOf y.1 == some .cell)) x sc.names
noncomputable def compEnv(env:Env)(sc:RC)(L:QA):Env:={ newEnv sc L env.globals (dR env sc.names []) env.qual none .none (some env) U2 with scope:=qb env sc}
variable {Q:Qy->QB->Prop}{e:QQ}{gs:List Ua}{newAcc:Sem Qy}{pos:Pos}{scope:RC}
section
variable{M:SH}{A:QY}{E:Qy->QB->Prop}{s:QB}{env:Env}
theorem o6{first:Sem Qy}{g:Ua}
  (hcl:clausesOf e=g::gs) (hs:∀x,Ry g.iter env x=pure x)
  (hc:∀x∈scope.names,x.2≠.cell) (hfr:∀x∈scope.names,x.2=.free->∃c,env.cells.lookup x.1=some c) (hkind:scope.kind=.function) (hnames:∀x∈scope.names,x.2=.local->scope.names.lookup x.1=some .local)
  (h:QG M A first (fun x s₁=>QG M A (Tz x) (fun it s₂=>QG M A newAcc (fun acc s₃=>
   ∀h4,h4.Ns s₃.heap.objs.size (fun _=>none)->(∀b o,s₃.heap.get? b=some o->h4.get? b=some o)->
    Sx M A (.compStart e 0 it acc (compEnv env scope s₃.heap.objs.size)) (fun r s'=>∃m,s'.heap.Ns s₃.heap.objs.size m/\∀h',Rt s₃.heap.objs.size s'.heap h'->
     match r with | .ok _=>Q acc {s' with heap:=h'} | .error x=>False) { s₃ with heap:=h4}) E s₂) E s₁) E s) :
  QG M A (Tq e scope env pos newAcc false first) Q E s:=by
 unfold Tq;rw[qt hfr,hcl];refine Qx (Q7 h (fun x s₁ h₁=>Qx (To (Qx (SY (hs x) (Qx (Q2 (Q7 h₁ (fun it s₂ h₂=>
  WO (Qx (Q7 h₂ (fun acc s₃ h₃=>Qx (QC (Qx ?_))) fun _ _ h'=>h')))
   fun _ _ h'=>h'))))))) fun _ _ h'=>h')
 refine U8 hc (fun x hx=>nomatch hx) (fun h4 hn4 hs4=>?_) hkind;have h₄:=h₃ h4 hn4 fun b o e=>hs4.extBut b o (v_ (QK e)) (QD _ e);dsimp only;have hv:∀x∈(scope.names.filter fun x=>(x.2 == .local || x.2 == .cell)&&x.1 !=(".0":Str)).reverse,x.2=.local->
   V8 (compEnv env scope s₃.heap.objs.size) x.1=some .local:=fun x hx hl=>by
  show(qb env scope).names.lookup x.1=some .local;rw[kJ,hnames x (LR.mp (Nd.mp hx)).1 hl]
  rfl
 refine Q2 (Qx (RP (Q2 (wpAny_run (Sl h₄ fun r s' hr=>?_)))));obtain⟨m,hn,hr⟩:=hr;cases r with
 |ok f=>exact Qx (Q2 (VQ (cenv:=compEnv env scope s₃.heap.objs.size) hkind _ s' m hv hn fun h' m' _ hs'=>QC (hr h' hs')))
 |error x=>exact(hr s'.heap (.refl ..)).elim
end
variable {elt iter target:QQ}{ifs:List QQ}
section
variable{prog:QL}{w:QP}{A:QY}{R:W4->QB->Prop}{s:QB}
theorem oB{it acc:Qy}{env:Env}(I:Nat->QB->Prop)
  (turn:∀n s,I n s->QG (QM prog w) A (Sd it) (fun r s₁=>match r with
   |none=>R (.ok .next) s₁
   |some v=>QG (QM prog w) A (Tx target it v) (fun _ s₁'=>QG (QM prog w) A (Tg target env v) (fun _ s₂=>
     QG (QM prog w) A (forIn ifs true fun c r=>if r=true then do let ok <-Vh c env (Q9 c env);pure (QV ok)else pure (QV r)) (fun ok s₃=>
      if ok=true then QG (QM prog w) A (Q9 elt env) (fun x s₄=>
       QG (QM prog w) A (call (.builtin "list.append") [acc,x]) (fun _ s₅=>∃m,m<n/\I m s₅) (fun _ _=>False) s₄) (fun _ _=>False) s₃
      else ∃m,m<n/\I m s₃) (fun _ _=>False) s₂) (fun _ _=>False) s₁') (fun _ _=>False) s₁) (fun _ _=>False) s)
  (n:Nat) (h:I n s) :
  Sx (QM prog w) A (.compLoop (.ListComp elt [⟨target,iter,ifs,0⟩] scope pos) 0 it acc env) R s:=by
 refine codeAny_loop rfl I (fun n s hI=>?_) n h;show QG _ A ((compTurn (.ListComp elt [⟨target,iter,ifs,0⟩] scope pos) 0 it acc env).onRaise (fun x=>do noteFrame x env;theTreesLotGoes x)) _ _ s;refine wpAny_noted ?_;rw[compTurn_list];refine Qx (To (Qx (Q7 (turn n s hI) (fun r s₁ h₁=>?_) fun _ _ h'=>h'.elim)));cases r with
 |none=>exact QC h₁
 |some v=>
  refine Qx (Q7 h₁ (fun _ s₁' h₁'=>?_) fun _ _ h'=>h'.elim);refine Qx (Q7 h₁' (fun _ s₂ h₂=>Qx (Q7 h₂ (fun ok s₃ h₃=>?_) fun _ _ h'=>h'.elim)) fun _ _ h'=>h'.elim);cases ok with
  |false=>exact QC ⟨rfl,h₃⟩
  |true=>
   exact Qx (Qx (Q7 h₃ (fun x s₄ h₄=>Qx (Q7 h₄ (fun _ s₅ h₅=>QC (QC ⟨rfl,h₅⟩)) fun _ _ h'=>h'.elim)) fun _ _ h'=>h'.elim))
end
noncomputable def aZ(X:Cx)(N':List Str)(sc:RC)(s3:QB)(H3:Hp)(fp:List QA):Cx where
 prog:=X.prog
 w:=X.w
 K:=X.K
 mg:=X.mg
 base:=X.base
 A:=X.A
 N:=N'
 s₀:=s3
 H₀:=H3
 env:=compEnv X.env sc s3.heap.objs.size
 outer:=X.stack
 stack:=X.stack
 ex:=fp
 calm:=true
 fn:=fun _=>false
 pn:=[]
 xe:=fun _ _=>False
noncomputable def jX(N:List Str)(esc sc:RC)(N':List Str)(fr:List (Option Nat)):Bool:=
 sc.kind == .function&&esc.kind == .function
 && sc.names.all (fun y=>(y.2 != .cell)&&(y.2 != .free || esc.names.lookup y.1 == some .cell)&&(y.2 != .local || sc.names.lookup y.1 == some .local))
 && fr.length == N'.length
 && (A_ N'.length).all (fun i=>match fr[i]? with
  |some (some j)=>match N'[i]? with
   |some x=>N[j]? == some x&&sc.names.lookup x == some .free
   |none=>false
  | _=>true)
structure CompOk (N:List Str) (esc sc:RC) (N':List Str) (fr:List (Option Nat)):Prop where
 kind:sc.kind=.function
 ekind:esc.kind=.function
 nocell:∀x∈sc.names,x.2≠.cell
 free:∀x∈sc.names,x.2=.free->esc.names.lookup x.1=some .cell
 names:∀x∈sc.names,x.2=.local->sc.names.lookup x.1=some .local
 len:fr.length=N'.length
 at_:∀(i j:Nat) (x:Str),fr[i]?=some (some j)->N'[i]?=some x->N[j]?=some x/\sc.names.lookup x=some .free
variable {N N':List Str}{esc:RC}{fr:List (Option Nat)}
theorem sA(h:jX N esc sc N' fr=true):CompOk N esc sc N' fr:=by
 unfold jX at h;simp only[LW,beq_iff_eq,Nf,Kk]at h;obtain⟨⟨⟨⟨h1,h2⟩,h3⟩,h4⟩,h5⟩:=h;refine⟨h1,h2,fun x hx=>?_,fun x hx e=>?_,fun x hx e=>?_,h4,fun i j x e1 e2=>?_⟩
 ·have:=(h3 x hx).1.1;simpa using this
 ·have:=(h3 x hx).1.2;rw[e]at this;simpa using this
 ·have:=(h3 x hx).2;rw[e]at this;simpa using this
 have hi:i<N'.length:=(f_.mp e2).1;have q:=h5 i hi;rw[e1,e2]at q;simpa using q
noncomputable def cu(fr:List (Option Nat))(σ:St):St:=fr.map fun o=>match o with
 |some j=>(σ[j]?).join
 |none=>none
variable {X:Cx}
theorem vL{pins:List (QA×Obj)}{σ:St}{H3:Hp}{s3:QB}{fp:List QA}{h4:QR}(I:Inv X pins σ H3 s3)(C:CompOk X.N X.env.scope sc N' fr)(hc:X.calm=true)
  (hfp:∀b∈fp,lg X pins H3 b) (hfo:∀b∈fp,∃o,s3.heap.get? b=some o) (hn:h4.Ns s3.heap.objs.size (fun _=>none)) (hk:∀b o,s3.heap.get? b=some o->h4.get? b=some o) :
  Inv (aZ X N' sc s3 H3 fp) [] (cu fr σ) H3 {s3 with heap:=h4}:=by
 have hfr:∀x∈sc.names,x.2=.free->∃c,X.env.cells.lookup x.1=some c:=fun x hx e=>I.ok.has x.1 (.inl (C.free x hx e));have clo:∀{x c},(dR X.env sc.names []).lookup x=some c->X.env.cells.lookup x=some c:=fun{x c} e=>by
  rcases vx hfr e with⟨h1,_⟩|h
  ·exact h1
  cases h
 have nfs:∀b∈fp,b ∉ frs X.stack:=fun b hb z=>by
  obtain⟨_,h1,h2,_⟩:=hfp b hb;rcases m_.mp (I.xW b z)with e|e
  ·exact h1 e
  exact h2 e
 have hfresh:H3 s3.heap.objs.size=none:=I.hok.fresh (b_ _);refine⟨⟨I.ok.mod,C.kind,I.ok.glob,I.ok.blt,b_ _,fun x y c e1 e2=>I.ok.inj x y c (clo e1) (clo e2),fun x hx=>?_,fun x c z=>(nomatch z),fun _=>I.ok.hd hc,I.ok.frames,.inl rfl,fun b hb=>⟨?_,fun x c e=>?_⟩,fun b o e=>I.bs b o e,t_ I.ok.bsz I.sz,fun b o e hb=>?_,nfs,I.stack,I.yF⟩,
  rfl,I.bare,Un.kept hk,⟨_,hn,fun i x v e1 e2 e3=>?_⟩,fun x c e=>?_,hfresh,fun x c e=>I.freeC x c (clo e),fun p hp=>(nomatch hp),I.hok.kept hk,?_⟩
 ·have hx:(qb X.env sc).names.lookup x=some .cell\/(qb X.env sc).names.lookup x=some .free:=hx;rw[kJ]at hx;cases e:sc.names.lookup x with
  |none=>rw[e]at hx;rcases hx with z|z <;> cases z
  |some k=>
   have hm:(x,k)∈sc.names:=RK e;have hk:k=.free:=by
    rw[e]at hx;cases k with
    |free=>rfl
    |cell=>exact absurd rfl (C.nocell _ hm)
    | _=>rcases hx with z|z <;>(simp at z)
   subst hk;obtain⟨c,hc'⟩:=hfr _ hm rfl;exact⟨c,uV hfr hc' hm⟩
 ·obtain⟨o,ho⟩:=hfo b hb;exact v_ (QK ho)
 ·exact(hfp b hb).2.2.2.2.1 x c (clo e)
 ·obtain⟨e1,_⟩:=I.ok.bs b o e;rcases(hfp b hb).2.2.2.1 with z|z
  ·exact I.ok.noex b o e z
  exact absurd (z_ (QK e1) z) (MJ _)
 ·have e2:(cu fr σ)[i]?=some (some v):=e2;unfold cu at e2;rw[B']at e2;cases ef:fr[i]? with
  |none=>rw[ef]at e2;cases e2
  |some o=>
   rw[ef]at e2;cases o with
   |none=>cases e2
   |some j=>
    have e2':(σ[j]?).join=some v:=by simpa using e2
    have e2'':σ[j]?=some (some v):=by
     cases q:σ[j]? with
     |none=>rw[q]at e2';cases e2'
     |some z=>rw[q]at e2';exact congrArg some e2'
    obtain⟨hN,hfrx⟩:=C.at_ i j x ef e1;have hm:(x,RQ)∈sc.names:=RK hfrx;have hcell:=C.free _ hm rfl;obtain⟨m,_,hl⟩:=I.loc;obtain⟨u,r,l⟩:=hl j x v hN e2'' (.inr (.inl hcell));refine⟨u,r,.inr ⟨.inl ?_,?_⟩⟩
    ·show(qb X.env sc).names.lookup x=some .cell;rw[kJ,hfrx];have h1:X.env.kindOf x=some .cell:=hcell;have h2:X.env.scope.kind=.function:=C.ekind;simp[h1,h2]
    rcases l with⟨k,_⟩|⟨_,c,ec,ic⟩
    ·have h1:X.env.kindOf x=some .cell:=hcell;rw[h1]at k;cases k
    obtain⟨o,ho,hd⟩:=ic;exact⟨c,uV hfr ec hm,o,hk c o ho,hd⟩
 ·obtain⟨v,o,ho,hd⟩:=I.cell x c (clo e);exact⟨v,o,hk c o ho,hd⟩
 unfold cu;rw[a_];exact C.len
noncomputable def PTs(X:Cx)(ifs:List QQ)(t:TT):Prop:=
 ∀(pins:List (QA×Obj)) (s:QB) (σ:St) (H:Hp) (Q:Bool->Hp->Prop),Inv X pins σ H s->t σ H Q->
  QG (QM X.prog X.w) X.A (forIn ifs true fun c r=>if r=true then do let ok <-Vh c X.env (Q9 c X.env);pure (QV ok)else pure (QV r)) (TP X pins σ Q) X.xe s
noncomputable def Lo:TT:=fun _ H Q=>Q true H
theorem EO:PTs X [] Lo:=fun pins s σ H Q I h=>wpAny_tests_nil ⟨H,I,h⟩
theorem Fc{c:QQ}{t:TT}(h:PT X c t):PTs X [c] t:=fun pins s σ H Q I q=>wpAny_tests_one (h pins s σ H Q I q)
noncomputable def Jq(J:It)(fr:List (Option Nat))(g:QB->Hp->List QA->TG)(tt:QB->Hp->List QA->TT)(te:QB->Hp->List QA->TE)(σ:St)(H1:Hp)(Q:VK):Prop:=∀p,H1 p=none->∀s3 H3' fp,∃W:Nat->Nat->St->Hp->Prop,(∃m,W 0 m (cu fr σ) (upd H1 p (.lst [])))/\∀i m σ' H',W i m σ' H'->
 (J.stop i H'/\Q (.ref p) H')\/(J.go i H'/\∀x H2,J.yld i H' x H2->g s3 H3' fp x σ' H2 fun σ2 H3=>tt s3 H3' fp σ2 H3 fun b H4=>
  if b=true then te s3 H3' fp σ2 H4 fun v H5=>∃ys,H5 p=some (.lst ys)/\ys.length<sizeLine/\∃m',m'<m/\W (i+1) m' σ2 (upd H5 p (.lst (ys++[v])))else ∃m',m'<m/\W (i+1) m' σ2 H4)
noncomputable def yH(wi:TI)(fr:List (Option Nat))(g:QB->Hp->List QA->TG)(tt:QB->Hp->List QA->TT)(te:QB->Hp->List QA->TE):TE:=fun σ H Q=>wi σ H fun J H1=>Jq J fr g tt te σ H1 Q
variable {te:QB->Hp->List QA->TE}{tt:QB->Hp->List QA->TT}{wi:TI}
theorem Fp(N':List Str)(fr:List (Option Nat)){g:QB->Hp->List QA->TG}(hc:X.calm=true)(C:jX X.N X.env.scope sc N' fr=true)
  (hi:PI X target iter wi) (hg:∀s3 H3 fp,PG (aZ X N' sc s3 H3 fp) target (g s3 H3 fp)) (ht:∀s3 H3 fp,PTs (aZ X N' sc s3 H3 fp) ifs (tt s3 H3 fp)) (he:∀s3 H3 fp,PE (aZ X N' sc s3 H3 fp) elt (te s3 H3 fp))
  (hs:∀x,Ry iter X.env x=pure x:=by intro _;rfl):PE X (.ListComp elt [⟨target,iter,ifs,0⟩] sc pos) (yH wi fr g tt te):=by
 have C:=sA C;intro pins s σ H Q I h;rw[eval_ListComp];have hfr:∀x∈sc.names,x.2=.free->∃c,X.env.cells.lookup x.1=some c:=fun x hx e=>I.ok.has x.1 (.inl (C.free x hx e));refine o6 (g:=⟨target,iter,ifs,0⟩) (gs:=[]) rfl hs C.nocell hfr C.kind C.names ?_;show QG _ _ (Q9 iter X.env) _ _ s;refine thn (hi pins s σ H _ I h) fun v s1 h1=>thn h1 fun itv s2 h2=>?_;obtain⟨it,fp,tn,J,H2,e,I2,T,st2,f2,k2⟩:=h2;subst e;refine Sy ?_ (by show 0<=sizeLine;decide);have hf:H2 s2.heap.objs.size=none:=I2.hok.fresh (b_ _);obtain⟨W,⟨m0,w0⟩,turn⟩:=k2 _ hf {s2 with heap:=s2.heap.push { cls:=.type "list",data:=.seq ([]:List Qy).toArray} } (upd H2 s2.heap.objs.size (.lst [])) fp;have kp:∀b u,s2.heap.get? b=some u->(s2.heap.push { cls:=.type "list",data:=.seq ([]:List Qy).toArray}).get? b=some u:=fun b u e=>QD _ e;have I3:Inv X pins σ (upd H2 s2.heap.objs.size (.lst [])) {s2 with heap:=s2.heap.push { cls:=.type "list",data:=.seq ([]:List Qy).toArray} }:=
  I2.laid (t':=s2.toks) kp (b_ _) ⟨D' _,[],0,.nil,QH _ rfl⟩
 have obj2:=T.obj 0 s2.heap st2;have fpne:∀b∈fp,b≠s2.heap.objs.size:=fun b hb=>by obtain⟨o,ho,_⟩:=obj2 b hb;exact v_ (QK ho)
 have f3:∀b∈fp,lg X pins (upd H2 s2.heap.objs.size (.lst [])) b:=fun b hb=>⟨by rw[aP (fpne b hb)];exact(f2 b hb).1,(f2 b hb).2⟩
 have st3:=T.keep 0 s2.heap _ st2 fun b hb o e=>kp b o e;have obj3:=T.obj 0 _ st3;intro h4 hn4 hk4;have st4:=T.keep 0 _ h4 st3 fun b hb o e=>hk4 b o e;have I4:=vL (N':=N') (fr:=fr) (fp:=fp) I3 C hc f3 (fun b hb=>let ⟨o,ho,_⟩:=obj3 b hb;⟨o,ho⟩) hn4 hk4;have stat:∀{H':Hp},(∀b∈fp,H' b=none)->∀b∈fp,lg (aZ X N' sc {s2 with heap:=s2.heap.push { cls:=.type "list",data:=.seq ([]:List Qy).toArray} } (upd H2 s2.heap.objs.size (.lst [])) fp) [] H' b:=fun hn b hb=>
  ⟨hn b hb,(I4.ok.exf b hb).1,I4.ok.exfs b hb,.inl hb,(I4.ok.exf b hb).2,fun p hp=>(nomatch hp)⟩
 have loop:Sx (QM X.prog X.w) X.A (.compLoop (.ListComp elt [⟨target,iter,ifs,0⟩] sc pos) 0 (.ref it) (.ref s2.heap.objs.size) (compEnv X.env sc (s2.heap.push { cls:=.type "list",data:=.seq ([]:List Qy).toArray}).objs.size))
   (fun r s'=>∃m,s'.heap.Ns (s2.heap.push { cls:=.type "list",data:=.seq ([]:List Qy).toArray}).objs.size m/\∀h',Rt (s2.heap.push { cls:=.type "list",data:=.seq ([]:List Qy).toArray}).objs.size s'.heap h'->
    match r with | .ok _=>EP X pins σ Q (.ref s2.heap.objs.size) {s' with heap:=h'} | .error x=>False) {s2 with heap:=h4}:=by
  refine oB (fun n s'=>∃i σ' H',Inv (aZ X N' sc {s2 with heap:=s2.heap.push { cls:=.type "list",data:=.seq ([]:List Qy).toArray} } (upd H2 s2.heap.objs.size (.lst [])) fp) [] σ' H' s'/\tn i s'.heap/\(∀b∈fp,H' b=none)/\W i n σ' H') ?_ m0
   ⟨0,_,_,I4,st4,fun b hb=>(f3 b hb).1,w0⟩
  rintro n s5 ⟨i,σ5,H5,I5,st5,fr5,w5⟩;rcases turn i n σ5 H5 w5 with⟨stop,q⟩|⟨go,step⟩
  ·refine thn (T.done (aZ X N' sc _ _ fp) rfl rfl rfl rfl i [] s5 σ5 H5 (fun _ _=>False) I5 (stat fr5) st5 stop) ?_;rintro r s6 ⟨hr,I6⟩;subst hr;obtain⟨m6,hn6,_⟩:=id I6.loc;refine⟨m6,hn6,fun h' hs'=>?_⟩;have hL:H5 (s2.heap.push { cls:=.type "list",data:=.seq ([]:List Qy).toArray}).objs.size=none:=I6.free;have hok':HOk X.prog X.w H5 h':=fun b u e=>by
    refine(I6.hok b u e).oJ (fun c v hc q=>(hs'.2 c ?_).trans q) (fun _ q=>q) fun _ _ q=>q;rintro rfl;rcases hc with rfl|hc
    ·rw[hL]at e;cases e
    rw[hL]at hc;cases hc
   have ub:=I6.base;have lt:∀b o,(s2.heap.push { cls:=.type "list",data:=.seq ([]:List Qy).toArray}).get? b=some o->b≠(s2.heap.push { cls:=.type "list",data:=.seq ([]:List Qy).toArray}).objs.size:=fun b o e=>v_ (QK e);have un:Un (frs X.stack) fp (upd H2 s2.heap.objs.size (.lst [])) H5 (s2.heap.push { cls:=.type "list",data:=.seq ([]:List Qy).toArray}) h':=
    ⟨fun b o e n hb hx=>(hs'.2 b (lt b o e)).trans (ub.keep b o e n hb hx),fun b o e n hb hx=>let ⟨sl,z⟩:=ub.slot b o e n hb hx;⟨sl,(hs'.2 b (lt b o e)).trans z⟩,ub.free,
     fun b o e hx=>let ⟨o',z⟩:=ub.there b o e hx;⟨o',(hs'.2 b (lt b o e)).trans z⟩,ub.tups,ub.frzs,ub.tbls⟩
   refine⟨.ref s2.heap.objs.size,H5,I3.Gm (s':={s6 with heap:=h'}) (ch:=fp) I6.os un hok' I6.bare (fun b hb=>?_),rfl,q⟩;obtain⟨_,g1,g2,g3,g4,g5⟩:=f3 b hb;exact⟨g3,g1,g4,g5⟩
  refine thn (T.item (aZ X N' sc _ _ fp) rfl rfl rfl rfl i [] s5 σ5 H5 (fun _ _=>False) I5 (stat fr5) st5 go) ?_;rintro r s6 ⟨u,hr,h6⟩;subst hr;refine thn h6 ?_;rintro _ s7 ⟨x,H7,I7,r7,y7,st7,fr7⟩;have I7':=I7.pinned (stat fr7) (T.obj _ _ st7);have again:∀{σ8:St}{H8:Hp}{s8:QB},Inv (aZ X N' sc {s2 with heap:=s2.heap.push { cls:=.type "list",data:=.seq ([]:List Qy).toArray} } (upd H2 s2.heap.objs.size (.lst [])) fp) ([]++m7 fp s7.heap) σ8 H8 s8->(∃m',m'<n/\W (i+1) m' σ8 H8)->
    ∃m,m<n/\∃i σ' H',Inv (aZ X N' sc {s2 with heap:=s2.heap.push { cls:=.type "list",data:=.seq ([]:List Qy).toArray} } (upd H2 s2.heap.objs.size (.lst [])) fp) [] σ' H' s8/\tn i s8.heap/\(∀b∈fp,H' b=none)/\W i m σ' H':=fun{σ8 H8 s8} I8 ⟨m',hm,w8⟩=>by
   refine⟨m',hm,i+1,σ8,H8,I8.gm,T.keep _ _ _ st7 fun b hb o e=>(I8.pin (b,o) (n_ _ (n_ _ (cH hb e)))).1,fun b hb=>?_,w8⟩;obtain⟨o,e,d⟩:=T.obj _ _ st7 b hb;exact(I8.pin (b,o) (n_ _ (n_ _ (cH hb e)))).2.1
  refine thn (hg _ _ fp _ s7 σ5 H7 x u _ I7' r7 (step x H7 y7)) ?_;rintro _ s8 ⟨σ8,H8,I8,q8⟩;refine thn (ht _ _ fp _ s8 σ8 H8 _ I8 q8) ?_;rintro ok s9 ⟨H9,I9,q9⟩;cases ok with
  |false=>exact again I9 q9
  |true=>
   refine thn (he _ _ fp _ s9 σ8 H9 _ I9 q9) ?_;rintro y s10 ⟨v,H10,I10,r10,ys,hys,hl,q10⟩;refine thn (mM _ s10 σ8 H10 (.ref s2.heap.objs.size) [v] (.ref s2.heap.objs.size) [y] (fun _ H'=>∃m',m'<n/\W (i+1) m' σ8 H') I10 rfl (.cons r10 .nil) ⟨_,ys,v,rfl,rfl,hys,hl,q10⟩) ?_;rintro z s11 ⟨_,H11,I11,_,q11⟩;exact again I11 q11
 refine UP loop ?_;exact T.self X.A 0 _ _ _ st4 loop
noncomputable def SqG(b:Bool)(K:Qz)(H:Hp)(a:QA)(xs:List V):Prop:=match b with
 |true=>SqT K H a xs
 |false=>SqL K H a xs
variable {a:QA}{b:Bool}{xs ys:List V}
section
variable{X:Cx}{pins:List (QA×Obj)}{σ:St}{H:Hp}{s:QB}
theorem Inv.sq (I:Inv X pins σ H s)(h:SqG b X.K H a xs):∃its:List Qy,Vals xs its/\ZG.Sq b s.heap a its.toArray/\xs.length<=sizeLine:=by
 cases b with
 |true=>exact I.tuple h
 |false=>
  obtain⟨its,r,p,z⟩:=I.list h;exact⟨its,r,p.isList,z⟩
theorem Inv.Bm (I:Inv X pins σ H s)(h:SqG b X.K H a xs)(h':SqG b X.K H a ys):xs=ys:=by
 cases b with
 |true=>exact I.fm h h'
 |false=>exact I.qI h h'
theorem Inv.Gz (I:Inv X pins σ H s){b:QA}{u:HO}(h:Rd H a u)(f:lg X pins H b):a≠b:=by
 rintro rfl;rcases h with h|⟨o,h⟩
 ·rw[f.1]at h;cases h
 rw[f.1]at h;cases h
theorem Inv.Jx (I:Inv X pins σ H s){b:QA}{o:Obj}(h:X.K.lookup a=some o)(f:lg X pins H b):a≠b:=by
 rintro rfl;have e:X.base.get? a=some o:=I.ok.mod.kin a o h;rcases f.2.2.2.1 with z|z
 ·exact I.ok.noex a o e z
 exact absurd (z_ (QK (I.ok.bs a o e).1) z) (MJ _)
theorem Inv.cW (I:Inv X pins σ H s){c:QA}(h:SqG b X.K H a xs)(f:lg X pins H c):a≠c:=by
 cases b with
 |true=>
  rcases h with h|⟨o,its,n,hk,_⟩
  ·exact I.Gz h f
  ·exact I.Jx hk f
 |false=>
  rcases h with h|⟨o,its,n,hk,_⟩
  ·exact I.Gz h f
  exact I.Jx hk f
end
noncomputable def Itz(K:Qz)(b1:Bool)(a1:QA)(b2:Bool)(a2:QA):It:=
  ⟨fun i H=>∃xs ys x y,SqG b1 K H a1 xs/\SqG b2 K H a2 ys/\xs[i]?=some x/\ys[i]?=some y,
   fun i H v H'=>∃p x y,H p=none/\v=.ref p/\H'=upd H p (.tup [x,y])/\(∀xs,SqG b1 K H a1 xs->xs[i]?=some x)/\∀ys,SqG b2 K H a2 ys->ys[i]?=some y,
   fun i H=>∃xs ys,SqG b1 K H a1 xs/\SqG b2 K H a2 ys/\(xs.length<=i\/ys.length<=i)⟩
structure Off5 (z TI TO i1 i2:QA):Prop where
 a1:TI≠z
 a2:TO≠z
 a3:i1≠z
 a4:i2≠z
 a5:TI≠TO
 a6:TI≠i1
 a7:TI≠i2
 a8:TO≠i1
 a9:TO≠i2
 b1:i1≠i2
variable {K:Qz}{P:QL}{es:List QQ}{w:QP}
theorem Bz{x1:Nat}{tp:Pos}(b1:Bool)(a1:QA)(b2:Bool)(a2 z TI TO i1 i2:QA)(D:Off5 z TI TO i1 i2) :
  Turn P w K (.Tuple es x1 tp) (Itz K b1 a1 b2 a2) [z,TI,TO,i1,i2] z (fun i h=>SN h z TI TO .none/\RO h TI (.ref i1) (.ref i2)/\(∃a b,RO h TO a b)/\ZG.Dr b1 h i1 a1 i/\ZG.Dr b2 h i2 a2 i) where
 mem:=by simp
 obj:=fun i h st b hb=>by
  obtain⟨hz,hi,⟨a,c,ho⟩,d1,d2⟩:=st;have hb:b=z\/b=TI\/b=TO\/b=i1\/b=i2:=by simpa using hb
  rcases hb with rfl|rfl|rfl|rfl|rfl
  ·exact⟨_,hz,fun v e=>by cases (show Xs _=Vj v from e)⟩
  ·exact⟨_,hi,fun v e=>by cases (show W8 _ _=Vj v from e)⟩
  ·exact⟨_,ho,fun v e=>by cases (show W8 _ _=Vj v from e)⟩
  ·exact d1.some
  exact d2.some
 keep:=fun i h h' st k=>by obtain⟨hz,hi,⟨a,c,ho⟩,d1,d2⟩:=st;exact⟨k z (by simp) _ hz,k TI (by simp) _ hi,⟨a,c,k TO (by simp) _ ho⟩,d1.at fun o e=>k i1 (by simp) o e,d2.at fun o e=>k i2 (by simp) o e⟩
 item:=by
  intro X hP hw hK hc i pins s σ H E I hf st hg;subst hP hw hK;obtain⟨xs,ys,x,y,q1,q2,hx,hy⟩:=hg;obtain⟨its,rv,p1,z1⟩:=I.sq q1;obtain⟨jts,sv,p2,z2⟩:=I.sq q2;obtain⟨u,hu,ru⟩:=rv.get hx;obtain⟨v,hv,rw'⟩:=sv.get hy;obtain⟨hz,hi,⟨a,c,ho⟩,d1,d2⟩:=st;have fz:=hf z (by simp);have fTI:=hf TI (by simp);have fTO:=hf TO (by simp);have f1:=hf i1 (by simp);have f2:=hf i2 (by simp);have DD:ZG.Off z TI TO i1 i2 a1 a2:=⟨D.a1,D.a2,D.a3,D.a4,D.a5,D.a6,D.a7,D.a8,D.a9,D.b1,I.cW q1 fz,I.cW q1 fTO,I.cW q1 f1,I.cW q1 f2,I.cW q2 fz,I.cW q2 fTO,I.cW q2 f1,I.cW q2 f2⟩;refine ZG.wJ DD hz hi ho d1 d2 p1 p2 (by simpa using hu) (by simpa using hv) fun g gz gO g1 g2 gT gs gk=>⟨_,rfl,?_⟩
  refine wpAny_letOwnedTupleGo_zip (s:={s with heap:=g}) gz fun h' hz' hs'=>?_;have hfresh:H s.heap.objs.size=none:=I.hok.fresh (b_ _);have zT:s.heap.objs.size≠z:=Nz (QK hz);have kp:∀b o,b ∉ [z,TI,TO,i1,i2]->s.heap.get? b=some o->h'.get? b=some o:=fun b o hb e=>by
   have n:b≠z/\b≠TI/\b≠TO/\b≠i1/\b≠i2:=by simpa using hb
   exact hs'.extBut _ _ n.1 (gk b o n.1 n.2.2.1 n.2.2.2.1 n.2.2.2.2 e)
  have hT:h'.get? s.heap.objs.size=some { cls:=.type "tuple",data:=.seq #[u,v] }:=hs'.extBut _ _ zT gT;have notfp:∀b o,H b=some o->b ∉ [z,TI,TO,i1,i2]:=fun b o e hb=>by have:=(hf b hb).1;rw[e]at this;cases this
  have ne:∀b o,s.heap.get? b=some o->b≠s.heap.objs.size:=fun b o e=>v_ (QK e);have nt:∀b o,H b=some o->b≠s.heap.objs.size:=fun b o e=>bK e hfresh;have I1:Inv X pins σ (upd H s.heap.objs.size (.tup [x,y])) {s with heap:=h'}:=by
   refine I.step (g':=s.gens) (d':=s.drawn) (t':=s.toks) (ch:=[z,TI,TO,i1,i2]) (fun b hb=>?_) (fun b o _ _ hc e _=>kp b o hc e) (fun b o _ _ hc e _=>⟨o.slots,kp b o hc e⟩)
    (fun b o _ e n=>by rw[aP (ne b o e)];exact n) (fun b o hc e=>⟨o,kp b o hc e⟩) (fun b zs e=>by rw[aP (nt b _ e)];exact e) (fun b o u e=>by rw[aP (nt b _ e)];exact e)
    (fun b ps e=>⟨#[],by rw[aP (nt b _ e),e];simp⟩) (fun m hm=>?_) (fun b o e=>?_) I.bare
   ·obtain⟨g0,g1,g2,g3,g4,g5⟩:=hf b hb;exact⟨g3,g1,g4,g5⟩
   ·obtain⟨o,es,ep,ho',r⟩:=hm;exact⟨o,es,ep,kp _ o (fun hb=>(hf _ hb).2.1 rfl) ho',r⟩
   by_cases hb:b=s.heap.objs.size
   ·subst hb;rw[aQ]at e;cases e;exact⟨by show 2<=sizeLine;decide,[u,v],.cons ru (.cons rw' .nil),_,hT,rfl,_,rfl⟩
   rw[aP hb]at e;refine(I.hok b o e).oJ (fun c' w' hc' q=>kp c' w' ?_ q) (fun c' q=>by rw[aP (nt c' _ q)];exact q) fun c' zs q=>by rw[aP (nt c' _ q)];exact q
   rcases hc' with rfl|hc'
   ·exact notfp _ _ e
   exact notfp _ _ hc'
  refine⟨.ref s.heap.objs.size,_,I1,rfl,⟨s.heap.objs.size,x,y,hfresh,rfl,rfl,fun zs hq=>by rw[I.Bm hq q1];exact hx,fun zs hq=>by rw[I.Bm hq q2];exact hy⟩,?_,fun b hb=>?_⟩
  ·exact⟨hz',hs'.extBut _ _ D.a1 (gk _ _ D.a1 D.a5 D.a6 D.a7 hi),⟨_,_,hs'.extBut _ _ D.a2 gO⟩,g1.ext hs'.extBut D.a3,g2.ext hs'.extBut D.a4⟩
  have hb0:=(hf b hb).1;have hb':b=z\/b=TI\/b=TO\/b=i1\/b=i2:=by simpa using hb
  have hlt:∃o,s.heap.get? b=some o:=by
   rcases hb' with rfl|rfl|rfl|rfl|rfl
   ·exact⟨_,hz⟩
   ·exact⟨_,hi⟩
   ·exact⟨_,ho⟩
   ·obtain⟨o,e,_⟩:=d1.some;exact⟨o,e⟩
   obtain⟨o,e,_⟩:=d2.some;exact⟨o,e⟩
  obtain⟨o,e⟩:=hlt;rw[aP (ne b o e)];exact hb0
 done:=by
  intro X hP hw hK hc i pins s σ H E I hf st hg;subst hP hw hK;obtain⟨xs,ys,q1,q2,hn⟩:=hg;obtain⟨its,rv,p1,z1⟩:=I.sq q1;obtain⟨jts,sv,p2,z2⟩:=I.sq q2;obtain⟨hz,hi,⟨a,c,ho⟩,d1,d2⟩:=st;have fz:=hf z (by simp);have fTI:=hf TI (by simp);have fTO:=hf TO (by simp);have f1:=hf i1 (by simp);have f2:=hf i2 (by simp);have DD:ZG.Off z TI TO i1 i2 a1 a2:=⟨D.a1,D.a2,D.a3,D.a4,D.a5,D.a6,D.a7,D.a8,D.a9,D.b1,I.cW q1 fz,I.cW q1 fTO,I.cW q1 f1,I.cW q1 f2,I.cW q2 fz,I.cW q2 fTO,I.cW q2 f1,I.cW q2 f2⟩;have l1:=rv.length;have l2:=sv.length;refine ZG.wW (I.ok.hd hc) DD hz hi ho d1 d2 p1 p2 (hn.elim (fun z=>.inl (by simp;omega)) fun z=>.inr (by simp;omega)) fun g gk=>⟨rfl,?_⟩
  have kp:∀b o,b ∉ [z,TI,TO,i1,i2]->s.heap.get? b=some o->g.get? b=some o:=fun b o hb e=>by
   have n:b≠z/\b≠TI/\b≠TO/\b≠i1/\b≠i2:=by simpa using hb
   exact gk b o n.1 n.2.2.1 n.2.2.2.1 n.2.2.2.2 e
  have notfp:∀b o,H b=some o->b ∉ [z,TI,TO,i1,i2]:=fun b o e hb=>by have:=(hf b hb).1;rw[e]at this;cases this
  refine I.step (g':=s.gens) (d':=s.drawn) (t':=s.toks) (ch:=[z,TI,TO,i1,i2]) (fun b hb=>?_) (fun b o _ _ hc e _=>kp b o hc e) (fun b o _ _ hc e _=>⟨o.slots,kp b o hc e⟩)
   (fun b o _ e n=>n) (fun b o hc e=>⟨o,kp b o hc e⟩) (fun b zs e=>e) (fun b o u e=>e) (fun b ps e=>⟨#[],by rw[e];simp⟩) (fun m hm=>?_) (fun b o e=>?_) I.bare
  ·obtain⟨g0,g1,g2,g3,g4,g5⟩:=hf b hb;exact⟨g3,g1,g4,g5⟩
  ·obtain⟨o,es,ep,ho',r⟩:=hm;exact⟨o,es,ep,kp _ o (fun hb=>(hf _ hb).2.1 rfl) ho',r⟩
  refine(I.hok b o e).oJ (fun c' w' hc' q=>kp c' w' ?_ q) (fun c' q=>q) fun c' zs q=>q;rcases hc' with rfl|hc'
  ·exact notfp _ _ e
  exact notfp _ _ hc'
 self:=fun _ _ _ _ _ st h=>VR st.1 h
noncomputable def LH(K:Qz)(ta:TA):TI:=fun σ H R=>ta σ H fun vs H1=>∃b1 a1 b2 a2,vs=[.ref a1,.ref a2]/\(∃xs,SqG b1 K H1 a1 xs)/\(∃ys,SqG b2 K H1 a2 ys)/\R (Itz K b1 a1 b2 a2) H1
theorem Ir{x1:Nat}{tp:Pos}{a b:QQ}{ta:TA}{p:Pos}(hg:Gl X "zip")(hm:X.mg "zip"=none)(ha:PA X [a,b] ta)(hs:QS [a,b] X.env=[(false,Q9 a X.env),(false,Q9 b X.env)]:=by rfl)(hs2:QS [b] X.env=[(false,Q9 b X.env)]:=by rfl) :
  PI X (.Tuple es x1 tp) (.Call (.Name "zip" p) [a,b] [] pos) (LH X.K ta):=by
 intro pins s σ H R I h;refine Call_ (dN I hg hm boot_zip (R7 (thn (ha pos pins s σ H _ I h) fun us s1 ⟨vs,H1,I1,r1,q1⟩=>?_) (by rw[hs,hs2]) (by rw[hs2];rfl)));obtain⟨b1,a1,b2,a2,e,⟨xs,q1⟩,⟨ys,q2⟩,q⟩:=q1;subst e;cases r1 with
 |cons r rr=>
  cases rr with
  |cons r' rr=>
   cases rr;cases r;cases r';obtain⟨its,rv,p1,z1⟩:=I1.sq q1;obtain⟨jts,sv,p2,z2⟩:=I1.sq q2;refine ZG.Bf p1 p2 fun g gz gi go g1 g2 gs gk=>VR (s:={s1 with heap:=g}) gz ?_;have I2:Inv X pins σ H1 {s1 with heap:=g}:=I1.kept (t':=s1.toks) gk;refine⟨_,_,_,_,H1,rfl,I2,Bz b1 a1 b2 a2 _ (s1.heap.objs.size+2) (s1.heap.objs.size+3) s1.heap.objs.size (s1.heap.objs.size+1) ?_,⟨gz,gi,⟨_,_,go⟩,g1,g2⟩,fun b hb=>?_,q⟩
   ·constructor <;>(show(_:Nat)≠_) <;> omega
   have hb':s1.heap.objs.size<=b:=by
    have z:b=s1.heap.objs.size+4\/b=s1.heap.objs.size+2\/b=s1.heap.objs.size+3\/b=s1.heap.objs.size\/b=s1.heap.objs.size+1:=by simpa using hb
    rcases z with z|z|z|z|z <;> rw[z] <;>(show(_:Nat)<=_) <;> omega
   exact I1.x8 hb' (I1.hok.fresh hb')
noncomputable def bools(bs:List Bool):List V:=bs.map V.bl
variable {i:Nat}{u:Qy}
theorem Am{bs:List Bool}{us:List Qy}(r:Vals (bools bs) us)(h:us[i]?=some u):∃b,bs[i]?=some b/\u=.bool b:=by
 have hl:=r.length;have hi:i<us.length:=(f_.mp h).1;have hb:i<bs.length:=by rw[<-hl]at hi;simpa[bools]using hi
 have e:(bools bs)[i]?=some (.bl bs[i]):=by unfold bools;rw[B',c_ hb];rfl
 obtain⟨u',h',ru⟩:=r.get e;rw[h]at h';cases h';exact⟨bs[i],c_ hb,ru⟩
theorem ya(bs:List Bool):((A_ bs.length).all fun i=>(bs[i]?).getD true)=bs.all id:=by
 have e:bs=(A_ bs.length).map fun i=>(bs[i]?).getD true:=by
  apply List.ext_getElem
  ·simp
  intro i h1 h2;simp[h1]
 conv=>rhs;rw[e,Ng]
 rfl
section
variable{X:Cx}
theorem Dg(hc:X.calm=true):bG X (.builtin "all") (fun xs H Q=>∃a bs,xs=[.ref a]/\SqL X.K H a (bools bs)/\Q (.bl (bs.all id)) H):=by
 intro pins s σ H xs us Q I r h;obtain⟨a,bs,rfl,hq,q⟩:=h;obtain⟨u,rfl,ru⟩:=vals1 r;cases ru;obtain⟨its,rv,p,z⟩:=I.list hq;have hl:=p.isList;have hlt:a<s.heap.objs.size:=by obtain⟨_,e,_⟩:=hl;exact QK e
 have hlen:its.toArray.size=bs.length:=by rw[q_,<-rv.length];simp[bools]
 refine call_all_walk (RW hl ⟨s.heap.objs.size,[s.heap.objs.size,a],[s.heap.objs.size],its.toArray.size,_,_,fun i=>(bs[i]?).getD true,rfl,XC (A:=X.A.in1) (I.ok.hd hc) _ a (v_ hlt) its.toArray,⟨⟨_,QH _ rfl,rfl,rfl⟩,hl.push _⟩,fun i v s' Q' E' hP hQ=>?_,fun h' tk hk=>?_⟩)
 ·obtain⟨b,e,rfl⟩:=Am rv (i:=i) (u:=v) (by simpa using hP);simp only[e,Option.getD_some]at hQ;exact RV hQ
 rw[hlen,ya];exact⟨.bl (bs.all id),H,I.kept (t':=tk) (LSm.kept_iter hk),rfl,q⟩
end
inductive Ty where
 |non|bl|int|str|lst|tup|dct
 deriving DecidableEq
noncomputable def Ty.nm:Ty->String
 | .non=>"NoneType"
 | .bl=>"bool"
 | .int=>"int"
 | .str=>"str"
 | .lst=>"list"
 | .tup=>"tuple"
 | .dct=>"dict"
noncomputable def isA(t c:Ty):Bool:=decide (t=c) || (decide (t=.bl)&&decide (c=.int))
inductive TyG (K:Qz) (H:Hp):V->Ty->Prop where
 |non:TyG K H .non .non
 |bl (b:Bool):TyG K H (.bl b) .bl
 |int (i:Int):TyG K H (.int i) .int
 |str (x:Str):TyG K H (.str x) .str
 |lst {a:QA}{xs:List V} (h:SqL K H a xs):TyG K H (.ref a) .lst
 |tup {a:QA}{xs:List V} (h:SqT K H a xs):TyG K H (.ref a) .tup
 |dct {a:QA}{kvs:List (Key×V)} (h:Rd H a (.dK kvs)):TyG K H (.ref a) .dct
theorem yQ(K:Qz)(t c:Ty):PySem.W.kitOne K (.type t.nm) (.type c.nm)=some (isA t c):=by cases t <;> cases c <;> kernel_rfl
theorem yg(K:Qz)(t:Ty):∀cs:List Ty,Wr K (.type t.nm) (cs.map fun c=>RB c.nm)=some (cs.any (isA t))
 | []=>rfl
 |c::r=>by
  rw[g_,OD];unfold Wr;rw[yQ];cases isA t c with
  |true=>rfl
  |false=>exact yg K t r
section
variable{X:Cx}{pins:List (QA×Obj)}{σ:St}{H:Hp}{s:QB}{A:QY}{E:Qy->QB->Prop}{Q:Qy->QB->Prop}
theorem Vals.tys:∀{cs:List Ty}{us:List Qy},Vals (cs.map fun c=>V.ty c.nm) us->us=cs.map fun c=>RB c.nm
 | [],_,.nil=>rfl
 |c::r,_,.cons h t=>by have e:_=RB c.nm:=h;rw[g_,<-Vals.tys t,e]
noncomputable def zF(K:Qz)(H:Hp)(y:V)(cs:List Ty):Prop:=(∃c,y=.ty c.nm/\cs=[c])\/∃p,y=.ref p/\H p=some (.tup (cs.map fun c=>V.ty c.nm))
theorem Cz{x y:V}{v:Qy}{t:Ty}{cs:List Ty}(I:Inv X pins σ H s)(rx:RelV x u)(ry:RelV y v)(ty:TyG X.K H x t)(ka:zF X.K H y cs)(h:∀tk,Q (.bool (cs.any (isA t))) {s with toks:=tk}) :
  QG (QM X.prog X.w) A (call (.builtin "isinstance") [u,v]) Q E s:=by
 have go:∀{P:QR->Prop},PySem.W.KitX X.K u (.type t.nm) P->P s.heap->u≠.builtin "__main__.__loader__#opaque"->QG (QM X.prog X.w) A (call (.builtin "isinstance") [u,v]) Q E s:=fun{P} Z p hx=>by
  rcases ka with⟨c,rfl,rfl⟩|⟨q,rfl,hq⟩
  ·cases (show v=RB c.nm from ry);have e:([c].any (isA t))=isA t c:=by simp
   exact PySem.W.kia_one Z I.kIn p (yQ X.K t c) hx (fun tk=>by rw[<-e];exact h tk)
  cases (show v=Rc q from ry);obtain⟨_,its,rv,o,ho,hc,n,hd⟩:=(show bg X.prog X.w H s.heap q (.tup _)from I.hok q _ hq);have e:=rv.tys;subst e;obtain⟨c,dd,dt,sl⟩:=o;cases (show c=_ from hc);cases (show dt=_ from hd);exact PySem.W.kia_tup Z I.kIn p ho (yg X.K t cs) hx h
 cases ty with
 |non=>cases (show u=Ra from rx);exact go PySem.W.kitx_none R4 (fun z=>nomatch z)
 |bl y=>cases (show u=VY y from rx);exact go PySem.W.kitx_bool R4 (fun z=>nomatch z)
 |int i=>obtain⟨t,q⟩:=(show ∃t,u=R5 i t from rx);cases q;exact go PySem.W.kitx_int R4 (fun z=>nomatch z)
 |str y=>obtain⟨t,q⟩:=(show ∃t,u=Vg y t from rx);cases q;exact go PySem.W.kitx_str R4 (fun z=>nomatch z)
 | @lst a xs hq=>
  cases (show u=Rc a from rx);obtain⟨_,_,p,_⟩:=I.list hq;obtain⟨o,h1,h2,_⟩:=p.isList;exact go PySem.W.kitx_list ⟨o,h1,h2⟩ (fun z=>nomatch z)
 | @tup a xs hq=>
  cases (show u=Rc a from rx);obtain⟨_,_,p,_⟩:=I.tuple hq;obtain⟨o,h1,h2,_⟩:=p;exact go PySem.W.kitx_tuple ⟨o,h1,h2⟩ (fun z=>nomatch z)
 | @dct a kvs hq=>
  cases (show u=Rc a from rx);obtain⟨_,_,vs,_,p⟩:=(show bg X.prog X.w H s.heap a (.dK kvs)from hq.ok I.hok);obtain⟨o,es,ep,h1,h2,_⟩:=p;exact go PySem.W.kitx_dict ⟨o,h1,h2.1⟩ (fun z=>nomatch z)
theorem ox:bG X (.builtin "isinstance") (fun xs H Q=>∃x y t cs,xs=[x,y]/\TyG X.K H x t/\zF X.K H y cs/\Q (.bl (cs.any (isA t))) H):=by
 intro pins s σ H xs us Q I r h;obtain⟨x,y,t,cs,rfl,ty,ka,q⟩:=h;cases r with
 |cons r rr=>
  cases rr with
  |cons r' rr=>
   cases rr;exact Cz I r r' ty ka fun tk=>⟨.bl (cs.any (isA t)),H,I.tok tk,rfl,q⟩
end
inductive Dt where
 |int (i:Int)|bl (b:Bool)|str (x:Str)|non|lst (ds:List Dt)|tup (ds:List Dt)
mutual
def Has(K:Qz)(H:Hp):Dt->V->Prop
 | .int i,v=>v=.int i
 | .bl b,v=>v=.bl b
 | .str x,v=>v=.str x
 | .non,v=>v=.non
 | .lst ds,v=>∃a xs,v=.ref a/\SqL K H a xs/\bV K H ds xs
 | .tup ds,v=>∃a xs,v=.ref a/\SqT K H a xs/\bV K H ds xs
def bV(K:Qz)(H:Hp):List Dt->List V->Prop
 | [],xs=>xs=[]
 |d::r,xs=>∃x t,xs=x::t/\Has K H d x/\bV K H r t
end
mutual
def dpt:Dt->Nat
 | .lst ds=>fX ds+1
 | .tup ds=>fX ds+1
 | _=>0
def fX:List Dt->Nat
 | []=>0
 |d::r=>max (dpt d) (fX r)
end
mutual
def eqD:Dt->Dt->Bool
 | .int a,.int b=>a == b
 | .int a,.bl b=>a ==(if b then 1 else 0)
 | .bl a,.int b=>(if a then 1 else 0) == b
 | .bl a,.bl b=>a == b
 | .str a,.str b=>a == b
 | .non,.non=>true
 | .lst xs,.lst ys=>eqL xs ys
 | .tup xs,.tup ys=>eqL xs ys
 | _,_=>false
def eqL:List Dt->List Dt->Bool
 | [],[]=>true
 |x::xs,y::ys=>eqD x y&&eqL xs ys
 | _,_=>false
end
mutual
theorem kO:∀d:Dt,eqD d d=true
 | .int a=>by simp[eqD]
 | .bl a=>by simp[eqD]
 | .str a=>by simp[eqD]
 | .non=>by simp[eqD]
 | .lst xs=>by rw[eqD];exact pA xs
 | .tup xs=>by rw[eqD];exact pA xs
theorem pA:∀ds:List Dt,eqL ds ds=true
 | []=>by simp[eqL]
 |d::r=>by rw[eqL,kO d,pA r];rfl
end
variable {H:Hp}
theorem bV.len :∀{ds:List Dt}{xs:List V},bV K H ds xs->ds.length=xs.length
 | [],xs,h=>by rw[bV]at h;rw[h];rfl
 |d::r,xs,h=>by rw[bV]at h;obtain⟨x,t,rfl,_,ht⟩:=h;rw[h_,h_,bV.len ht]
theorem bV.get :∀{ds:List Dt}{xs:List V}{i:Nat}{d:Dt}{x:V},bV K H ds xs->ds[i]?=some d->xs[i]?=some x->Has K H d x
 | [],xs,i,d,x,h,e,_=>by simp at e
 |c::r,xs,0,d,x,h,e,f=>by rw[bV]at h;obtain⟨y,t,rfl,hy,ht⟩:=h;simp at e f;subst e f;exact hy
 |c::r,xs,i+1,d,x,h,e,f=>by rw[bV]at h;obtain⟨y,t,rfl,hy,ht⟩:=h;exact bV.get ht (i:=i) (by simpa using e) (by simpa using f)
variable {H':Hp}
theorem SqL.same (e:bI H H')(h:SqL K H a xs):SqL K H' a xs:=e.seq h
theorem SqT.same (e:bI H H')(h:SqT K H a xs):SqT K H' a xs:=by
 rcases h with (h|⟨o,h⟩)|h
 ·exact .inl (.inl (e _ _ h))
 ·exact .inl (.inr ⟨o,e _ _ h⟩)
 exact .inr h
theorem SqG.same (e:bI H H')(h:SqG b K H a xs):SqG b K H' a xs:=by
 cases b with
 |true=>exact SqT.same e h
 |false=>exact SqL.same e h
theorem vt:bV K H [] []:=by rw[bV]
variable {d:Dt}
theorem sZ{r:List Dt}{x:V}{t:List V}(h:Has K H d x)(g:bV K H r t):bV K H (d::r) (x::t):=by rw[bV];exact⟨x,t,rfl,h,g⟩
noncomputable def di(ns:List Int):List Dt:=ns.map Dt.int
theorem rP{K:Qz}{H:Hp}:∀ns:List Int,bV K H (di ns) (ns.map V.int)
 | []=>vt
 |n::r=>sZ (by rw[Has]) (rP r)
variable {ns:List Int}{p:QA}
theorem wy(h:SqL K H p (ns.map V.int)):Has K H (.lst (di ns)) (.ref p):=by rw[Has];exact⟨p,_,rfl,h,rP ns⟩
theorem rD:∀ns:List Int,fX (di ns)=0
 | []=>by simp[di,fX]
 |n::r=>by have ih:=rD r;show fX (Dt.int n::di r)=0;simp[fX,dpt,ih]
theorem wm:∀{ds:List Dt}{i:Nat}{d:Dt},ds[i]?=some d->dpt d<=fX ds
 | [],i,d,e=>by simp at e
 |c::r,0,d,e=>by simp at e;subst e;rw[fX];exact Nat.le_max_left _ _
 |c::r,i+1,d,e=>by have q:dpt d<=fX r:=wm (i:=i) (by simpa using e);rw[fX];exact t_ q (Nat.le_max_right _ _)
theorem mK:∀(ds es:List Dt),ds.length=es.length->((A_ ds.length).all fun j=>eqD (ds.getD j .non) (es.getD j .non))=eqL ds es
 | [],[],_=>by simp[eqL]
 | [],e::r,h=>by simp at h
 |d::r,[],h=>by simp at h
 |d::r,e::t,h=>by
  have h':r.length=t.length:=by simpa using h
  rw[eqL,<-mK r t h',h_,List.range_succ_eq_map,OE,Ng]
  rfl
theorem uT:∀{ds es:List Dt},eqL ds es=true->ds.length=es.length
 | [],[],_=>rfl
 | [],e::r,h=>by simp[eqL]at h
 |d::r,[],h=>by simp[eqL]at h
 |d::r,e::t,h=>by rw[eqL,LW]at h;rw[h_,h_,uT h.2]
theorem vi:∀(ds es:List Dt),(((A_ (min ds.length es.length)).all fun j=>eqD (ds.getD j .non) (es.getD j .non))&&ds.length == es.length)=eqL ds es:=by
 intro ds es;by_cases h:ds.length=es.length
 ·rw[<-mK ds es h,h,Nat.min_self];simp
 have:eqL ds es=false:=Nv.mpr fun z=>h (uT z);rw[this];have:(ds.length == es.length)=false:=by simpa using h
 rw[this,P_]
variable {A:QY}{ds:List Dt}
section
variable{X:Cx}{pins:List (QA×Obj)}{σ:St}{H:Hp}{s:QB}
theorem vX(n:Nat)(hA:A.units+1+n<cLine+1)(I:Inv X pins σ H s){es:List Dt}{its jts:List Qy}(h1:bV X.K H ds xs)(h2:bV X.K H es ys)(r1:Vals xs its)(r2:Vals ys jts)
  (rec:∀d e x y u v,d∈ds->e∈es->Has X.K H d x->Has X.K H e y->RelV x u->RelV y v->Uh A.in1 s u v (eqD d e)) :
  ∀j (g1:j<its.toArray.size) (g2:j<jts.toArray.size),Uh A.in1 s its.toArray[j] jts.toArray[j] (eqD (ds.getD j .non) (es.getD j .non)):=by
 intro j g1 g2;have l1:=r1.length;have l2:=r2.length;have m1:=h1.len;have m2:=h2.len;have g1':j<its.length:=by simpa using g1
 have g2':j<jts.length:=by simpa using g2
 have a1:j<xs.length:=by lia
 have a2:j<ys.length:=by lia
 have b1:j<ds.length:=by lia
 have b2:j<es.length:=by lia
 obtain⟨u,hu,ru⟩:=r1.get (c_ a1);obtain⟨v,hv,rv⟩:=r2.get (c_ a2);rw[c_ g1']at hu;rw[c_ g2']at hv;cases hu;cases hv;have e1:ds.getD j .non=ds[j]:=by simp[LY,b1]
 have e2:es.getD j .non=es[j]:=by simp[LY,b2]
 rw[e1,e2];have:=rec ds[j] es[j] xs[j] ys[j] its[j] jts[j] (Mo b1) (Mo b2) (h1.get (c_ b1) (c_ a1)) (h2.get (c_ b2) (c_ a2)) ru rv;simpa using this
theorem yt(h:d∈ds):dpt d<=fX ds:=by obtain⟨i,hi⟩:=List.getElem?_of_mem h;exact wm hi
mutual
theorem Has.inj (I:Inv X pins σ H s):∀{d e:Dt}{x:V},Has X.K H d x->Has X.K H e x->d=e
 | .int a,.int b,x,h1,h2=>by
  rw[Has]at h1;rw[Has]at h2;rw[h1]at h2;cases h2
  rfl
 | .int a,.bl b,x,h1,h2=>by rw[Has]at h1;rw[Has]at h2;rw[h1]at h2;cases h2
 | .int a,.str b,x,h1,h2=>by rw[Has]at h1;rw[Has]at h2;rw[h1]at h2;cases h2
 | .int a,.non,x,h1,h2=>by rw[Has]at h1;rw[Has]at h2;rw[h1]at h2;cases h2
 | .int a,.lst b,x,h1,h2=>by rw[Has]at h1;rw[Has]at h2;obtain⟨p,xs,e,s1,l1⟩:=h2;rw[h1]at e;cases e
 | .int a,.tup b,x,h1,h2=>by rw[Has]at h1;rw[Has]at h2;obtain⟨p,xs,e,s1,l1⟩:=h2;rw[h1]at e;cases e
 | .bl a,.int b,x,h1,h2=>by rw[Has]at h1;rw[Has]at h2;rw[h1]at h2;cases h2
 | .bl a,.bl b,x,h1,h2=>by
  rw[Has]at h1;rw[Has]at h2;rw[h1]at h2;cases h2
  rfl
 | .bl a,.str b,x,h1,h2=>by rw[Has]at h1;rw[Has]at h2;rw[h1]at h2;cases h2
 | .bl a,.non,x,h1,h2=>by rw[Has]at h1;rw[Has]at h2;rw[h1]at h2;cases h2
 | .bl a,.lst b,x,h1,h2=>by rw[Has]at h1;rw[Has]at h2;obtain⟨p,xs,e,s1,l1⟩:=h2;rw[h1]at e;cases e
 | .bl a,.tup b,x,h1,h2=>by rw[Has]at h1;rw[Has]at h2;obtain⟨p,xs,e,s1,l1⟩:=h2;rw[h1]at e;cases e
 | .str a,.int b,x,h1,h2=>by rw[Has]at h1;rw[Has]at h2;rw[h1]at h2;cases h2
 | .str a,.bl b,x,h1,h2=>by rw[Has]at h1;rw[Has]at h2;rw[h1]at h2;cases h2
 | .str a,.str b,x,h1,h2=>by
  rw[Has]at h1;rw[Has]at h2;rw[h1]at h2;cases h2
  rfl
 | .str a,.non,x,h1,h2=>by rw[Has]at h1;rw[Has]at h2;rw[h1]at h2;cases h2
 | .str a,.lst b,x,h1,h2=>by rw[Has]at h1;rw[Has]at h2;obtain⟨p,xs,e,s1,l1⟩:=h2;rw[h1]at e;cases e
 | .str a,.tup b,x,h1,h2=>by rw[Has]at h1;rw[Has]at h2;obtain⟨p,xs,e,s1,l1⟩:=h2;rw[h1]at e;cases e
 | .non,.int b,x,h1,h2=>by rw[Has]at h1;rw[Has]at h2;rw[h1]at h2;cases h2
 | .non,.bl b,x,h1,h2=>by rw[Has]at h1;rw[Has]at h2;rw[h1]at h2;cases h2
 | .non,.str b,x,h1,h2=>by rw[Has]at h1;rw[Has]at h2;rw[h1]at h2;cases h2
 | .non,.non,x,h1,h2=>rfl
 | .non,.lst b,x,h1,h2=>by rw[Has]at h1;rw[Has]at h2;obtain⟨p,xs,e,s1,l1⟩:=h2;rw[h1]at e;cases e
 | .non,.tup b,x,h1,h2=>by rw[Has]at h1;rw[Has]at h2;obtain⟨p,xs,e,s1,l1⟩:=h2;rw[h1]at e;cases e
 | .lst a,.int b,x,h1,h2=>by rw[Has]at h1;rw[Has]at h2;obtain⟨p,xs,rfl,s1,l1⟩:=h1;cases h2
 | .lst a,.bl b,x,h1,h2=>by rw[Has]at h1;rw[Has]at h2;obtain⟨p,xs,rfl,s1,l1⟩:=h1;cases h2
 | .lst a,.str b,x,h1,h2=>by rw[Has]at h1;rw[Has]at h2;obtain⟨p,xs,rfl,s1,l1⟩:=h1;cases h2
 | .lst a,.non,x,h1,h2=>by rw[Has]at h1;rw[Has]at h2;obtain⟨p,xs,rfl,s1,l1⟩:=h1;cases h2
 | .lst a,.lst b,x,h1,h2=>by rw[Has]at h1;rw[Has]at h2;obtain⟨p,xs,rfl,s1,l1⟩:=h1;obtain⟨q,ys,e,s2,l2⟩:=h2;cases e;have e:=I.qI s1 s2;subst e;rw[bV.inj I l1 l2]
 | .lst a,.tup b,x,h1,h2=>by rw[Has]at h1;rw[Has]at h2;obtain⟨p,xs,rfl,s1,l1⟩:=h1;obtain⟨q,ys,e,s2,l2⟩:=h2;cases e;obtain⟨_,_,pl,_⟩:=I.list s1;obtain⟨_,_,pt,_⟩:=I.tuple s2;obtain⟨o1,g1,c1,_⟩:=pl.isList;obtain⟨o2,g2,c2,_⟩:=pt;rw[g1]at g2;cases g2;rw[c1]at c2;exact absurd c2 (by decide)
 | .tup a,.int b,x,h1,h2=>by rw[Has]at h1;rw[Has]at h2;obtain⟨p,xs,rfl,s1,l1⟩:=h1;cases h2
 | .tup a,.bl b,x,h1,h2=>by rw[Has]at h1;rw[Has]at h2;obtain⟨p,xs,rfl,s1,l1⟩:=h1;cases h2
 | .tup a,.str b,x,h1,h2=>by rw[Has]at h1;rw[Has]at h2;obtain⟨p,xs,rfl,s1,l1⟩:=h1;cases h2
 | .tup a,.non,x,h1,h2=>by rw[Has]at h1;rw[Has]at h2;obtain⟨p,xs,rfl,s1,l1⟩:=h1;cases h2
 | .tup a,.lst b,x,h1,h2=>by rw[Has]at h1;rw[Has]at h2;obtain⟨p,xs,rfl,s1,l1⟩:=h1;obtain⟨q,ys,e,s2,l2⟩:=h2;cases e;obtain⟨_,_,pl,_⟩:=I.list s2;obtain⟨_,_,pt,_⟩:=I.tuple s1;obtain⟨o1,g1,c1,_⟩:=pl.isList;obtain⟨o2,g2,c2,_⟩:=pt;rw[g1]at g2;cases g2;rw[c1]at c2;exact absurd c2 (by decide)
 | .tup a,.tup b,x,h1,h2=>by rw[Has]at h1;rw[Has]at h2;obtain⟨p,xs,rfl,s1,l1⟩:=h1;obtain⟨q,ys,e,s2,l2⟩:=h2;cases e;have e:=I.fm s1 s2;subst e;rw[bV.inj I l1 l2]
theorem bV.inj (I:Inv X pins σ H s):∀{ds es:List Dt}{xs:List V},bV X.K H ds xs->bV X.K H es xs->ds=es
 | [],[],xs,h1,h2=>rfl
 | [],e::r,xs,h1,h2=>by rw[bV]at h1;rw[bV]at h2;obtain⟨y,t,e,_,_⟩:=h2;rw[h1]at e;cases e
 |d::r,[],xs,h1,h2=>by rw[bV]at h1;rw[bV]at h2;obtain⟨y,t,e,_,_⟩:=h1;rw[h2]at e;cases e
 |d::r,e::q,xs,h1,h2=>by rw[bV]at h1;rw[bV]at h2;obtain⟨x,t,rfl,g1,g2⟩:=h1;obtain⟨y,w,z,k1,k2⟩:=h2;cases z;rw[Has.inj I g1 k1,bV.inj I g2 k2]
end
theorem qK{b:QA}{k:Bool}(h:V9 A s (.ref a) (.ref b) k)(hk:a=b->k=true):Uh A s (.ref a) (.ref b) k:=by
 by_cases e:a=b
 ·rw[hk e,e];exact VX _
 exact XT e h
noncomputable def Rz(s:QB):Dt->Qy->Prop
 | .int a,u=>∃t,u=.int a t
 | .bl a,u=>u=.bool a
 | .str a,u=>∃t,u=.str a t
 | .non,u=>u=.none
 | .lst _,u=>∃p its,u=.ref p/\s.heap.IsList p its
 | .tup _,u=>∃p its,u=.ref p/\s.heap.IsTuple p its
noncomputable def knd:Dt->Nat
 | .lst _=>4
 | .tup _=>5
 | _=>0
theorem yc(I:Inv X pins σ H s){x:V}(h:Has X.K H d x)(r:RelV x u):Rz s d u:=by
  cases d <;> rw[Has]at h <;> first
    | (obtain⟨p,xs,rfl,s1,_⟩:=h
       cases r
       first
         | (obtain⟨_,_,pl,_⟩:=I.list s1;exact⟨_,_,rfl,pl.isList⟩)
         | (obtain⟨_,_,pl,_⟩:=I.tuple s1;exact⟨_,_,rfl,pl⟩))
    | (subst h;exact r)
theorem zC{e:Dt}{v:Qy}(hu:A.units<cLine)(h1:Rz s d u)(h2:Rz s e v)(n:knd d≠knd e\/knd d=0):V9 A s u v (eqD d e)/\W9 A s u v (!eqD d e)/\Uh A s u v (eqD d e):=by
 cases d with
 |int a=>
  obtain⟨_,rfl⟩:=h1;cases e with
  |int b=>obtain⟨_,rfl⟩:=h2;simp only[eqD];exact⟨.int_int _ _ _ _,.int_int _ _ _ _,.int_int _ _ _ _⟩
  |bl b=>cases h2;simp only[eqD];exact⟨.int_bool _ _ _,.int_bool _ _ _,.int_bool _ _ _⟩
  |str b=>obtain⟨_,rfl⟩:=h2;simp only[eqD];exact⟨.int_str _ _ _ _,.int_str _ _ _ _,.int_str _ _ _ _⟩
  |non=>cases h2;simp only[eqD];exact⟨.int_none _ _,.int_none _ _,.int_none _ _⟩
  |lst b=>obtain⟨_,_,rfl,hb⟩:=h2;simp only[eqD];exact⟨.int_list _ _ hb hu,.int_list _ _ hb hu,.int_list _ _ hb hu⟩
  |tup b=>obtain⟨_,_,rfl,hb⟩:=h2;simp only[eqD];exact⟨.int_tuple _ _ hb hu,.int_tuple _ _ hb hu,.int_tuple _ _ hb hu⟩
 |bl a=>
  cases h1;cases e with
  |int b=>obtain⟨_,rfl⟩:=h2;simp only[eqD];exact⟨.bool_int _ _ _,.bool_int _ _ _,.bool_int _ _ _⟩
  |bl b=>cases h2;simp only[eqD];exact⟨.bool_bool _ _,.bool_bool _ _,.bool_bool _ _⟩
  |str b=>obtain⟨_,rfl⟩:=h2;simp only[eqD];exact⟨.bool_str _ _ _,.bool_str _ _ _,.bool_str _ _ _⟩
  |non=>cases h2;simp only[eqD];exact⟨.bool_none _,.bool_none _,.bool_none _⟩
  |lst b=>obtain⟨_,_,rfl,hb⟩:=h2;simp only[eqD];exact⟨.bool_list _ hb hu,.bool_list _ hb hu,.bool_list _ hb hu⟩
  |tup b=>obtain⟨_,_,rfl,hb⟩:=h2;simp only[eqD];exact⟨.bool_tuple _ hb hu,.bool_tuple _ hb hu,.bool_tuple _ hb hu⟩
 |str a=>
  obtain⟨_,rfl⟩:=h1;cases e with
  |int b=>obtain⟨_,rfl⟩:=h2;simp only[eqD];exact⟨.str_int _ _ _ _,.str_int _ _ _ _,.str_int _ _ _ _⟩
  |bl b=>cases h2;simp only[eqD];exact⟨.str_bool _ _ _,.str_bool _ _ _,.str_bool _ _ _⟩
  |str b=>obtain⟨_,rfl⟩:=h2;simp only[eqD];exact⟨.str_str _ _ _ _,.str_str _ _ _ _,.str_str _ _ _ _⟩
  |non=>cases h2;simp only[eqD];exact⟨.str_none _ _,.str_none _ _,.str_none _ _⟩
  |lst b=>obtain⟨_,_,rfl,hb⟩:=h2;simp only[eqD];exact⟨.str_list _ _ hb hu,.str_list _ _ hb hu,.str_list _ _ hb hu⟩
  |tup b=>obtain⟨_,_,rfl,hb⟩:=h2;simp only[eqD];exact⟨.str_tuple _ _ hb hu,.str_tuple _ _ hb hu,.str_tuple _ _ hb hu⟩
 |non=>
  cases h1;cases e with
  |int b=>obtain⟨_,rfl⟩:=h2;simp only[eqD];exact⟨.none_int _ _,.none_int _ _,.none_int _ _⟩
  |bl b=>cases h2;simp only[eqD];exact⟨.none_bool _,.none_bool _,.none_bool _⟩
  |str b=>obtain⟨_,rfl⟩:=h2;simp only[eqD];exact⟨.none_str _ _,.none_str _ _,.none_str _ _⟩
  |non=>cases h2;simp only[eqD];exact⟨.none_none,.none_none,.same _⟩
  |lst b=>obtain⟨_,_,rfl,hb⟩:=h2;simp only[eqD];exact⟨.none_list hb hu,.none_list hb hu,.none_list hb hu⟩
  |tup b=>obtain⟨_,_,rfl,hb⟩:=h2;simp only[eqD];exact⟨.none_tuple hb hu,.none_tuple hb hu,.none_tuple hb hu⟩
 |lst a=>
  obtain⟨_,_,rfl,hl⟩:=h1;cases e with
  |int b=>obtain⟨_,rfl⟩:=h2;simp only[eqD];exact⟨.list_int _ _ hl hu,.list_int _ _ hl hu,.list_int _ _ hl hu⟩
  |bl b=>cases h2;simp only[eqD];exact⟨.list_bool _ hl hu,.list_bool _ hl hu,.list_bool _ hl hu⟩
  |str b=>obtain⟨_,rfl⟩:=h2;simp only[eqD];exact⟨.list_str _ _ hl hu,.list_str _ _ hl hu,.list_str _ _ hl hu⟩
  |non=>cases h2;simp only[eqD];exact⟨.list_none hl hu,.list_none hl hu,.list_none hl hu⟩
  |lst b=>simp[knd]at n
  |tup b=>obtain⟨_,_,rfl,hb⟩:=h2;simp only[eqD];exact⟨.list_tuple hl hb hu,.list_tuple hl hb hu,.list_tuple hl hb hu⟩
 |tup a=>
  obtain⟨_,_,rfl,hl⟩:=h1;cases e with
  |int b=>obtain⟨_,rfl⟩:=h2;simp only[eqD];exact⟨.tuple_int _ _ hl hu,.tuple_int _ _ hl hu,.tuple_int _ _ hl hu⟩
  |bl b=>cases h2;simp only[eqD];exact⟨.tuple_bool _ hl hu,.tuple_bool _ hl hu,.tuple_bool _ hl hu⟩
  |str b=>obtain⟨_,rfl⟩:=h2;simp only[eqD];exact⟨.tuple_str _ _ hl hu,.tuple_str _ _ hl hu,.tuple_str _ _ hl hu⟩
  |non=>cases h2;simp only[eqD];exact⟨.tuple_none hl hu,.tuple_none hl hu,.tuple_none hl hu⟩
  |lst b=>obtain⟨_,_,rfl,hb⟩:=h2;simp only[eqD];exact⟨.tuple_list hl hb hu,.tuple_list hl hb hu,.tuple_list hl hb hu⟩
  |tup b=>simp[knd]at n
theorem zZ(I:Inv X pins σ H s):∀(n:Nat) (A:QY) (d e:Dt) (x y:V) (u v:Qy),dpt d<=n->A.units+n<cLine->Has X.K H d x->Has X.K H e y->RelV x u->RelV y v->
  V9 A s u v (eqD d e)/\W9 A s u v (!eqD d e)/\Uh A s u v (eqD d e):=by
 intro n;induction n with
 |zero=>
  intro A d e x y u v hd hA h1 h2 r1 r2;exact zC (by lia) (yc I h1 r1) (yc I h2 r2) (.inr (by cases d <;> first|rfl|(rw[dpt]at hd;lia)))
 |succ n ih=>
  intro A d e x y u v hd hA h1 h2 r1 r2;have hu:A.units<cLine:=by lia
  by_cases k:knd d≠knd e\/knd d=0
  ·exact zC hu (yc I h1 r1) (yc I h2 r2) k
  cases d <;> cases e <;> try (exfalso;simp[knd]at k;done)
  ·rename_i a b;have h1k:=h1;rw[Has]at h1;obtain⟨p,xs,rfl,s1,l1⟩:=h1;cases (show u=Rc p from r1);obtain⟨its,rv1,pl1,z1⟩:=I.list s1;have hl:=pl1.isList;have hd':fX a<=n:=by rw[dpt]at hd;lia
   have h2k:=h2;rw[Has]at h2;obtain⟨q,ys,rfl,s2,l2⟩:=h2;cases (show v=Rc q from r2);obtain⟨jts,rv2,pl2,z2⟩:=I.list s2;have hb:=pl2.isList;have recc:=vX n (A:=A) (by lia) I l1 l2 rv1 rv2 fun d e x y u v hm hm' g1 g2 k1 k2=>(ih A.in1 d e x y u v (t_ (yt hm) hd') (by show A.units+1+n<cLine;lia) g1 g2 k1 k2).2.2
   have m1:=l1.len;have m2:=l2.len;have v1:=rv1.length;have v2:=rv2.length;have self:p=q->eqD (.lst a) (.lst b)=true:=fun z=>by subst z;rw[Has.inj I h1k h2k];exact kO _
   have ee:eqD (.lst a) (.lst b)=eqL a b:=by rw[eqD]
   by_cases hs:its.toArray.size=jts.toArray.size
   ·have hs':a.length=b.length:=by simp at hs;lia
    have hn:its.toArray.size=a.length:=by simp;lia
    have k1:=X6 hl hb hs hu recc;have k2:=XU hl hb hs hu recc;rw[hn,mK a b hs',<-ee]at k1 k2;exact⟨k1,k2,qK k1 self⟩
   have hs':¬a.length=b.length:=by simp at hs;lia
   have hz:(its.toArray.size != jts.toArray.size)=true:=by simpa using hs
   have ef:eqD (.lst a) (.lst b)=false:=by rw[ee];exact Nv.mpr fun z=>hs' (uT z)
   have k1:=W_ hl hb hz hu;have k2:=WQ hl hb hz hu;rw[<-ef]at k1;refine⟨k1,?_,qK k1 self⟩;rw[ef];exact k2
  rename_i a b;have h1k:=h1;rw[Has]at h1;obtain⟨p,xs,rfl,s1,l1⟩:=h1;cases (show u=Rc p from r1);obtain⟨its,rv1,pl1,z1⟩:=I.tuple s1;have hl:s.heap.IsTuple p its.toArray:=pl1;have hd':fX a<=n:=by rw[dpt]at hd;lia
  have h2k:=h2;rw[Has]at h2;obtain⟨q,ys,rfl,s2,l2⟩:=h2;cases (show v=Rc q from r2);obtain⟨jts,rv2,pl2,z2⟩:=I.tuple s2;have hb:s.heap.IsTuple q jts.toArray:=pl2;have recc:=vX n (A:=A) (by lia) I l1 l2 rv1 rv2 fun d e x y u v hm hm' g1 g2 k1 k2=>(ih A.in1 d e x y u v (t_ (yt hm) hd') (by show A.units+1+n<cLine;lia) g1 g2 k1 k2).2.2
  have m1:=l1.len;have m2:=l2.len;have v1:=rv1.length;have v2:=rv2.length;have self:p=q->eqD (.tup a) (.tup b)=true:=fun z=>by subst z;rw[Has.inj I h1k h2k];exact kO _
  have ee:eqD (.tup a) (.tup b)=eqL a b:=by rw[eqD]
  have hn:its.toArray.size=a.length:=by simp;lia
  have hn':jts.toArray.size=b.length:=by simp;lia
  have k1:=XZ hl hb hu recc;have k2:=XM hl hb hu recc;rw[hn,hn',vi a b,<-ee]at k1 k2;exact⟨k1,k2,qK k1 self⟩
end
section
variable{X:Cx}
noncomputable def KU(K:Qz)(A:QY)(neg:Bool):R2:=fun x y H Q=>∃d e,Has K H d x/\Has K H e y/\A.units+dpt d<cLine/\Q (.bl (if neg then !eqD d e else eqD d e)) H
theorem Bx:OpR X (Ro .Eq) (KU X.K X.A false):=by intro pins s σ H x y v u Q I rx ry h;obtain⟨d,e,h1,h2,hA,q⟩:=h;exact(zZ I (dpt d) X.A d e x y v u (b_ _) hA h1 h2 rx ry).1 _ _ _ _ ⟨.bl (eqD d e),H,I,rfl,q⟩
theorem Ht:OpR X (Ro .NotEq) (KU X.K X.A true):=by intro pins s σ H x y v u Q I rx ry h;obtain⟨d,e,h1,h2,hA,q⟩:=h;exact(zZ I (dpt d) X.A d e x y v u (b_ _) hA h1 h2 rx ry).2.1 _ _ _ _ ⟨.bl (!eqD d e),H,I,rfl,q⟩
end
structure Cal (P:QL) (w:QP) (K:Qz) (mg:Str->Option Qy) (base:QR) (k:Nat) (x:Str) (ps:List Str) (sp:Sp):Prop where
 ex:∃(f:QA) (fd:QW),FnOk P w K mg base CX0 k f fd ps sp/\mg x=some (.ref f)/\Ta K (.ref f)=true/\Binds K fd ps []
variable {ps:List Str}{sp:Sp}{x:Str}
theorem J4{j k:Nat}{t:TA}{p:Pos}(D:Cal X.prog X.w X.K X.mg X.base j x ps sp)(hr:Room k X.A)(hg:Gl X x)(ha:PA X (e::es) t)(hjk:j<=k:=by omega)(hdb:(x ==("__debug__":Str))=false:=by decide)
  (he:QS (e::es) X.env=(false,Q9 e X.env)::QS es X.env:=by rfl) (hpl:(SM pos (QS es X.env)).any (·.1)=false:=by rfl):PE X (.Call (.Name x p) (e::es) [] pos) (DJ sp [] E0 t):=by
 obtain⟨f,fd,F,hm,hk,hb⟩:=D.ex;exact Eo F (hr.mono hjk) hg hm hk hb .nil JN ha hdb he hpl
variable {mg:Str->Option Qy}
theorem Cal.imp {base:QR}{k:Nat}{sp':Sp}(D:Cal P w K mg base k x ps sp)(h:∀vs H Q E,sp' vs H Q E->sp vs H Q E):Cal P w K mg base k x ps sp':=by obtain⟨f,fd,F,r⟩:=D.ex;exact⟨f,fd,F.imp h,r⟩
structure Dfn (K:Qz) (mg:Str->Option Qy) (x:Str) (st:Q6) (ps:List Str):Prop where
 ex:∃(f:QA) (fd:QW),Fun K x x st f fd/\mg x=some (.ref f)/\Binds K fd ps []
theorem Dfn.cal {base:QR}{k:Nat}{st:Q6}(D:Dfn K mg x st ps)(h:∀f fd,Fun K x x st f fd->FnOk P w K mg base CX0 k f fd ps sp):Cal P w K mg base k x ps sp:=by obtain⟨f,fd,F,hm,hb⟩:=D.ex;exact⟨f,fd,h f fd F,hm,F.kp,hb⟩
theorem bI.cc :bI H H:=fun _ _ e=>e
variable {H1:Hp}
theorem bI.trans' {H2:Hp}(a:bI H H1)(b:bI H1 H2):bI H H2:=fun c o e=>b c o (a c o e)
theorem bH(h:H p=none)(o:HO):bI H (upd H p o):=fun b u q=>by rw[aP (bK q h)];exact q
theorem bI.none {H H':Hp}(a:bI H H'){p:QA}(h:H' p=none):H p=none:=by
 cases e:H p with
 |none=>rfl
 |some o=>rw[a p o e]at h;cases h
noncomputable def Kp(a c:QA)(H H':Hp):Prop:=∀b o,H b=some o->b≠a->b≠c->H' b=some o
variable {n:Nat}
theorem yo{i:Int}(h0:0<=i)(h1:i<(n:Int)):ixN n i=some i.toNat:=by unfold ixN;rw[if_pos h0,if_pos h1]
theorem FH{α:Type}{xs:List α}{i:Int}{v:α}(h0:0<=i)(hv:xs[i.toNat]?=some v):atI xs i=some v:=by have h1:i.toNat<xs.length:=(f_.mp hv).1;unfold atI;rw[yo h0 (by omega)];exact hv
theorem Bs{i:Int}(h0:0<=i)(h1:i<(ns.length:Int)):atI (ns.map V.int) i=some (.int (ns.getD i.toNat 0)):=by
 have h2:i.toNat<ns.length:=by omega
 refine FH h0 ?_;rw[B',c_ h2,LY,c_ h2]
 rfl
theorem Ij{i:Int}{v:V}{Q:VK}(h:SqG b K H p xs)(hv:atI xs i=some v)(q:Q v H):rIx K (.ref p) (.int i) H Q:=by
 cases b with
 |true=>exact .inr (.inl ⟨p,xs,i,v,rfl,rfl,h,hv,q⟩)
 |false=>exact .inl ⟨p,xs,i,v,rfl,rfl,h,hv,q⟩
theorem KH{A B:Prop}(h1:b=true->A)(h2:b=false->B):if b=true then A else B:=by
 cases b with
 |true=>exact Lj (h1 rfl)
 |false=>exact Li (h2 rfl)
theorem BA(S:FnScope N ps esc)(N':List Str)(fr:List (Option Nat))(nd:N'.Nodup){g:QB->Hp->List QA->TG}(C:jX N esc sc N' fr=true)
  (hi:PI X target iter wi) (hg:∀s3 H3 fp,PG (aZ X N' sc s3 H3 fp) target (g s3 H3 fp)) (ht:∀s3 H3 fp,PTs (aZ X N' sc s3 H3 fp) ifs (tt s3 H3 fp)) (he:∀s3 H3 fp,PE (aZ X N' sc s3 H3 fp) elt (te s3 H3 fp))
  (hc:X.calm=true:=by rfl) (hN:X.N=N:=by rfl) (hS:X.env.scope=esc:=by rfl) (hs:∀x,Ry iter X.env x=pure x:=by intro _;rfl):PE X (.ListComp elt [⟨target,iter,ifs,0⟩] sc pos) (yH wi fr g tt te):=
 Fp N' fr hc (by rw[hN,hS];exact C) hi hg ht he hs
noncomputable def Its(K:Qz)(b:Bool)(a:QA):It:=match b with
 |true=>Itt K a
 |false=>Itl K a
noncomputable def iSq(K:Qz)(tl:TE):TI:=fun σ H R=>tl σ H fun x H1=>∃b a xs,x=.ref a/\SqG b K H1 a xs/\R (Its K b a) H1
theorem Hg{tg l:QQ}{tl:TE}(hl:PE X l tl):PI X tg l (iSq X.K tl):=by
 intro pins s σ H R I h;refine thn (hl pins s σ H _ I h) ?_;rintro v s1 ⟨x,H1,I1,r1,q1⟩;obtain⟨b,a,xs,rfl,hq,q⟩:=q1;cases r1;cases b with
 |true=>
  obtain⟨its,rv,p,hz⟩:=I1.tuple hq;refine RU (show s1.heap.IsTuple a its.toArray from p) ⟨s1.heap.objs.size,[s1.heap.objs.size],_,_,H1,rfl,I1.kept (t':=s1.toks) fun b o e=>QD _ e,wV a _,⟨_,QH _ rfl,rfl,rfl⟩,fun b hb=>?_,q⟩;have e:b=s1.heap.objs.size:=by simpa using hb
  subst e;exact I1.x8 (b_ _) (I1.hok.fresh (b_ _))
 |false=>
  obtain⟨its,rv,p,hz⟩:=I1.list hq;refine RW p.isList ⟨s1.heap.objs.size,[s1.heap.objs.size],_,_,H1,rfl,I1.kept (t':=s1.toks) fun b o e=>QD _ e,AY a _,⟨_,QH _ rfl,rfl,rfl⟩,fun b hb=>?_,q⟩;have e:b=s1.heap.objs.size:=by simpa using hb
  subst e;exact I1.x8 (b_ _) (I1.hok.fresh (b_ _))
theorem EU{H2:Hp}{v:V}(h1:SqG b K H1 a xs)(s:bI H1 H')(h:(Its K b a).yld i H' v H2):H2=H'/\xs[i]?=some v:=by
 cases b with
 |true=>exact⟨h.1,h.2 xs (SqG.same s h1)⟩
 |false=>exact⟨h.1,h.2 xs (SqG.same s h1)⟩
theorem GN(h1:SqG b K H1 a xs)(hx:xs.length=n):∀i H',bI H1 H'->i<n->(Its K b a).go i H':=fun i H' s hi=>by
 cases b with
 |true=>exact⟨xs,xs[i]'(by lia),SqT.same s h1,c_ _⟩
 |false=>exact⟨xs,xs[i]'(by lia),SqL.same s h1,c_ _⟩
theorem Dy(h1:SqG b K H1 a xs)(hx:xs.length=n):∀H',bI H1 H'->(Its K b a).stop n H':=fun H' s=>by
 cases b with
 |true=>exact⟨xs,SqT.same s h1,by lia⟩
 |false=>exact⟨xs,SqL.same s h1,by lia⟩
noncomputable def New(o:HO)(H:Hp)(Q:VK):Prop:=∀p H',H p=none->bI H H'->H' p=some o->Q (.ref p) H'
theorem New.at {o:HO}{Q:VK}(h:New o H Q)(hp:H p=none):Q (.ref p) (upd H p o):=h p _ hp (bH hp o) aQ
section
variable{X:Cx}{es:List QQ}{t:TA}{pos:Pos}
noncomputable def Kj(t:TA):TE:=fun σ H Q=>t σ H fun xs H1=>xs.length<=sizeLine/\New (.tup xs) H1 Q
noncomputable def Jw(t:TA):TE:=fun σ H Q=>t σ H fun xs H1=>xs.length<=sizeLine/\New (.lst xs) H1 Q
theorem Fw{x1}(h:PA X es t):PE X (.Tuple es x1 pos) (Kj t):=by intro pins s σ H Q I hq;refine wpAny_Tuple_spliced (thn (h pos pins s σ H _ I hq) fun us s1 ⟨xs,H1,I1,r,z,q⟩=>⟨by rw[<-r.length];exact z,?_⟩);refine⟨.ref s1.heap.objs.size,upd H1 s1.heap.objs.size (.tup xs),I1.laid (t':=s1.toks) (fun b u e=>QD _ e) (b_ _) ⟨z,us,r,⟨_,QH _ rfl,rfl,_,rfl⟩⟩,rfl,q.at (I1.hok.fresh (b_ _))⟩
theorem ET(h:PA X es t):PE X (.List es pos) (Jw t):=by intro pins s σ H Q I hq;refine Vk (thn (h pos pins s σ H _ I hq) fun us s1 ⟨xs,H1,I1,r,z,q⟩=>⟨by rw[<-r.length];exact z,?_⟩);refine⟨.ref s1.heap.objs.size,upd H1 s1.heap.objs.size (.lst xs),I1.laid (t':=s1.toks) (fun b u e=>QD _ e) (b_ _) ⟨z,us,0,r,QH _ rfl⟩,rfl,q.at (I1.hok.fresh (b_ _))⟩
theorem bG.imp {f:Qy}{r r':List V->Hp->VK->Prop}(h:bG X f r)(k:∀vs H Q,r' vs H Q->r vs H Q):bG X f r':=fun pins s σ H xs us Q I rv q=>h pins s σ H xs us Q I rv (k _ _ _ q)
theorem OpR.imp {f:Qy->Qy->Sem Qy}{r r':R2}(h:OpR X f r)(k:∀x y H Q,r' x y H Q->r x y H Q):OpR X f r':=fun pins s σ H x y v u Q I rx ry q=>h pins s σ H x y v u Q I rx ry (k _ _ _ _ q)
theorem vm:bG X (.type "tuple") (fun xs H Q=>∃p ys,xs=[.ref p]/\SqL X.K H p ys/\New (.tup ys) H Q):=qY.imp (by rintro vs H Q ⟨p,ys,e,h,q⟩;exact⟨p,ys,e,.inl ⟨h,fun l hl=>q.at hl⟩⟩)
theorem B7:bG X (.builtin "len") (fun xs H Q=>∃b p ys,xs=[.ref p]/\SqG b X.K H p ys/\Q (.int ys.length) H):=kZ.imp fun vs H Q ⟨b,p,ys,e,h,q⟩=>by
 refine⟨p,ys,e,?_,q⟩;cases b with
 |true=>exact .inr h
 |false=>exact .inl h
noncomputable def L7(K:Qz):R2:=fun x y H Q=>∃b p xs i v,x=.ref p/\y=.int i/\SqG b K H p xs/\atI xs i=some v/\Q v H
theorem L9:IxR X (L7 X.K):=by rintro value slice pins s σ H x y v u Q I rx ry ⟨b,p,xs,i,z,e1,e2,hq,ha,q⟩ hs;subst e1 e2;exact J8 value slice pins s σ H (.ref p) (.int i) v u Q I rx ry (Ij hq ha q) hs
end
noncomputable def fW(ns:List Int)(r:Int):Prop:=r∈ns/\∀x∈ns,r<=x
noncomputable def fV(ns:List Int)(r:Int):Prop:=r∈ns/\∀x∈ns,x<=r
theorem cF:∀{ns:List Int}{us:List Qy},Vals (ns.map V.int) us->∃ps:List (Int×Tok),us=ps.map (fun p=>R5 p.1 p.2)/\ps.map (·.1)=ns
 | [],_,.nil=>⟨[],rfl,rfl⟩
 |n::r,_,.cons h t=>by obtain⟨ps,e1,e2⟩:=cF t;obtain⟨tk,e⟩:=h;exact⟨(n,tk)::ps,by rw[e,e1];rfl,by rw[<-e2];rfl⟩
theorem cx{ps:List (Int×Tok)}(e:ps.map (·.1)=ns)(hi:i<ns.length):Ss ps.toArray i=ns[i]:=by
 subst e;have h2:i<ps.length:=by simpa using hi
 simp[Ss,h2]
section
variable{X:Cx}
theorem B8(hc:X.calm=true):bG X (.builtin "min") (fun xs H Q=>∃a ns,xs=[.ref a]/\SqL X.K H a (ns.map V.int)/\ns≠[]/\∀r,fW ns r->Q (.int r) H):=by
 intro pins s σ H xs us Q I r h;obtain⟨a,ns,rfl,hq,hne,q⟩:=h;obtain⟨u,rfl,ru⟩:=vals1 r;cases ru;obtain⟨its,rv,p,z⟩:=I.list hq;obtain⟨ps,e1,e2⟩:=cF rv;subst e1;have hl:s.heap.IsList a (Rj ps.toArray):=by
  have e:Rj ps.toArray=(ps.map fun p=>R5 p.1 p.2).toArray:=by simp[Rj]
  rw[e];exact p.isList
 have hlen:ps.length=ns.length:=by rw[<-e2];simp
 have hpos:0<ns.length:=Mg fun z=>hne (L_ z);refine min_intList (I.ok.hd hc) hl (by simp;lia) fun v h' tk hv hk=>?_
 obtain⟨tv,rfl⟩:=Tn hv;obtain⟨b1,b2⟩:=argBest_lt (Ss ps.toArray) (ps.toArray.size-1);have hi:Ws (fun i j=>decide (Ss ps.toArray i<Ss ps.toArray j)) (ps.toArray.size-1)<ns.length:=by simp at b1 ⊢;lia
 refine⟨.int _,H,I.kept (t':=tk) hk,⟨tv,rfl⟩,q _ ⟨?_,fun x hx=>?_⟩⟩
 ·rw[cx e2 hi];exact Mo hi
 obtain⟨j,hj,rfl⟩:=L'.mp hx;have:=b2 j (by simp;lia);rw[cx e2 hj]at this;exact this
theorem AL(hc:X.calm=true):bG X (.builtin "max") (fun xs H Q=>∃a ns,xs=[.ref a]/\SqL X.K H a (ns.map V.int)/\ns≠[]/\∀r,fV ns r->Q (.int r) H):=by
 intro pins s σ H xs us Q I r h;obtain⟨a,ns,rfl,hq,hne,q⟩:=h;obtain⟨u,rfl,ru⟩:=vals1 r;cases ru;obtain⟨its,rv,p,z⟩:=I.list hq;obtain⟨ps,e1,e2⟩:=cF rv;subst e1;have hl:s.heap.IsList a (Rj ps.toArray):=by
  have e:Rj ps.toArray=(ps.map fun p=>R5 p.1 p.2).toArray:=by simp[Rj]
  rw[e];exact p.isList
 have hlen:ps.length=ns.length:=by rw[<-e2];simp
 have hpos:0<ns.length:=Mg fun z=>hne (L_ z);refine max_intList (I.ok.hd hc) hl (by simp;lia) fun v h' tk hv hk=>?_
 obtain⟨tv,rfl⟩:=Tn hv;obtain⟨b1,b2⟩:=argBest_gt (Ss ps.toArray) (ps.toArray.size-1);have hi:Ws (fun i j=>decide (Ss ps.toArray i > Ss ps.toArray j)) (ps.toArray.size-1)<ns.length:=by simp at b1 ⊢;lia
 refine⟨.int _,H,I.kept (t':=tk) hk,⟨tv,rfl⟩,q _ ⟨?_,fun x hx=>?_⟩⟩
 ·rw[cx e2 hi];exact Mo hi
 obtain⟨j,hj,rfl⟩:=L'.mp hx;have:=b2 j (by simp;lia);rw[cx e2 hj]at this;exact this
theorem B5(hc:X.calm=true):bG X (.builtin "max") (fun xs H Q=>∃i j k,xs=[.int i,.int j,.int k]/\∀r,i<=r->j<=r->k<=r->(r=i\/r=j\/r=k)->Q (.int r) H):=by
 intro pins s σ H xs us Q I r h;obtain⟨i,j,k,rfl,q⟩:=h;cases r with
 |cons r1 rr=>
  cases rr with
  |cons r2 rr=>
   cases rr with
   |cons r3 rr=>
    cases rr;obtain⟨t1,rfl⟩:=r1;obtain⟨t2,rfl⟩:=r2;obtain⟨t3,rfl⟩:=r3;refine max_three_ints (I.ok.hd hc) fun h' tk hk=>?_;have fin:∀(r:Int) (t:Tok),i<=r->j<=r->k<=r->(r=i\/r=j\/r=k)->EP X pins σ Q (.int r t) {s with heap:=h',toks:=tk}:=fun r t a b c d=>⟨.int r,H,I.kept (t':=tk) hk,⟨t,rfl⟩,q r a b c d⟩;split
    ·split
     ·exact fin _ _ (by lia) (by lia) (by lia) (by lia)
     exact fin _ _ (by lia) (by lia) (by lia) (by lia)
    split
    ·exact fin _ _ (by lia) (by lia) (by lia) (by lia)
    exact fin _ _ (by lia) (by lia) (by lia) (by lia)
theorem Ba(hc:X.calm=true):bG X (.builtin "min") (fun xs H Q=>∃i j k,xs=[.int i,.int j,.int k]/\∀r,r<=i->r<=j->r<=k->(r=i\/r=j\/r=k)->Q (.int r) H):=by
 intro pins s σ H xs us Q I r h;obtain⟨i,j,k,rfl,q⟩:=h;cases r with
 |cons r1 rr=>
  cases rr with
  |cons r2 rr=>
   cases rr with
   |cons r3 rr=>
    cases rr;obtain⟨t1,rfl⟩:=r1;obtain⟨t2,rfl⟩:=r2;obtain⟨t3,rfl⟩:=r3;refine min_three_ints (I.ok.hd hc) fun h' tk hk=>?_;have fin:∀(r:Int) (t:Tok),r<=i->r<=j->r<=k->(r=i\/r=j\/r=k)->EP X pins σ Q (.int r t) {s with heap:=h',toks:=tk}:=fun r t a b c d=>⟨.int r,H,I.kept (t':=tk) hk,⟨t,rfl⟩,q r a b c d⟩;split
    ·split
     ·exact fin _ _ (by lia) (by lia) (by lia) (by lia)
     exact fin _ _ (by lia) (by lia) (by lia) (by lia)
    split
    ·exact fin _ _ (by lia) (by lia) (by lia) (by lia)
    exact fin _ _ (by lia) (by lia) (by lia) (by lia)
end
section
variable{X:Cx}{a b c d:QQ}{ta tb tc td:TE}{pos:Pos}
theorem BH:SlR X (fun x lo hi H Q=>∃a xs,x=.ref a/\SqL X.K H a xs/\New (.lst (gH xs lo hi)) H Q):=by rintro pins s σ H x v vl vu lo hi sl Q I rx hs pl pu ⟨a,xs,e,h,q⟩;exact zf pins s σ H x v vl vu lo hi sl Q I rx hs pl pu ⟨a,xs,e,h,fun p hp=>q.at hp⟩
theorem yK:SlR X (fun x lo hi H Q=>∃a xs,x=.ref a/\SqT X.K H a xs/\¬(HT.sIx xs.length 0 lo=0/\HT.sIx xs.length xs.length hi=xs.length)/\New (.tup (gH xs lo hi)) H Q):=by rintro pins s σ H x v vl vu lo hi sl Q I rx hs pl pu ⟨a,xs,e,h,hw,q⟩;exact IL pins s σ H x v vl vu lo hi sl Q I rx hs pl pu ⟨a,xs,e,h,hw,fun p hp=>q.at hp⟩
end
structure Put (H:Hp) (p:QA) (o:HO) (H':Hp):Prop where
 at_:H' p=some o
 else_:∀b,b≠p->H' b=H b
theorem Put.up {o:HO}:Put H p o (upd H p o):=⟨aQ,fun b h=>aP h⟩
section
variable{X:Cx}
theorem xB.imp {t t':El}(h:xB X t)(k:∀o i v H Q,t' o i v H Q->t o i v H Q):xB X t':=fun pins s σ H o i v ov iv u Q I r1 r2 r3 q=>h pins s σ H o i v ov iv u Q I r1 r2 r3 (k _ _ _ _ _ q)
theorem A6:xB X (fun o i v H Q=>∃p xs k j,o=.ref p/\i=.int k/\H p=some (.lst xs)/\ixN xs.length k=some j/\∀H',Put H p (.lst (xs.set j v)) H'->Q H'):=set_list.imp (by rintro o i v H Q ⟨p,xs,k,j,e1,e2,h,hj,q⟩;exact⟨p,xs,k,j,e1,e2,h,hj,q _ Put.up⟩)
end
section
variable{M:SH}{A:QY}{E:Qy->QB->Prop}{s:QB}{env:Env}
theorem lK{first:Sem Qy}{g:Ua}{u:Qy->Sem Unit}
  (hcl:clausesOf e=g::gs) (hs:∀x,Ry g.iter env x=pure x)
  (hc:∀x∈scope.names,x.2≠.cell) (hfr:∀x∈scope.names,x.2=.free->∃c,env.cells.lookup x.1=some c) (hkind:scope.kind=.function) (hnames:∀x∈scope.names,x.2=.local->scope.names.lookup x.1=some .local)
  (h:QG M A first (fun x s₁=>QG M A (Tz x) (fun it s₂=>QG M A newAcc (fun acc s₃=>
   ∀h4,h4.Ns s₃.heap.objs.size (fun _=>none)->(∀b o,s₃.heap.get? b=some o->h4.get? b=some o)->
    Sx M A (.compStart e 0 it acc (L2.compEnv env scope s₃.heap.objs.size)) (fun r s'=>match r with
     | .ok _=>QG M A (u acc) (fun _ s''=>∃m,s''.heap.Ns s₃.heap.objs.size m/\∀h',Rt s₃.heap.objs.size s''.heap h'->Q .none {s'' with heap:=h'}) E s'
     | .error x=>False) { s₃ with heap:=h4}) E s₂) E s₁) E s) :
  QG M A (Tq e scope env pos newAcc false first (some u)) Q E s:=by
 unfold Tq;rw[qt hfr,hcl];refine Qx (Q7 h (fun x s₁ h₁=>Qx (To (Qx (SY (hs x) (Qx (Q2 (Q7 h₁ (fun it s₂ h₂=>
  WO (Qx (Q7 h₂ (fun acc s₃ h₃=>Qx (QC (Qx ?_))) fun _ _ h'=>h'))) fun _ _ h'=>h'))))))) fun _ _ h'=>h')
 refine U8 hc (fun x hx=>nomatch hx) (fun h4 hn4 hs4=>?_) hkind;have h₄:=h₃ h4 hn4 fun b o e=>hs4.extBut b o (v_ (QK e)) (QD _ e);dsimp only;have hv:∀x∈(scope.names.filter fun x=>(x.2 == .local || x.2 == .cell)&&x.1 !=(".0":Str)).reverse,x.2=.local->
   V8 (L2.compEnv env scope s₃.heap.objs.size) x.1=some .local:=fun x hx hl=>by
  show(qb env scope).names.lookup x.1=some .local;rw[kJ,hnames x (LR.mp (Nd.mp hx)).1 hl]
  rfl
 have hv':∀x∈(scope.names.filter fun x=>(x.2 == .local || x.2 == .cell)&&x.1 !=(".0":Str)).reverse.drop 1++(scope.names.filter fun x=>(x.2 == .local || x.2 == .cell)&&x.1 !=(".0":Str)).reverse.take 1,
   x.2=.local->V8 (L2.compEnv env scope s₃.heap.objs.size) x.1=some .local:=fun x hx hl=>
  (x_.mp hx).elim (fun z=>hv x (NF z) hl) fun z=>hv x (Mq z) hl
 refine Q2 (Qx (RP (Q2 (wpAny_run (Sl h₄ fun r s' hr=>?_)))));cases r with
 |ok f=>
  refine Qx (Sh (Qx (Q2 (Q7 hr (fun _ s'' hr'=>?_) fun _ _ h'=>h'))));obtain⟨m,hn,hr'⟩:=hr';exact Qx (VQ (cenv:=L2.compEnv env scope s₃.heap.objs.size) hkind _ s'' m hv' hn fun h' m' _ hs'=>QC (hr' h' hs'))
 |error x=>exact hr.elim
end
theorem E7(S:FnScope N ps esc){pos':Pos}(N':List Str)(fr:List (Option Nat))(nd:N'.Nodup){pos2:Pos}{g:QB->Hp->List QA->TG}(C:jX N esc sc N' fr=true)
  (hi:X.N[i]?=some x) (hx:Loc X.env.scope x) (hit:PI X target iter wi) (hg:∀s3 H3 fp,PG (aZ X N' sc s3 H3 fp) target (g s3 H3 fp)) (ht:∀s3 H3 fp,PTs (aZ X N' sc s3 H3 fp) ifs (tt s3 H3 fp)) (he:∀s3 H3 fp,PE (aZ X N' sc s3 H3 fp) elt (te s3 H3 fp))
  (hsw:Tt (.ListComp elt [⟨target,iter,ifs,0⟩] sc pos2) (some (.Name x pos')) pos.line X.env=pure true) (hf:X.fn x=true:=by rfl)
  (hc:X.calm=true:=by rfl) (hN:X.N=N:=by rfl) (hS:X.env.scope=esc:=by rfl) (hs:∀x,Ry iter X.env x=pure x:=by intro _;rfl):PS X (.Assign [.Name x pos'] (.ListComp elt [⟨target,iter,ifs,0⟩] sc pos2) pos) (DT (yH wi fr g tt te) (yy i)):=by
 have C:CompOk X.N X.env.scope sc N' fr:=sA (by rw[hN,hS];exact C);have hNd:X.N.Nodup:=by rw[hN];exact S.nd
 intro pins s σ H D I h;rw[exec_Assign_Name_used _ _ _ _ hsw];refine Qx (To (Qx ?_));show QG _ X.A (do let _ <-Tq (.ListComp elt [⟨target,iter,ifs,0⟩] sc pos2) sc X.env _ (newList []) false (Q9 iter X.env) (some (Tg (.Name x pos') X.env))) _ _ s;have hfr:∀x∈sc.names,x.2=.free->∃c,X.env.cells.lookup x.1=some c:=fun x hx e=>I.ok.has x.1 (.inl (C.free x hx e));refine Qx (Q7 (lK (g:=⟨target,iter,ifs,0⟩) (gs:=[]) (Q:=fun _ s'=>SP X pins D .next s') rfl hs C.nocell hfr C.kind C.names ?_) (fun _ s' hq=>QC (QC hq)) fun _ _ e=>e);refine thn (hit pins s σ H _ I h) fun v s1 h1=>thn h1 fun itv s2 h2=>?_;obtain⟨it,fp,tn,J,H2,e,I2,T,st2,f2,k2⟩:=h2;subst e;refine Sy ?_ (by show 0<=sizeLine;decide);have hfree:H2 s2.heap.objs.size=none:=I2.hok.fresh (b_ _);obtain⟨W,⟨m0,w0⟩,turn⟩:=k2 _ hfree {s2 with heap:=s2.heap.push { cls:=.type "list",data:=.seq ([]:List Qy).toArray} } (upd H2 s2.heap.objs.size (.lst [])) fp;have kp:∀b u,s2.heap.get? b=some u->(s2.heap.push { cls:=.type "list",data:=.seq ([]:List Qy).toArray}).get? b=some u:=fun b u e=>QD _ e;have I3:Inv X pins σ (upd H2 s2.heap.objs.size (.lst [])) {s2 with heap:=s2.heap.push { cls:=.type "list",data:=.seq ([]:List Qy).toArray} }:=
  I2.laid (t':=s2.toks) kp (b_ _) ⟨D' _,[],0,.nil,QH _ rfl⟩
 have obj2:=T.obj 0 s2.heap st2;have fpne:∀b∈fp,b≠s2.heap.objs.size:=fun b hb=>by obtain⟨o,ho,_⟩:=obj2 b hb;exact v_ (QK ho)
 have f3:∀b∈fp,lg X pins (upd H2 s2.heap.objs.size (.lst [])) b:=fun b hb=>⟨by rw[aP (fpne b hb)];exact(f2 b hb).1,(f2 b hb).2⟩
 have st3:=T.keep 0 s2.heap _ st2 fun b hb o e=>kp b o e;have obj3:=T.obj 0 _ st3;intro h4 hn4 hk4;have st4:=T.keep 0 _ h4 st3 fun b hb o e=>hk4 b o e;have I4:=vL (N':=N') (fr:=fr) (fp:=fp) I3 C hc f3 (fun b hb=>let ⟨o,ho,_⟩:=obj3 b hb;⟨o,ho⟩) hn4 hk4;have stat:∀{H':Hp},(∀b∈fp,H' b=none)->∀b∈fp,lg (aZ X N' sc {s2 with heap:=s2.heap.push { cls:=.type "list",data:=.seq ([]:List Qy).toArray} } (upd H2 s2.heap.objs.size (.lst [])) fp) [] H' b:=fun hn b hb=>
  ⟨hn b hb,(I4.ok.exf b hb).1,I4.ok.exfs b hb,.inl hb,(I4.ok.exf b hb).2,fun p hp=>(nomatch hp)⟩
 have loop:Sx (QM X.prog X.w) X.A (.compLoop (.ListComp elt [⟨target,iter,ifs,0⟩] sc pos2) 0 (.ref it) (.ref s2.heap.objs.size) (L2.compEnv X.env sc (s2.heap.push { cls:=.type "list",data:=.seq ([]:List Qy).toArray}).objs.size))
   (fun r s'=>match r with
    | .ok _=>QG (QM X.prog X.w) X.A (Tg (.Name x pos') X.env (.ref s2.heap.objs.size)) (fun _ s''=>∃m,s''.heap.Ns (s2.heap.push { cls:=.type "list",data:=.seq ([]:List Qy).toArray}).objs.size m/\∀h',Rt (s2.heap.push { cls:=.type "list",data:=.seq ([]:List Qy).toArray}).objs.size s''.heap h'->SP X pins D .next {s'' with heap:=h'}) X.xe s'
    | .error x=>False) {s2 with heap:=h4}:=by
  refine oB (fun n s'=>∃i σ' H',Inv (aZ X N' sc {s2 with heap:=s2.heap.push { cls:=.type "list",data:=.seq ([]:List Qy).toArray} } (upd H2 s2.heap.objs.size (.lst [])) fp) [] σ' H' s'/\tn i s'.heap/\(∀b∈fp,H' b=none)/\W i n σ' H') ?_ m0
   ⟨0,_,_,I4,st4,fun b hb=>(f3 b hb).1,w0⟩
  rintro n s5 ⟨j,σ5,H5,I5,st5,fr5,w5⟩;rcases turn j n σ5 H5 w5 with⟨stop,q⟩|⟨go,step⟩
  ·refine thn (T.done (aZ X N' sc _ _ fp) rfl rfl rfl rfl j [] s5 σ5 H5 (fun _ _=>False) I5 (stat fr5) st5 stop) ?_;rintro r s6 ⟨hr,I6⟩;subst hr;obtain⟨m6,hn6,_⟩:=id I6.loc;have hL:H5 (s2.heap.push { cls:=.type "list",data:=.seq ([]:List Qy).toArray}).objs.size=none:=I6.free;have I7:Inv X pins σ H5 s6:=I3.Gm (s':=s6) (ch:=fp) I6.os I6.base I6.hok I6.bare (fun b hb=>by obtain⟨_,g1,g2,g3,g4,g5⟩:=f3 b hb;exact⟨g3,g1,g4,g5⟩)
   have Lne:(s2.heap.push { cls:=.type "list",data:=.seq ([]:List Qy).toArray}).objs.size≠X.env.locals:=Nz I3.lt;have cne:∀y c,X.env.cells.lookup y=some c->c≠(s2.heap.push { cls:=.type "list",data:=.seq ([]:List Qy).toArray}).objs.size:=fun y c e=>by obtain⟨v',z⟩:=I3.cell y c e;exact v_ z.lt
   refine Vx (sG (v:=.ref s2.heap.objs.size) I7 hNd hi hx rfl (fun s8 I8 ⟨a8,sb8,ha8⟩=>?_) (.inl hf));refine⟨m6,hn6.sameBut sb8 (fun z=>ha8.elim (fun w'=>Lne (z.trans w')) fun w'=>cne _ _ w' z.symm),fun h' hs'=>⟨_,H5,?_,q⟩⟩;refine I8.turned (it:=(s2.heap.push { cls:=.type "list",data:=.seq ([]:List Qy).toArray}).objs.size) (t':=s8.toks) (fun b o hb e=>(hs'.2 b hb).trans e) hL Lne (.inr I3.sz) cne fun p hp z=>?_;have lt:=QK (I3.pin p hp).1;rw[z]at lt;exact MJ _ lt
  refine thn (T.item (aZ X N' sc _ _ fp) rfl rfl rfl rfl j [] s5 σ5 H5 (fun _ _=>False) I5 (stat fr5) st5 go) ?_;rintro r s6 ⟨u,hr,h6⟩;subst hr;refine thn h6 ?_;rintro _ s7 ⟨y,H7,I7,r7,y7,st7,fr7⟩;have I7':=I7.pinned (stat fr7) (T.obj _ _ st7);have again:∀{σ8:St}{H8:Hp}{s8:QB},Inv (aZ X N' sc {s2 with heap:=s2.heap.push { cls:=.type "list",data:=.seq ([]:List Qy).toArray} } (upd H2 s2.heap.objs.size (.lst [])) fp) ([]++m7 fp s7.heap) σ8 H8 s8->(∃m',m'<n/\W (j+1) m' σ8 H8)->
    ∃m,m<n/\∃i σ' H',Inv (aZ X N' sc {s2 with heap:=s2.heap.push { cls:=.type "list",data:=.seq ([]:List Qy).toArray} } (upd H2 s2.heap.objs.size (.lst [])) fp) [] σ' H' s8/\tn i s8.heap/\(∀b∈fp,H' b=none)/\W i m σ' H':=fun{σ8 H8 s8} I8 ⟨m',hm,w8⟩=>by
   refine⟨m',hm,j+1,σ8,H8,I8.gm,T.keep _ _ _ st7 fun b hb o e=>(I8.pin (b,o) (n_ _ (n_ _ (cH hb e)))).1,fun b hb=>?_,w8⟩;obtain⟨o,e,d⟩:=T.obj _ _ st7 b hb;exact(I8.pin (b,o) (n_ _ (n_ _ (cH hb e)))).2.1
  refine thn (hg _ _ fp _ s7 σ5 H7 y u _ I7' r7 (step y H7 y7)) ?_;rintro _ s8 ⟨σ8,H8,I8,q8⟩;refine thn (ht _ _ fp _ s8 σ8 H8 _ I8 q8) ?_;rintro ok s9 ⟨H9,I9,q9⟩;cases ok with
  |false=>exact again I9 q9
  |true=>
   refine thn (he _ _ fp _ s9 σ8 H9 _ I9 q9) ?_;rintro y s10 ⟨v,H10,I10,r10,ys,hys,hl,q10⟩;refine thn (mM _ s10 σ8 H10 (.ref s2.heap.objs.size) [v] (.ref s2.heap.objs.size) [y] (fun _ H'=>∃m',m'<n/\W (j+1) m' σ8 H') I10 rfl (.cons r10 .nil) ⟨_,ys,v,rfl,rfl,hys,hl,q10⟩) ?_;rintro z s11 ⟨_,H11,I11,_,q11⟩;exact again I11 q11
 refine UP loop ?_;exact T.self X.A 0 _ _ _ st4 loop
section
variable{X:Cx}
theorem MtM.imp {id:String}{r r':V->List V->Hp->VK->Prop}(h:MtM X id r)(k:∀x xs H Q,r' x xs H Q->r x xs H Q):MtM X id r':=fun pins s σ H x xs v us Q I r1 r2 q=>h pins s σ H x xs v us Q I r1 r2 (k _ _ _ _ q)
theorem xH:MtM X "list.extend" (fun x vs H Q=>∃l b xs zs,x=.ref l/\vs=[.ref b]/\H l=some (.lst xs)/\H b=some (.lst zs)/\xs.length+zs.length<=sizeLine/\∀H',Put H l (.lst (xs++zs)) H'->Q .non H'):=AO.imp (by rintro x vs H Q ⟨l,b,xs,zs,e1,e2,h1,h2,hz,q⟩;exact⟨l,b,xs,zs,e1,e2,h1,h2,hz,q _ Put.up⟩)
theorem xI:MtM X "list.append" (fun x vs H Q=>∃l xs y,x=.ref l/\vs=[y]/\H l=some (.lst xs)/\xs.length<sizeLine/\∀H',Put H l (.lst (xs++[y])) H'->Q .non H'):=mM.imp (by rintro x vs H Q ⟨l,xs,y,e1,e2,h1,hz,q⟩;exact⟨l,xs,y,e1,e2,h1,hz,q _ Put.up⟩)
end
end L2
namespace ZG
open PySem
open Sem (wp)
variable {Q:Option Qy->QB->Prop}{d:QA}{ep:Nat}{es:Array SD}{o:Obj}
section
variable{prog:QL}{w:QP}{A:QY}{E:Qy->QB->Prop}{s:QB}
theorem Gb{Q:Qy->QB->Prop}(hd:(d == Rv)=false)(ho:s.heap.get? d=some o)(hc:o.ExactDict)(hdat:o.data=.dict es ep)
  (hQ:Q (.ref s.heap.objs.size) {s with heap:=s.heap.push { cls:=.type "dict_keyiterator",data:=.fields #[.ref d,.int 0 0,.int es.size 0,.int ep 0] } }):QG (QM prog w) A (Tz (.ref d)) Q E s:=by
 have hT:s.TypeIs (.ref d) "dict":=⟨o,ho,hc.1⟩;refine Ud hT VS (Rh VS hT F.entry_dict_iter ?_ (F.args_dict_iter_1 _));unfold RM.«dict.__iter__» WX;refine Qx (Qx (wpAny_notOrdered_dict hT (show QG _ _ (pure (Rc d)) _ _ s from QC (show QG _ _ (UU d >>= _) _ _ s from ?_))));unfold UU;rw[if_neg (by rw[hd];exact Me)];exact Qx (QC (Qx (Td ho hdat (Qx (UG ho hdat (Qx (Q1 (QC ⟨_,rfl,"dict_keyiterator",_,⟨_,QH _ rfl,rfl⟩,RI.lookup,by simpa[RD]using hQ⟩))))))))
theorem G4{it:QA}{i:Nat}{e:SD}(hit:s.heap.IsKeyIter it d i es.size ep)(hod:s.heap.get? d=some o)(hdd:o.data=.dict es ep)(hx:es[i]?=some e)
  (hQ:∀h',h'.IsKeyIter it d (i+1) es.size ep->Rt it s.heap h'->Q (some e.key) {s with heap:=h'}):QG (QM prog w) A (Sd (.ref it)) Q E s:=by
 obtain⟨oi,ho,hc,hd⟩:=id hit;unfold Sd;refine Qx (RP (Rf (name:=Rw "__next__") hit.typeIs RI (Rh RI hit.typeIs TM ?_ (TH _))));refine Qx (QC (Qx (Qx ?_)));refine Qx (RY hit.typeIs (QC (Qx (TY ho hd ?_))));simp only[show TZ "dict_keyiterator"=false by decide,LQ,if_false];show QG _ _ (if(Rc d == Ra)=true then _ else _) _ _ s;rw[if_neg (show ¬(Rc d == Ra)=true from fun z=>Me z)];refine Qx (QC (Qx (Td hod hdd ?_)));rw[if_neg (show ¬_ by simp)];refine Qx (QC (Qx (UG hod hdd ?_)));rw[if_neg (show ¬_ by simp)];refine QC ?_;simp only[show ¬(i:Int)<0 by lia,if_false,Md,hx];refine Qx (Qx (RY hit.typeIs (QC (Qx (UW hit.typeIs ?_)))));show QG _ _ (setField (.ref it) 1 (RD ((i:Int)+1)) >>= _) _ _ s;refine Qx (RG ho hd (by simp) ?_);have hit':(s.heap.update it (SU (·.setIfInBounds 1 (RD ((i:Int)+1))))).IsKeyIter it d (i+1) es.size ep:=
  ⟨_,Rk _ ho (RT (Q_ hd _)),(SJ ..).trans hc,by rw[Q_ hd];simp[RD]⟩
 exact Qx (Q2 (Qx (UW (s:={s with heap:=s.heap.update it (SU (·.setIfInBounds 1 (RD ((i:Int)+1)))) }) hit'.typeIs (show QG _ _ (pure e.key) _ _ _ from QC (QC ⟨_,rfl,QC (hQ _ hit' (Rg ..))⟩)))))
theorem JV{it:QA}{i:Nat}(hh:A.handled=none)(hit:s.heap.IsKeyIter it d i es.size ep)(hod:s.heap.get? d=some o)(hdd:o.data=.dict es ep)(hx:es[i]?=none)
  (hQ:∀h',SX it s.heap h'->Q none {s with heap:=h'}):QG (QM prog w) A (Sd (.ref it)) Q E s:=by
 obtain⟨oi,ho,hc,hd⟩:=id hit;unfold Sd;refine Qx (RP (Rf (name:=Rw "__next__") hit.typeIs RI (Rh RI hit.typeIs TM ?_ (TH _))));refine Qx (QC (Qx (Qx ?_)));refine Qx (RY hit.typeIs (QC (Qx (TY ho hd ?_))));simp only[show TZ "dict_keyiterator"=false by decide,LQ,if_false];show QG _ _ (if(Rc d == Ra)=true then _ else _) _ _ s;rw[if_neg (show ¬(Rc d == Ra)=true from fun z=>Me z)];refine Qx (QC (Qx (Td hod hdd ?_)));rw[if_neg (show ¬_ by simp)];refine Qx (QC (Qx (UG hod hdd ?_)));rw[if_neg (show ¬_ by simp)];refine QC ?_;simp only[show ¬(i:Int)<0 by lia,if_false,Md,hx];refine Qx (Qx (RY hit.typeIs (QC ?_)));show QG _ _ (setField (.ref it) 0 .none >>= _) _ _ s;refine Qx (RG ho hd (by simp) (show QG _ _ (Us (.type "StopIteration") [] >>= _) _ _ _ from Qx ?_));simp only[Us,VM];refine Qx (Q1 (Qx (m:=R1 _ _) (SY (a:=Ra) (by first|rfl|(simp only[R1];rfl)) (Q1 ?_ (by size_fits)))) (by size_fits));simp only[VN];refine Qx (T_ ?_);rw[show A.in1.handled=none from hh];refine Qx (QC (UN ?_));refine Qx (SO (T:="StopIteration") (b:=true) (by exact⟨_,QH _ rfl,rfl⟩) TV (QC ?_));exact hQ _ (((Rg ..).extBut.push _).push _)
end
end ZG
namespace L2
open PySem PySem.Spec PyProof.Rows
noncomputable def kI(ns:List Int):List Key:=ns.map Uj
theorem LL(ns:List Int):(kI ns).map kV=ns.map V.int:=by
 unfold kI;rw[A']
 rfl
theorem IW{ns ms:List Int}(h:kI ns=kI ms):ns=ms:=(List.map_inj_right fun _ _ z=>Xo z).mp h
theorem pI{α β:Type}{F:α->β->Prop}:∀{l:List α}{m:List β}{i:Nat}{b:β},SQ F l m->m[i]?=some b->∃a,l[i]?=some a/\F a b
 | _,_,_,_,.nil,e=>by simp at e
 | _,_,0,_,.cons h t,e=>by simp only[Nl,OI]at e;subst e;exact⟨_,rfl,h⟩
 | _,_,i+1,_,.cons h t,e=>by simp only[MV]at e ⊢;exact pI t e
theorem EJ{X:Cx}{pins:List (QA×Obj)}{σ:St}{H:Hp}{s:QB}{o:Obj}{d:QA}{kvs:List (List Key×V)}(I:Inv X pins σ H s)(e:H d=some (.frz o (.dT kvs))) :
  s.heap.get? d=some o/\(d == Rv)=false/\∃xs es ep,KT H kvs xs/\o.ExactDict/\o.data=.dict es ep/\es.toList=xs.map (U1 (S5 (bo X.prog X.w)))/\es.size=kvs.length:=by
 obtain⟨h0,h1,h2,xs,kt,o',es,ep,g1,g2,g3,g4,g5⟩:=(show bg X.prog X.w H s.heap d (.frz o (.dT kvs))from I.hok d _ e);rw[h0]at g1;cases g1;refine⟨h0,h2,xs,es,ep,kt,g2,g3,g4,?_⟩;rw[<-gV,g4,a_];exact(RX kt).symm
section
variable{X:Cx}
theorem Ag(hc:X.calm=true):bG X (.builtin "min") (fun xs H Q=>∃a ns,xs=[.ref a]/\SqT X.K H a (ns.map V.int)/\ns≠[]/\∀r,fW ns r->Q (.int r) H):=by
 intro pins s σ H xs us Q I r h;obtain⟨a,ns,rfl,hq,hne,q⟩:=h;obtain⟨u,rfl,ru⟩:=vals1 r;cases ru;obtain⟨its,rv,p,z⟩:=I.tuple hq;obtain⟨ps,e1,e2⟩:=cF rv;have ei:Rj ps.toArray=its.toArray:=by simp[Rj,e1]
 have hT:s.heap.IsTuple a (Rj ps.toArray):=by rw[ei];exact p
 have hlen:ps.length=ns.length:=by rw[<-e2];simp
 have hpos:0<ns.length:=Mg fun z=>hne (L_ z);have hlt:a<s.heap.objs.size:=by obtain⟨o,e,_⟩:=p;exact QK e
 have hh:X.A.in1.handled=none:=I.ok.hd hc;have W1:=Xy (prog:=X.prog) (w:=X.w) hh s.heap.objs.size a (v_ hlt) (Rj ps.toArray);refine call_min_walk (RU hT ⟨s.heap.objs.size,_,_,_,_,_,_,rfl,W1,?_,fun b hb=>?_,?_,CmpOf.ints_lt (Ss ps.toArray) (fun i v hv=>Tn hv),fun v h' tk hv hk=>?_⟩)
 ·refine⟨⟨_,QH _ rfl,rfl,rfl⟩,?_⟩;obtain⟨o,e,r⟩:=hT;exact⟨o,QD _ e,r⟩
 ·show b<(s.heap.push _).objs.size;have e:(s.heap.push { cls:=.type "tuple_iterator",data:=.fields #[.ref a,.int 0 0] }).objs.size=s.heap.objs.size+1:=by simp[Tv]
  rcases m_.mp hb with hb|hb
  ·rw[hb];simp[Tv]
  rw[w_.mp hb];exact z_ hlt (by simp[Tv])
 ·simp[Rj];lia
 obtain⟨tv,rfl⟩:=Tn hv;obtain⟨b1,b2⟩:=argBest_lt (Ss ps.toArray) ((Rj ps.toArray).size-1);have es:(Rj ps.toArray).size=ns.length:=by simp[Rj,hlen]
 have hi:Ws (fun i j=>decide (Ss ps.toArray i<Ss ps.toArray j)) ((Rj ps.toArray).size-1)<ns.length:=by rw[es]at b1 ⊢;lia
 obtain⟨f0,f1,f2,f3,f4,f5⟩:=I.x8 (b:=s.heap.objs.size) (b_ _) (I.hok.fresh (b_ _));have kk:∀b o,s.heap.get? b=some o->h'.get? b=some o:=fun b o e=>hk b o (fun z=>v_ (QK e) (w_.mp z)) (QD _ e);refine⟨.int _,H,I.kept (t':=tk) kk,⟨tv,rfl⟩,q _ ⟨?_,fun x hx=>?_⟩⟩
 ·rw[cx e2 hi];exact Mo hi
 obtain⟨j,hj,rfl⟩:=L'.mp hx;have:=b2 j (by rw[es];lia);rw[cx e2 hj]at this;exact this
theorem An(hc:X.calm=true):bG X (.builtin "max") (fun xs H Q=>∃a ns,xs=[.ref a]/\SqT X.K H a (ns.map V.int)/\ns≠[]/\∀r,fV ns r->Q (.int r) H):=by
 intro pins s σ H xs us Q I r h;obtain⟨a,ns,rfl,hq,hne,q⟩:=h;obtain⟨u,rfl,ru⟩:=vals1 r;cases ru;obtain⟨its,rv,p,z⟩:=I.tuple hq;obtain⟨ps,e1,e2⟩:=cF rv;have ei:Rj ps.toArray=its.toArray:=by simp[Rj,e1]
 have hT:s.heap.IsTuple a (Rj ps.toArray):=by rw[ei];exact p
 have hlen:ps.length=ns.length:=by rw[<-e2];simp
 have hpos:0<ns.length:=Mg fun z=>hne (L_ z);have hlt:a<s.heap.objs.size:=by obtain⟨o,e,_⟩:=p;exact QK e
 have hh:X.A.in1.handled=none:=I.ok.hd hc;have W1:=Xy (prog:=X.prog) (w:=X.w) hh s.heap.objs.size a (v_ hlt) (Rj ps.toArray);refine call_max_walk (RU hT ⟨s.heap.objs.size,_,_,_,_,_,_,rfl,W1,?_,fun b hb=>?_,?_,CmpOf.ints_gt (Ss ps.toArray) (fun i v hv=>Tn hv),fun v h' tk hv hk=>?_⟩)
 ·refine⟨⟨_,QH _ rfl,rfl,rfl⟩,?_⟩;obtain⟨o,e,r⟩:=hT;exact⟨o,QD _ e,r⟩
 ·show b<(s.heap.push _).objs.size;have e:(s.heap.push { cls:=.type "tuple_iterator",data:=.fields #[.ref a,.int 0 0] }).objs.size=s.heap.objs.size+1:=by simp[Tv]
  rcases m_.mp hb with hb|hb
  ·rw[hb];simp[Tv]
  rw[w_.mp hb];exact z_ hlt (by simp[Tv])
 ·simp[Rj];lia
 obtain⟨tv,rfl⟩:=Tn hv;obtain⟨b1,b2⟩:=argBest_gt (Ss ps.toArray) ((Rj ps.toArray).size-1);have es:(Rj ps.toArray).size=ns.length:=by simp[Rj,hlen]
 have hi:Ws (fun i j=>decide (Ss ps.toArray i > Ss ps.toArray j)) ((Rj ps.toArray).size-1)<ns.length:=by rw[es]at b1 ⊢;lia
 obtain⟨f0,f1,f2,f3,f4,f5⟩:=I.x8 (b:=s.heap.objs.size) (b_ _) (I.hok.fresh (b_ _));have kk:∀b o,s.heap.get? b=some o->h'.get? b=some o:=fun b o e=>hk b o (fun z=>v_ (QK e) (w_.mp z)) (QD _ e);refine⟨.int _,H,I.kept (t':=tk) kk,⟨tv,rfl⟩,q _ ⟨?_,fun x hx=>?_⟩⟩
 ·rw[cx e2 hi];exact Mo hi
 obtain⟨j,hj,rfl⟩:=L'.mp hx;have:=b2 j (by rw[es];lia);rw[cx e2 hj]at this;exact this
end
end L2
namespace ZS
open PySem PyProof.Rows
noncomputable def gal:Bool->Keyed->Array Keyed->Nat->Nat->Nat->StateT SortSt Sem (Option Nat):=sortPriv% PySem.Builtin.gallop
noncomputable def mLo:Array Keyed->Array Keyed->StateT SortSt Sem (Array Keyed):=sortPriv% PySem.Builtin.mergeLo
noncomputable def mHi:Array Keyed->Array Keyed->StateT SortSt Sem (Array Keyed):=sortPriv% PySem.Builtin.mergeHi
noncomputable def bey(lf:Bool)(ky:QE)(ar:Array QE)(b0 i:Nat):StateT QJ Sem (Option Bool):=do
 let xx <-Rn ar (b0+i)
 if lf then lt' xx ky else return (<-lt' ky xx).map (!·)
noncomputable def j9(lf:Bool)(ky:QE)(ar:Array QE)(b0 n l0 h0:Nat):StateT QJ Sem (Option Nat):=do
 let mut l:=l0
 let mut h:=h0
 for _ in [0:n]do
  if l>=h then break
  let m:=l+(h-l)/2
  let some mo <-bey lf ky ar b0 m | return none
  if mo then l:=m+1 else h:=m
 return some h
noncomputable def Gn(lf:Bool)(ky:QE)(ar:Array QE)(b0 n h0:Nat):StateT QJ Sem (Option Nat):=do
 let mut la:=0
 let mut of:=1
 for _ in [0:n]do
  if of>=n-h0 then break
  let some mo <-bey lf ky ar b0 (h0+of) | return none
  if !mo then break
  la:=of
  of:=2*of+1
 j9 lf ky ar b0 n (h0+la+1) (h0+min of (n-h0))
noncomputable def zN(lf:Bool)(ky:QE)(ar:Array QE)(b0 n h0:Nat):StateT QJ Sem (Option Nat):=do
 let mut la:=0
 let mut of:=1
 for _ in [0:n]do
  if of>=h0+1 then break
  let some fo <-bey lf ky ar b0 (h0-of) | return none
  if fo then break
  la:=of
  of:=2*of+1
 j9 lf ky ar b0 n (h0+1-min of (h0+1)) (h0-la)
theorem GF(lf:Bool)(ky:QE)(ar:Array QE)(b0 n h0:Nat):gal lf ky ar b0 n h0=(do
 let some rt <-bey lf ky ar b0 h0 | return none
 if rt then Gn lf ky ar b0 n h0 else zN lf ky ar b0 n h0):=rfl
variable {Q:Option Nat->QJ->Prop}{ar:Array QE}{b0 n:Nat}{ky:QE}{lf:Bool}{st:QJ}
section
variable{M:SH}{A:QY}{E:Qy->QB->Prop}{s:QB}
theorem IF{h0:Nat}{bd:Nat->Bool}(hh:h0<n)(hb:∀(i:Nat) (R:Option Bool->QJ->Prop),i<n->R (some (bd i)) st->wpS M A E s (bey lf ky ar b0 i) R st)
  (mono:∀i j,i<=j->j<n->bd j=true->bd i=true) (h:∀k,k<=n->(∀i,i<k->bd i=true)->(∀i,k<=i->i<n->bd i=false)->Q (some k) st):wpS M A E s (gal lf ky ar b0 n h0) Q st:=by
 rw[GF];have last:∀(l hi:Nat),l<=hi->hi<=n->(∀i,i<l->bd i=true)->(∀i,hi<=i->i<n->bd i=false)->wpS M A E s (j9 lf ky ar b0 n l hi) Q st:=fun l hi h1 h2 h3 h4=>by
  unfold j9;dsimp only;refine QI (Rm (I:=fun x c st'=>st'=st/\∃l hi,c=(none,l,hi)/\l<=hi/\hi<=n/\hi-l<=n-x/\(∀i,i<l->bd i=true)/\(∀i,hi<=i->i<n->bd i=false)) ?_ ?_ ⟨rfl,l,hi,rfl,h1,h2,by lia,h3,h4⟩)
  ·rintro x c st' _ hx ⟨rfl,l,hi,rfl,g1,g2,g3,g4,g5⟩;dsimp only;by_cases z:l>=hi
   ·rw[if_pos z];have e:l=hi:=by lia
    subst e;exact QO (QO (h l g2 g4 g5))
   rw[if_neg z];have m1:l<=l+(hi-l)/2:=NG ..;have m2:l+(hi-l)/2<hi:=by omega
   generalize l+(hi-l)/2=m at m1 m2 ⊢;have m3:=z_ m2 g2;refine QI (hb _ _ m3 ?_);dsimp only;cases e:bd m with
   |true=>
    simp only[if_true];exact QO ⟨rfl,_,_,rfl,m2,g2,by lia,fun i hi'=>mono i _ (N2 hi') m3 e,g5⟩
   |false=>
    simp only[LQ,if_false];refine QO ⟨rfl,_,_,rfl,m1,J_ m3,by lia,g4,fun i h1 h2=>?_⟩;cases e2:bd i with
    |false=>rfl
    |true=>rw[mono _ i h1 h2 e2]at e;cases e
  rintro c st' ⟨rfl,l,hi,rfl,g1,g2,g3,g4,g5⟩;have e:l=hi:=by lia
  subst e;exact QO (h l g2 g4 g5)
 have up:∀la of,la<of->h0+la<n->bd (h0+la)=true->(n-h0<=of\/bd (h0+of)=false)->wpS M A E s (j9 lf ky ar b0 n (h0+la+1) (h0+min of (n-h0))) Q st:=fun la of g1 g3 g4 g5=>by
  have k1:h0+min of (n-h0)<=n:=by lia
  refine last _ _ (by lia) k1 (fun i hi=>mono i _ (N2 hi) g3 g4) (fun i h1 h2=>?_);rcases g5 with g5|g5
  ·rw[N7 g5]at h1;lia
  cases e2:bd i with
  |false=>rfl
  |true=>rw[mono (h0+of) i (by lia) h2 e2]at g5;cases g5
 have dwn:∀la of,la<of->la<=h0->bd (h0-la)=false->(h0+1<=of\/of<=h0/\bd (h0-of)=true)->wpS M A E s (j9 lf ky ar b0 n (h0+1-min of (h0+1)) (h0-la)) Q st:=fun la of g1 g3 g4 g5=>by
  refine last _ _ (by omega) (t_ (Mr ..) (J_ hh)) (fun i hi=>?_) (fun i h1 h2=>?_)
  ·rcases g5 with g5|⟨g5,g6⟩
   ·rw[N7 g5,Nh]at hi;exact absurd hi (Nat.not_lt_zero _)
   rw[Of (N3 g5)]at hi;exact mono i _ (by lia) (MC (Mr ..) hh) g6
  cases e2:bd i with
  |false=>rfl
  |true=>rw[mono (h0-la) i h1 h2 e2]at g4;cases g4
 refine QI (hb _ _ hh ?_);dsimp only;cases e0:bd h0 with
 |true=>
  simp only[if_true];unfold Gn;dsimp only;refine QI (Rm (I:=fun x c st'=>st'=st/\∃la of,c=(none,la,of)/\la<of/\x+1<=of/\h0+la<n/\bd (h0+la)=true) ?_ ?_ ⟨rfl,0,1,rfl,Nq,b_ _,hh,e0⟩)
  ·rintro x c st' _ hx ⟨rfl,la,of,rfl,g1,g2,g3,g4⟩;dsimp only;by_cases z:of>=n-h0
   ·rw[if_pos z];exact QO (up la of g1 g3 g4 (.inl z))
   rw[if_neg z];refine QI (hb _ _ (by lia) ?_);dsimp only;cases e:bd (h0+of)with
   |false=>
    simp only[O9,if_true];exact QO (up la of g1 g3 g4 (.inr e))
   |true=>
    simp only[Pf,LQ,if_false];exact QO ⟨rfl,_,_,rfl,by lia,by lia,by lia,e⟩
  ·rintro c st' ⟨rfl,la,of,rfl,g1,g2,g3,g4⟩;exact up la of g1 g3 g4 (.inl (by lia))
 |false=>
  simp only[LQ,if_false];unfold zN;dsimp only;refine QI (Rm (I:=fun x c st'=>st'=st/\∃la of,c=(none,la,of)/\la<of/\x+1<=of/\la<=h0/\bd (h0-la)=false) ?_ ?_ ⟨rfl,0,1,rfl,Nq,b_ _,D' _,e0⟩)
  ·rintro x c st' _ hx ⟨rfl,la,of,rfl,g1,g2,g3,g4⟩;dsimp only;by_cases z:of>=h0+1
   ·rw[if_pos z];exact QO (dwn la of g1 g3 g4 (.inl z))
   rw[if_neg z];have z:=Nat.lt_succ_iff.mp (OP z);refine QI (hb _ _ (MC (Mr ..) hh) ?_);dsimp only;cases e:bd (h0-of)with
   |true=>
    simp only[if_true];exact QO (dwn la of g1 g3 g4 (.inr ⟨z,e⟩))
   |false=>
    simp only[LQ,if_false];exact QO ⟨rfl,_,_,rfl,by lia,by lia,z,e⟩
  rintro c st' ⟨rfl,la,of,rfl,g1,g2,g3,g4⟩;exact dwn la of g1 g3 g4 (.inl (by lia))
end
noncomputable def setG(g:Nat):StateT QJ Sem Unit:=modify fun s=>RS (kindOf s) (QF s) (QT s) g (Ri s)
noncomputable def dn(a b out:Array QE)(i j:Nat):Array QE:=out++a.extract i a.size++b.extract j b.size
noncomputable def jK(a b out:Array QE)(i j:Nat):Array QE:=out++b.extract j b.size++a.extract i a.size
theorem HN(a b:Array QE):mLo a b=(do
 rule "list.sort.merge-lo"
 let mut out:Array QE:=#[<-Rn b 0]
 let mut i:=0
 let mut j:=1
 if j == b.size then return dn a b out i j
 if i+1 == a.size then return jK a b out i j
 let mut mg:=Ut (<-get)
 for _ in [0:a.size+b.size]do
  let mut ca:=0
  let mut cb:=0
  for _ in [0:a.size+b.size]do
   let some bw <-lt' (<-Rn b j) (<-Rn a i) | return dn a b out i j
   if bw then
    out:=out.push (<-Rn b j);j:=j+1;cb:=cb+1;ca:=0
    if j == b.size then return dn a b out i j
    if cb>=mg then break
   else
    out:=out.push (<-Rn a i);i:=i+1;ca:=ca+1;cb:=0
    if i+1 == a.size then return jK a b out i j
    if ca>=mg then break
  rule "list.sort.gallop"
  mg:=mg+1
  for _ in [0:a.size+b.size]do
   if mg > 1 then mg:=mg-1
   setG mg
   let some k <-gal false (<-Rn b j) a i (a.size-i) 0 | return dn a b out i j
   ca:=k
   if k > 0 then
    out:=out++a.extract i (i+k);i:=i+k
    if i+1 == a.size then return jK a b out i j
    if i == a.size then return dn a b out i j
   out:=out.push (<-Rn b j);j:=j+1
   if j == b.size then return dn a b out i j
   let some k <-gal true (<-Rn a i) b j (b.size-j) 0 | return dn a b out i j
   cb:=k
   if k > 0 then
    out:=out++b.extract j (j+k);j:=j+k
    if j == b.size then return dn a b out i j
   out:=out.push (<-Rn a i);i:=i+1
   if i+1 == a.size then return jK a b out i j
   if ca<7&&cb<7 then break
  mg:=mg+1
  setG mg
 unsupported "internal:list.sort.merge-bound"):=rfl
abbrev GS:=Option (Array QE)×Array QE×Nat×Nat×Nat×Nat×Nat
abbrev FS:=Option (Array QE)×Array QE×Nat×Nat×Nat×Nat
abbrev OS:=Option (Array QE)×Array QE×Nat×Nat×Nat
noncomputable def g3(a b out:Array QE)(i j mg ca cb:Nat):StateT QJ Sem (ForInStep GS):=do
 let y <-Rn a i
 if(i+1+1 == a.size)=true then pure (QN (some (jK a b (out.push y) (i+1) j),out.push y,i+1,j,mg,ca,cb))
 else if(decide (ca<7)&&decide (cb<7))=true then pure (QN (none,out.push y,i+1,j,mg,ca,cb))
 else pure (QV (none,out.push y,i+1,j,mg,ca,cb))
noncomputable def g2(a b out:Array QE)(i j mg ca cb:Nat):StateT QJ Sem (ForInStep GS):=do
 let y <-Rn b j
 if(j+1 == b.size)=true then pure (QN (some (dn a b (out.push y) i (j+1)),out.push y,i,j+1,mg,ca,cb))
 else do
  let z <-Rn a i
  let some k <-gal true z b (j+1) (b.size-(j+1)) 0 | pure (QN (some (dn a b (out.push y) i (j+1)),out.push y,i,j+1,mg,ca,cb))
  if k > 0 then
    if(j+1+k == b.size)=true then pure (QN (some (dn a b (out.push y++b.extract (j+1) (j+1+k)) i (j+1+k)),out.push y++b.extract (j+1) (j+1+k),i,j+1+k,mg,ca,k))
    else g3 a b (out.push y++b.extract (j+1) (j+1+k)) i (j+1+k) mg ca k
  else g3 a b (out.push y) i (j+1) mg ca k
noncomputable def g1(a b out:Array QE)(i j mg ca cb:Nat):StateT QJ Sem (ForInStep GS):=do
 setG mg
 let y <-Rn b j
 let some k <-gal false y a i (a.size-i) 0 | pure (QN (some (dn a b out i j),out,i,j,mg,ca,cb))
 if k > 0 then
   if(i+k+1 == a.size)=true then pure (QN (some (jK a b (out++a.extract i (i+k)) (i+k) j),out++a.extract i (i+k),i+k,j,mg,k,cb))
   else if(i+k == a.size)=true then pure (QN (some (dn a b (out++a.extract i (i+k)) (i+k) j),out++a.extract i (i+k),i+k,j,mg,k,cb))
   else g2 a b (out++a.extract i (i+k)) (i+k) j mg k cb
 else g2 a b out i j mg k cb
noncomputable def f1(a b out:Array QE)(i j ca cb mg:Nat):StateT QJ Sem (ForInStep FS):=do
 let y <-Rn b j
 let z <-Rn a i
 let some bw <-lt' y z | pure (QN (some (dn a b out i j),out,i,j,ca,cb))
 if bw=true then do
   let y <-Rn b j
   if(j+1 == b.size)=true then pure (QN (some (dn a b (out.push y) i (j+1)),out.push y,i,j+1,0,cb+1))
   else if cb+1>=mg then pure (QN (none,out.push y,i,j+1,0,cb+1))else pure (QV (none,out.push y,i,j+1,0,cb+1))
 else do
   let z <-Rn a i
   if(i+1+1 == a.size)=true then pure (QN (some (jK a b (out.push z) (i+1) j),out.push z,i+1,j,ca+1,0))
   else if ca+1>=mg then pure (QN (none,out.push z,i+1,j,ca+1,0))else pure (QV (none,out.push z,i+1,j,ca+1,0))
noncomputable def oLo(a b:Array QE)(c:OS):StateT QJ Sem (ForInStep OS):=do
 let r <-forIn [0:a.size+b.size] ((none,c.2.1,c.2.2.1,c.2.2.2.1,0,0):FS) fun _ d=>f1 a b d.2.1 d.2.2.1 d.2.2.2.1 d.2.2.2.2.1 d.2.2.2.2.2 c.2.2.2.2
 match r.1 with
 |some q=>pure (QN (some q,r.2.1,r.2.2.1,r.2.2.2.1,c.2.2.2.2))
 |none=>do
  liftM (rule "list.sort.gallop")
  let e <-forIn [0:a.size+b.size] ((none,r.2.1,r.2.2.1,r.2.2.2.1,c.2.2.2.2+1,r.2.2.2.2.1,r.2.2.2.2.2):GS) fun _ d=>
   if d.2.2.2.2.1 > 1 then g1 a b d.2.1 d.2.2.1 d.2.2.2.1 (d.2.2.2.2.1-1) d.2.2.2.2.2.1 d.2.2.2.2.2.2 else g1 a b d.2.1 d.2.2.1 d.2.2.2.1 d.2.2.2.2.1 d.2.2.2.2.2.1 d.2.2.2.2.2.2
  match e.1 with
  |some q=>pure (QN (some q,e.2.1,e.2.2.1,e.2.2.2.1,e.2.2.2.2.1))
  |none=>do
   setG (e.2.2.2.2.1+1)
   pure (QV (none,e.2.1,e.2.2.1,e.2.2.2.1,e.2.2.2.2.1+1))
set_option maxHeartbeats 2000000 in
theorem EY(a b:Array QE):mLo a b=(do
  liftM (rule "list.sort.merge-lo")
  let y <-Rn b 0
  if(1 == b.size)=true then pure (dn a b #[y] 0 1)
  else if(0+1 == a.size)=true then pure (jK a b #[y] 0 1)
  else do
   let st <-get
   let r <-forIn [0:a.size+b.size] ((none,#[y],0,1,Ut st):OS) fun _ c=>oLo a b c
   match r.1 with
   |some q=>pure q
   |none=>liftM (unsupported "internal:list.sort.merge-bound":Sem (Array QE))):=by
 rw[HN];unfold oLo;refine congrArg (bind _) (funext fun _=>?_);refine congrArg (bind _) (funext fun y=>?_);refine ite_congr rfl (fun _=>rfl) (fun _=>?_);refine ite_congr rfl (fun _=>rfl) (fun _=>?_);refine congrArg (bind _) (funext fun st=>?_);refine congr (congrArg bind (congrArg (forIn _ _) (funext fun _=>funext fun c=>?_))) ?_
 ·refine congr (congrArg bind (congrArg (forIn _ _) (funext fun _=>funext fun d=>?_))) ?_
  ·unfold f1
   rfl
  funext r;obtain⟨r1,r2⟩:=r;cases r1 with
  |some q=>rfl
  |none=>
   refine congrArg (bind _) (funext fun _=>?_);refine congr (congrArg bind (congrArg (forIn _ _) (funext fun _=>funext fun d=>?_))) ?_
   ·
    unfold g1;refine ite_congr rfl (fun _=>?_) (fun _=>?_)
    all_goals
     refine congrArg (bind _) (funext fun _=>?_);refine congrArg (bind _) (funext fun y=>?_);refine congrArg (bind _) (funext fun r=>?_);cases r with
     |none=>rfl
     |some k=>
      refine ite_congr rfl (fun _=>?_) (fun _=>?_)
      ·refine ite_congr rfl (fun _=>rfl) (fun _=>?_);refine ite_congr rfl (fun _=>rfl) (fun _=>?_);unfold g2
       rfl
      unfold g2
      rfl
   funext e;obtain⟨e1,e2⟩:=e;cases e1 <;> rfl
 funext e;obtain⟨e1,e2⟩:=e;cases e1 <;> rfl
noncomputable def cE(M:SH)(A:QY)(E:Qy->QB->Prop)(s:QB)(kd:RA)(rk:QE->Nat)(S:QE->Prop):Prop:=
 ∀(x y:QE) (st:QJ) (Q:Option Bool->QJ->Prop),S x->S y->kindOf st=kd->Q (some (decide (rk x<rk y))) st->wpS M A E s (lt' x y) Q st
structure Keep (st st':QJ):Prop where
 k:kindOf st'=kindOf st
 a:QF st'=QF st
 p:QT st'=QT st
 f:Ri st'=Ri st
theorem Keep.cc :Keep st st:=⟨rfl,rfl,rfl,rfl⟩
theorem Keep.g {st st':QJ}(h:Keep st st')(g:Nat):Keep st (RS (kindOf st') (QF st') (QT st') g (Ri st')):=⟨h.k,h.a,h.p,h.f⟩
variable {a b:List QE}{i j:Nat}{y:QE}
section
variable{rk:QE->Nat}
abbrev Srt(rk:QE->Nat)(l:List QE):Prop:=l.Pairwise fun x y=>rk x<=rk y
structure MS (rk:QE->Nat) (a b out:List QE) (i j:Nat):Prop where
 perm:out.Perm (a.take i++b.take j)
 srt:Srt rk out
 le:∀x∈out,(∀y∈a.drop i,rk x<=rk y)/\∀y∈b.drop j,rk x<=rk y
noncomputable def Res(rk:QE->Nat)(a b r:List QE):Prop:=r.Perm (a++b)/\Srt rk r
theorem MS.tT {out:List QE}{k:Nat}(h:MS rk a b out i j)(sa:Srt rk a)(hc:∀y∈(a.drop i).take k,∀z∈b.drop j,rk y<=rk z):MS rk a b (out++(a.drop i).take k) (i+k) j:=by
 have sd:Srt rk (a.drop i):=Mb (Nw _ _) sa;have split:a.drop i=(a.drop i).take k++a.drop (i+k):=by rw[<-NY];exact(F' k (a.drop i)).symm
 refine⟨?_,?_,fun x hx=>?_⟩
 ·rw[OF];refine(h.perm.append_right _).trans ?_;rw[l_,l_];exact Mc _ Mz
 ·refine C_.mpr ⟨h.srt,Mb (Nu _ _) sd,fun x hx y hy=>(h.le x hx).1 y (Mq hy)⟩
 rcases x_.mp hx with hx|hx
 ·refine⟨fun y hy=>(h.le x hx).1 y ?_,(h.le x hx).2⟩;rw[split];exact n_ _ hy
 refine⟨fun y hy=>?_,hc x hx⟩;rw[split]at sd;exact(C_.mp sd).2.2 x hx y hy
theorem MS.uG {out:List QE}{k:Nat}(h:MS rk a b out i j)(sb:Srt rk b)(hc:∀y∈(b.drop j).take k,∀z∈a.drop i,rk y<=rk z):MS rk a b (out++(b.drop j).take k) i (j+k):=by
 have sd:Srt rk (b.drop j):=Mb (Nw _ _) sb;have split:b.drop j=(b.drop j).take k++b.drop (j+k):=by rw[<-NY];exact(F' k (b.drop j)).symm
 refine⟨?_,?_,fun x hx=>?_⟩
 ·rw[OF,<-l_];exact h.perm.append_right _
 ·refine C_.mpr ⟨h.srt,Mb (Nu _ _) sd,fun x hx y hy=>(h.le x hx).2 y (Mq hy)⟩
 rcases x_.mp hx with hx|hx
 ·refine⟨(h.le x hx).1,fun y hy=>(h.le x hx).2 y ?_⟩;rw[split];exact n_ _ hy
 refine⟨hc x hx,fun y hy=>?_⟩;rw[split]at sd;exact(C_.mp sd).2.2 x hx y hy
theorem MS.all {out:List QE}(h:MS rk a b out i j)(h1:a.length<=i)(h2:b.length<=j):Res rk a b out:=by have:=h.perm;rw[Ma h1,Ma h2]at this;exact⟨this,h.srt⟩
theorem lx{l:List QE}(i:Nat):(l.drop i).take l.length=l.drop i:=Ma (by rw[H_];lia)
theorem MS.done {out:List QE}(h:MS rk a b out i j)(sa:Srt rk a)(sb:Srt rk b)(e:a.length<=i\/b.length<=j):Res rk a b (out++a.drop i++b.drop j):=by
 have h1:=h.tT (k:=a.length) sa fun y hy z hz=>by
  rcases e with e|e
  ·rw[MF e]at hy;simp at hy
  rw[MF e]at hz;simp at hz
 have h2:=h1.uG (k:=b.length) sb fun y hy z hz=>by rw[MF (by lia)]at hz;simp at hz
 rw[lx,lx]at h2;exact h2.all (by lia) (by lia)
theorem MS.last {out:List QE}(h:MS rk a b out i j)(sa:Srt rk a)(sb:Srt rk b)(e:∀y∈b.drop j,∀z∈a.drop i,rk y<=rk z):Res rk a b (out++b.drop j++a.drop i):=by
 have h1:=h.uG (k:=b.length) sb fun y hy z hz=>e y (Mq hy) z hz;have h2:=h1.tT (k:=a.length) sa fun y hy z hz=>by rw[MF (by lia)]at hz;simp at hz
 rw[lx,lx]at h2;exact h2.all (by lia) (by lia)
theorem oZ(a:Array QE)(i:Nat):(a.extract i a.size).toList=a.toList.drop i:=by rw[NH,M_];exact Ma (by rw[H_,gV];exact b_ _)
theorem l7(a:Array QE)(i k:Nat):(a.extract i (i+k)).toList=(a.toList.drop i).take k:=by rw[NH,M_,NZ]
theorem drop_one{l:List QE}(h:l[i]?=some y):(l.drop i).take 1=[y]:=by obtain⟨hl,e⟩:=f_.mp h;rw[NP hl,List.take_succ_cons,List.take_zero,e]
theorem wx{l:List QE}(h:l[i]?=some y)(s:Srt rk l):∀z∈l.drop i,rk y<=rk z:=by
 obtain⟨hl,e⟩:=f_.mp h;intro z hz;have sd:Srt rk (l.drop i):=Mb (Nw _ _) s;rw[NP hl,e]at sd hz;rcases m_.mp hz with rfl|hz
 ·exact b_ _
 exact(Mn.mp sd).1 z hz
theorem qa{l:List QE}(s:Srt rk l){x:QE}(hij:i<=j)(hx:l[i]?=some x)(hy:l[j]?=some y):rk x<=rk y:=by refine wx hx s y ?_;rw[NA];exact⟨j-i,by rw[M4,show i+(j-i)=j by lia];exact hy⟩
theorem cU{l:List QE}{k:Nat}(h:y∈(l.drop i).take k):∃j,j<k/\l[i+j]?=some y:=by
 obtain⟨j,hj⟩:=NA.mp h;rw[Nn]at hj;split at hj
 ·next hlt=>exact⟨j,hlt,by rw[M4]at hj;exact hj⟩
 cases hj
theorem je{l:List QE}(h:y∈l.drop i):∃j,l[i+j]?=some y:=by obtain⟨j,hj⟩:=NA.mp h;exact⟨j,by rw[M4]at hj;exact hj⟩
end
variable {p:QE}
section
variable{M:SH}{A:QY}{E:Qy->QB->Prop}{s:QB}{kd:RA}{rk:QE->Nat}{S:QE->Prop}
theorem aX{Q:QE->QJ->Prop}(h:ar[i]?=some p)(q:Q p st):wpS M A E s (Rn ar i) Q st:=by rw[elem'_eq,h];exact QO q
theorem H0{Q:Option Bool->QJ->Prop}(L:cE M A E s kd rk S)(hk:kindOf st=kd)(hp:ar[b0+i]?=some p)(Sp:S p)(Sk:S ky)
  (q:Q (some (if lf=true then decide (rk p<rk ky)else !decide (rk ky<rk p))) st):wpS M A E s (bey lf ky ar b0 i) Q st:=by
 unfold bey;refine QI (aX hp ?_);cases lf with
 |true=>exact L p ky st _ Sp Sk hk q
 |false=>exact QI (L ky p st _ Sk Sp hk (QO q))
theorem jn{h0:Nat}(L:cE M A E s kd rk S)(hk:kindOf st=kd)(hh:h0<n)(hsz:b0+n<=ar.size)(Sa:∀(i:Nat) p,ar[i]?=some p->S p)(Sk:S ky)
  (srt:∀(i j:Nat) p q,i<=j->j<n->ar[b0+i]?=some p->ar[b0+j]?=some q->rk p<=rk q)
  (h:∀k,k<=n->(∀(i:Nat) p,i<k->ar[b0+i]?=some p->if lf=true then rk p<rk ky else rk p<=rk ky)->(∀(i:Nat) p,k<=i->i<n->ar[b0+i]?=some p->if lf=true then rk ky<=rk p else rk ky<rk p)->Q (some k) st) :
  wpS M A E s (gal lf ky ar b0 n h0) Q st:=by
 have get:∀i,i<n->ar[b0+i]?=some (ar.getD (b0+i) (Ra,Ra)):=fun i hi=>by
  rw[M5,i_ (by lia)]
  rfl
 refine IF (bd:=fun i=>if lf=true then decide (rk (ar.getD (b0+i) (Ra,Ra))<rk ky)else !decide (rk ky<rk (ar.getD (b0+i) (Ra,Ra)))) hh (fun i R hi r=>H0 L hk (get i hi) (Sa _ _ (get i hi)) Sk r) ?_ ?_
 ·intro i j hij hj hb;have:=srt i j _ _ hij hj (get i (by lia)) (get j hj);cases lf with
  |true=>
   simp only[if_true,decide_eq_true_eq]at hb ⊢;lia
  |false=>
   simp only[LQ,if_false,Bool.not_eq_true',decide_eq_false_iff_not]at hb ⊢;lia
 intro k hk' h1 h2;refine h k hk' (fun i p hi hp=>?_) (fun i p h3 h4 hp=>?_)
 ·have e:=get i (by lia);rw[hp]at e;cases e;have:=h1 i hi;cases lf with
  |true=>simpa using this
  |false=>simpa using this
 have e:=get i h4;rw[hp]at e;cases e;have:=h2 i h3 h4;cases lf with
 |true=>simpa using this
 |false=>simpa using this
theorem oY{g:Nat}{Q:Unit->QJ->Prop}(q:Q () (RS (kindOf st) (QF st) (QT st) g (Ri st))):wpS M A E s (setG g) Q st:=TJ q
end
variable {ca cb lo mg:Nat}{out:Array QE}{st':QJ}
section
variable{M:SH}{A:QY}{E:Qy->QB->Prop}{s:QB}{kd:RA}{rk:QE->Nat}{S:QE->Prop}{a b:Array QE}
structure LoOk (rk:QE->Nat) (S:QE->Prop) (a b:Array QE):Prop where
 sa:Srt rk a.toList
 sb:Srt rk b.toList
 Sa:∀(i:Nat) p,a[i]?=some p->S p
 Sb:∀(i:Nat) p,b[i]?=some p->S p
 pa:0<a.size
 pb:0<b.size
 first:∀p,b[0]?=some p->∀z∈a.toList,rk p<=rk z
 last:∀p,a[a.size-1]?=some p->∀z∈b.toList,rk z<=rk p
theorem LoOk.oV (h:LoOk rk S a b)(m:MS rk a.toList b.toList out.toList i j)(e:i+1=a.size):Res rk a.toList b.toList (jK a b out i j).toList:=by
 unfold jK;rw[LM,LM,oZ,oZ];refine m.last h.sa h.sb fun y hy z hz=>?_;obtain⟨k,hk⟩:=je hz;have hk':i+k<a.toList.length:=(f_.mp hk).1;rw[gV]at hk';have k0:k=0:=by lia
 subst k0;refine h.last z ?_ y (NF hy);rw[<-f',show a.size-1=i+0 by lia];exact hk
theorem LoOk.kQ (h:LoOk rk S a b)(m:MS rk a.toList b.toList out.toList i j)(e:a.size<=i\/b.size<=j):Res rk a.toList b.toList (dn a b out i j).toList:=by unfold dn;rw[LM,LM,oZ,oZ];exact m.done h.sa h.sb (by rw[gV,gV];exact e)
structure LI (rk:QE->Nat) (a b out:Array QE) (i j:Nat):Prop where
 m:MS rk a.toList b.toList out.toList i j
 i:i+1<a.size
 j:j<b.size
theorem MS.my (m:MS rk a.toList b.toList out.toList i j)(H:LoOk rk S a b)(hy:b[j]?=some y)(hc:∀z∈a.toList.drop i,rk y<=rk z):MS rk a.toList b.toList (out.push y).toList i (j+1):=by
 have hy':b.toList[j]?=some y:=by rw[f'];exact hy
 have:=m.uG (k:=1) H.sb (by rw[drop_one hy'];intro w hw;rw[w_.mp hw];exact hc);rw[drop_one hy']at this;rw[MQ];exact this
theorem MS.nj (m:MS rk a.toList b.toList out.toList i j)(H:LoOk rk S a b)(hy:a[i]?=some y)(hc:∀z∈b.toList.drop j,rk y<=rk z):MS rk a.toList b.toList (out.push y).toList (i+1) j:=by
 have hy':a.toList[i]?=some y:=by rw[f'];exact hy
 have:=m.tT (k:=1) H.sa (by rw[drop_one hy'];intro w hw;rw[w_.mp hw];exact hc);rw[drop_one hy']at this;rw[MQ];exact this
theorem lq{l:Array QE}(srt:Srt rk l.toList)(hy:l[i]?=some y):∀z∈l.toList.drop i,rk y<=rk z:=wx (by rw[f'];exact hy) srt
noncomputable def fL(rk:QE->Nat)(a b:Array QE)(lo:Nat)(st:QJ)(r:Option (Array QE))(out:Array QE)(i j:Nat)(st':QJ):Prop:=
 Keep st st'/\match r with
 |some q=>Res rk a.toList b.toList q.toList
 |none=>LI rk a b out i j/\lo<i+j
theorem K5{Q:ForInStep FS->QJ->Prop}(L:cE M A E s kd rk S)(H:LoOk rk S a b)(hk:kindOf st=kd)(K:Keep st st')(I:LI rk a b out i j)
  (h:∀(d:Bool) (c:FS),fL rk a b (i+j) st c.1 c.2.1 c.2.2.1 c.2.2.2.1 st'->(d=false->c.1=none)->Q (if d=true then QN c else QV c) st'):wpS M A E s (f1 a b out i j ca cb mg) Q st':=by
 have hi:i<a.size:=by have:=I.i;lia
 obtain⟨y,hy⟩:∃y,b[j]?=some y:=⟨_,i_ I.j⟩;obtain⟨z,hz⟩:∃z,a[i]?=some z:=⟨_,i_ hi⟩;unfold f1;refine QI (aX hy (QI (aX hz (QI (L y z st' _ (H.Sb _ _ hy) (H.Sa _ _ hz) (K.k.trans hk) ?_)))));dsimp only;by_cases w:rk y<rk z
 ·rw[decide_eq_true w,if_pos rfl];have m:=I.m.my H hy fun u hu=>t_ (J_ w) (lq H.sa hz u hu);refine QI (aX hy ?_);by_cases e:j+1=b.size
  ·rw[if_pos (by rw[e];exact beq_self_eq_true _)];exact QO (h true _ ⟨K,H.kQ m (.inr (by lia))⟩ (fun z=>nomatch z))
  rw[if_neg (by simpa using e)];have I2:LI rk a b (out.push y) i (j+1):=⟨m,I.i,by have:=I.j;lia⟩;split
  ·exact QO (h true _ ⟨K,I2,by dsimp only;lia⟩ (fun z=>nomatch z))
  exact QO (h false _ ⟨K,I2,by dsimp only;lia⟩ (fun _=>rfl))
 rw[decide_eq_false w,if_neg (by simp)];have m:=I.m.nj H hz fun u hu=>t_ (by lia) (lq H.sb hy u hu)
 refine QI (aX hz ?_);by_cases e:i+1+1=a.size
 ·rw[if_pos (by rw[e];exact beq_self_eq_true _)];exact QO (h true _ ⟨K,H.oV m e⟩ (fun z=>nomatch z))
 rw[if_neg (by simpa using e)];have I2:LI rk a b (out.push z) (i+1) j:=⟨m,by have:=I.i;lia,I.j⟩;split
 ·exact QO (h true _ ⟨K,I2,by dsimp only;lia⟩ (fun z=>nomatch z))
 exact QO (h false _ ⟨K,I2,by dsimp only;lia⟩ (fun _=>rfl))
theorem G7{Q:ForInStep GS->QJ->Prop}(H:LoOk rk S a b)(K:Keep st st')(I:LI rk a b out i j)(hc:∀z,a[i]?=some z->∀u∈b.toList.drop j,rk z<=rk u)(hl:lo<=i+j)
  (h:∀(d:Bool) (c:GS),fL rk a b lo st c.1 c.2.1 c.2.2.1 c.2.2.2.1 st'->(d=false->c.1=none)->Q (if d=true then QN c else QV c) st'):wpS M A E s (g3 a b out i j mg ca cb) Q st':=by
 have hi:i<a.size:=by have:=I.i;lia
 obtain⟨z,hz⟩:∃z,a[i]?=some z:=⟨_,i_ hi⟩;unfold g3;have m:=I.m.nj H hz (hc z hz);refine QI (aX hz ?_);by_cases e:i+1+1=a.size
 ·rw[if_pos (by rw[e];exact beq_self_eq_true _)];exact QO (h true _ ⟨K,H.oV m e⟩ (fun z=>nomatch z))
 rw[if_neg (by simpa using e)];have I2:LI rk a b (out.push z) (i+1) j:=⟨m,by have:=I.i;lia,I.j⟩;split
 ·exact QO (h true _ ⟨K,I2,by dsimp only;lia⟩ (fun z=>nomatch z))
 exact QO (h false _ ⟨K,I2,by dsimp only;lia⟩ (fun _=>rfl))
theorem Gj{Q:ForInStep GS->QJ->Prop}(L:cE M A E s kd rk S)(H:LoOk rk S a b)(hk:kindOf st=kd)(K:Keep st st')(I:LI rk a b out i j)(hc:∀y,b[j]?=some y->∀u∈a.toList.drop i,rk y<=rk u)(hl:lo<=i+j)
  (h:∀(d:Bool) (c:GS),fL rk a b lo st c.1 c.2.1 c.2.2.1 c.2.2.2.1 st'->(d=false->c.1=none)->Q (if d=true then QN c else QV c) st'):wpS M A E s (g2 a b out i j mg ca cb) Q st':=by
 have hi:i<a.size:=by have:=I.i;lia
 obtain⟨y,hy⟩:∃y,b[j]?=some y:=⟨_,i_ I.j⟩;obtain⟨z,hz⟩:∃z,a[i]?=some z:=⟨_,i_ hi⟩;unfold g2;have m:=I.m.my H hy (hc y hy);refine QI (aX hy ?_);by_cases e:j+1=b.size
 ·rw[if_pos (by rw[e];exact beq_self_eq_true _)];exact QO (h true _ ⟨K,H.kQ m (.inr (by lia))⟩ (fun z=>nomatch z))
 rw[if_neg (by simpa using e)];have hj:j+1<b.size:=by have:=I.j;lia
 refine QI (aX hz (QI (jn L (K.k.trans hk) (by lia) (by lia) H.Sb (H.Sa _ _ hz) (fun p q x w h1 h2 h3 h4=>qa H.sb (i:=j+1+p) (j:=j+1+q) (by(clear h4 h3 h2 hj e m hz hy hi h hl hc I K hk H L;lia)) (by rw[f'];exact h3) (by rw[f'];exact h4)) fun k k1 k2 k3=>?_)));dsimp only;have after:∀u∈b.toList.drop (j+1+k),rk z<=rk u:=fun u hu=>by obtain⟨p,hp⟩:=je hu;rw[f']at hp;have hlt:j+1+k+p<b.size:=(NJ.mp hp).1;have:=k3 (k+p) u (by lia) (by(clear hp hu k3 k2 k1 hj e m hz hy hi h hl hc I K hk H L;lia)) (by rw[show j+1+(k+p)=j+1+k+p by(clear hlt hp hu k3 k2 k1 hj e m hz hy hi h hl hc I K hk H L;lia)];exact hp);simpa using this
 by_cases pk:k > 0
 ·rw[if_pos pk];have m2:MS rk a.toList b.toList (out.push y++b.extract (j+1) (j+1+k)).toList i (j+1+k):=by rw[LM,l7];refine m.uG H.sb fun u hu w hw=>?_;obtain⟨p,hp1,hp⟩:=cU hu;rw[f']at hp;have:=k2 p u hp1 hp;simp only[if_true]at this;exact t_ (J_ this) (lq H.sa hz w hw)
  by_cases e2:j+1+k=b.size
  ·rw[if_pos (by rw[e2];exact beq_self_eq_true _)];exact QO (h true _ ⟨K,H.kQ m2 (.inr (by(clear m2 pk after k3 k2 k1 hj e m hz hy hi h hl hc I K hk H L;lia)))⟩ (fun z=>nomatch z))
  rw[if_neg (by simpa using e2)];refine G7 H K ⟨m2,I.i,by(clear m2 after k3 k2 hj e m hz hy hi h hl hc I K hk H L;lia)⟩ (fun z' hz'=>?_) (by(clear e2 m2 pk after k3 k2 k1 hj e m hz hy hi h hc I K hk H L;lia)) h;rw[hz]at hz';cases hz';exact after
 rw[if_neg pk];have k0:k=0:=by lia
 subst k0;refine G7 H K ⟨m,I.i,by(clear pk after k3 k2 k1 e m hz hy hi h hl hc I K hk H L;omega)⟩ (fun z' hz'=>?_) (by lia) h;rw[hz]at hz';cases hz';exact after
theorem KA{Q:ForInStep GS->QJ->Prop}(L:cE M A E s kd rk S)(H:LoOk rk S a b)(hk:kindOf st=kd)(K:Keep st st')(I:LI rk a b out i j)
  (h:∀(d:Bool) (c:GS) (st2:QJ),fL rk a b (i+j) st c.1 c.2.1 c.2.2.1 c.2.2.2.1 st2->(d=false->c.1=none)->Q (if d=true then QN c else QV c) st2):wpS M A E s (g1 a b out i j mg ca cb) Q st':=by
 have hi:i<a.size:=by have:=I.i;lia
 obtain⟨y,hy⟩:∃y,b[j]?=some y:=⟨_,i_ I.j⟩;unfold g1;refine QI (oY (QI (aX hy ?_)));have K2:=K.g mg;revert K2;generalize RS (kindOf st') (QF st') (QT st') mg (Ri st')=st2;intro K2;refine QI (jn L (K2.k.trans hk) (by lia) (by lia) H.Sa (H.Sb _ _ hy) (fun p q x w h1 h2 h3 h4=>qa H.sa (i:=i+p) (j:=i+q) (by lia) (by rw[f'];exact h3) (by rw[f'];exact h4)) fun k k1 k2 k3=>?_);dsimp only;have after:∀u∈a.toList.drop (i+k),rk y<=rk u:=fun u hu=>by obtain⟨p,hp⟩:=je hu;rw[f']at hp;have hlt:i+k+p<a.size:=(NJ.mp hp).1;have:=k3 (k+p) u (by lia) (by lia) (by rw[show i+(k+p)=i+k+p by lia];exact hp);simp at this;lia
 by_cases pk:k > 0
 ·rw[if_pos pk];have m2:MS rk a.toList b.toList (out++a.extract i (i+k)).toList (i+k) j:=by rw[LM,l7];refine I.m.tT H.sa fun u hu w hw=>?_;obtain⟨p,hp1,hp⟩:=cU hu;rw[f']at hp;have:=k2 p u hp1 hp;simp at this;exact t_ this (lq H.sb hy w hw)
  by_cases e1:i+k+1=a.size
  ·rw[if_pos (by rw[e1];exact beq_self_eq_true _)];exact QO (h true _ _ ⟨K2,H.oV m2 e1⟩ (fun z=>nomatch z))
  rw[if_neg (by simpa using e1)];by_cases e2:i+k=a.size
  ·rw[if_pos (by rw[e2];exact beq_self_eq_true _)];exact QO (h true _ _ ⟨K2,H.kQ m2 (.inl (by lia))⟩ (fun z=>nomatch z))
  rw[if_neg (by simpa using e2)];refine Gj L H hk K2 ⟨m2,by(clear m2 after k3 k2 K2 hy hi h I K hk H L;lia),I.j⟩ (fun y' hy'=>?_) (by lia) fun d c x1 x2=>h d c _ x1 x2
  rw[hy]at hy';cases hy';exact after
 rw[if_neg pk];have k0:k=0:=by lia
 subst k0;refine Gj L H hk K2 I (fun y' hy'=>?_) (b_ _) fun d c x1 x2=>h d c _ x1 x2;rw[hy]at hy';cases hy';exact after
theorem GQ{Q:Array QE->QJ->Prop}(L:cE M A E s kd rk S)(H:LoOk rk S a b)(hk:kindOf st=kd)(h:∀r st',Keep st st'->Res rk a.toList b.toList r.toList->Q r st')(hr:∀x,QG M A (rule x) (fun _ s'=>s'=s) E s):wpS M A E s (mLo a b) Q st:=by
 rw[EY];obtain⟨y,hy⟩:∃y,b[0]?=some y:=⟨_,i_ H.pb⟩;have rl:∀{x:String}{R:Unit->QJ->Prop}{st':QJ},R () st'->wpS M A E s (liftM (rule x):StateT QJ Sem Unit) R st':=fun{x R st'} q=>Uu (Q7 (hr x) (fun _ _ z=>⟨z,q⟩) fun _ _ z=>z);refine QI (rl (QI (aX hy ?_)));have m0:MS rk a.toList b.toList (#[]:Array QE).toList 0 0:=⟨by simp,N1,fun x hx=>by simp at hx⟩;have m1:MS rk a.toList b.toList (#[y]:Array QE).toList 0 1:=m0.my H hy fun z hz=>H.first y hy z (by simpa using hz)
 by_cases e1:1=b.size
 ·rw[if_pos (by rw[<-e1];rfl)];exact QO (h _ _ .cc (H.kQ m1 (.inr (by lia))))
 rw[if_neg (by simpa using e1)];by_cases e2:0+1=a.size
 ·rw[if_pos (by rw[<-e2];rfl)];exact QO (h _ _ .cc (H.oV m1 e2))
 rw[if_neg (by simpa using e2)];refine QI (S0 ?_);have pa:=H.pa;have pb:=H.pb;refine QI (RF (Rm (I:=fun x (c:OS) st'=>c.1=none/\Keep st st'/\LI rk a b c.2.1 c.2.2.1 c.2.2.2.1/\x<c.2.2.1+c.2.2.2.1) (Q:=fun(c:OS) st'=>∃q,c.1=some q/\Keep st st'/\Res rk a.toList b.toList q.toList) ?_ ?_ ⟨rfl,.cc,⟨m1,by dsimp only;lia,by dsimp only;lia⟩,by show 0<0+1;lia⟩) ?_)
 ·rintro x ⟨c1,out,i,j,mg⟩ st1 _ hx ⟨rfl,K1,I1,px⟩;unfold oLo;dsimp only at I1 px ⊢;refine QI (RF (Rm (I:=fun x (c:FS) st'=>c.1=none/\Keep st st'/\LI rk a b c.2.1 c.2.2.1 c.2.2.2.1/\i+j+x<=c.2.2.1+c.2.2.2.1) (Q:=fun(c:FS) st'=>fL rk a b (i+j) st c.1 c.2.1 c.2.2.1 c.2.2.2.1 st') ?_ ?_ ⟨rfl,K1,I1,b_ _⟩) ?_)
  ·rintro x2 ⟨d1,out2,i2,j2,ca,cb⟩ st2 _ hx2 ⟨rfl,K2,I2,p2⟩;dsimp only at I2 p2 ⊢;refine K5 L H hk K2 I2 fun d c hs hn=>?_;cases d with
   |true=>
    show fL _ _ _ _ _ _ _ _ _ _;refine⟨hs.1,?_⟩;have h2:=hs.2;cases e:c.1 with
    |some q=>rw[e]at h2;exact h2
    |none=>rw[e]at h2;exact⟨h2.1,by have:=h2.2;(clear e h2 hn hs I2 K2 hx2 px I1 K1 hx pb pa e2 e1 m1 m0 rl hy hr h hk H L;lia)⟩
   |false=>
    have h2:=hs.2;rw[hn rfl]at h2;exact⟨hn rfl,hs.1,h2.1,by have:=h2.2;(clear h2 hn hs I2 K2 hx2 px I1 K1 hx pb pa e2 e1 m1 m0 rl hy hr h hk H L;lia)⟩
  ·rintro⟨c1,out2,i2,j2,ca,cb⟩ st2 ⟨rfl,K2,I2,p2⟩;dsimp only at I2 p2 ⊢;have:=I2.i;have:=I2.j
   (clear I2 K2 px I1 K1 hx pb pa e2 e1 m1 m0 rl hy hr h hk H L;lia)
  rintro⟨c1,out2,i2,j2,ca,cb⟩ st2 ⟨K2,h2⟩;cases c1 with
  |some q=>exact QO ⟨q,rfl,K2,h2⟩
  |none=>
   obtain⟨I2,p2⟩:=h2;dsimp only at I2 p2 ⊢;refine QI (rl ?_);refine QI (RF (Rm (I:=fun _ (c:GS) st'=>c.1=none/\Keep st st'/\LI rk a b c.2.1 c.2.2.1 c.2.2.2.1/\i+j<c.2.2.1+c.2.2.2.1) (Q:=fun(c:GS) st'=>fL rk a b (i+j) st c.1 c.2.1 c.2.2.1 c.2.2.2.1 st') ?_ ?_ ⟨rfl,K2,I2,p2⟩) ?_)
   ·rintro x3 ⟨d1,out3,i3,j3,mg3,ca3,cb3⟩ st3 _ hx3 ⟨rfl,K3,I3,p3⟩;dsimp only at I3 p3 ⊢;have go:∀mg',wpS M A E s (g1 a b out3 i3 j3 mg' ca3 cb3) (fun r st'=>match r with | .done c'=>fL rk a b (i+j) st c'.1 c'.2.1 c'.2.2.1 c'.2.2.2.1 st' | .yield c'=>c'.1=none/\Keep st st'/\LI rk a b c'.2.1 c'.2.2.1 c'.2.2.2.1/\i+j<c'.2.2.1+c'.2.2.2.1) st3:=fun mg'=>by
     refine KA L H hk K3 I3 fun d c st4 hs hn=>?_;cases d with
     |true=>
      show fL _ _ _ _ _ _ _ _ _ _;refine⟨hs.1,?_⟩;have h2:=hs.2;cases e:c.1 with
      |some q=>rw[e]at h2;exact h2
      |none=>rw[e]at h2;exact⟨h2.1,by have:=h2.2;(clear e h2 hn hs I3 K3 hx3 p2 I2 K2 px I1 K1 hx pb pa e2 e1 m1 m0 rl hy hr h hk H L;lia)⟩
     |false=>
      have h2:=hs.2;rw[hn rfl]at h2;exact⟨hn rfl,hs.1,h2.1,by have:=h2.2;(clear h2 hn hs I3 K3 hx3 p2 I2 K2 px I1 K1 hx pb pa e2 e1 m1 m0 rl hy hr h hk H L;lia)⟩
    split
    ·exact RF (go _) fun r st' h=>by cases r <;> exact h
    exact RF (go _) fun r st' h=>by cases r <;> exact h
   ·rintro⟨c1,out3,i3,j3,mg3,ca3,cb3⟩ st3 ⟨rfl,K3,I3,p3⟩;exact⟨K3,I3,p3⟩
   rintro⟨c1,out3,i3,j3,mg3,ca3,cb3⟩ st3 ⟨K3,h3⟩;cases c1 with
   |some q=>exact QO ⟨q,rfl,K3,h3⟩
   |none=>
    obtain⟨I3,p3⟩:=h3;refine QI (oY (QO ⟨rfl,K3.g _,I3,?_⟩));dsimp only at p3 ⊢;lia
 ·rintro⟨c1,out,i,j,mg⟩ st1 ⟨rfl,K1,I1,px⟩;have h1:=I1.i;have h2:=I1.j;dsimp only at h1 h2 px
  (clear I1 K1 pb pa e2 e1 m1 m0 rl hy hr h hk H L;lia)
 rintro⟨c1,out,i,j,mg⟩ st1 ⟨q,e,K1,r⟩;dsimp only at e;subst e;exact QO (h q st1 K1 r)
end
noncomputable def dnH(a b out:Array QE)(i j:Nat):Array QE:=a.extract 0 i++b.extract 0 j++out.reverse
noncomputable def eJ(a b out:Array QE)(i j:Nat):Array QE:=b.extract 0 j++a.extract 0 i++out.reverse
theorem Iz(a b:Array QE):mHi a b=(do
 rule "list.sort.merge-hi"
 let mut i:=a.size-1
 let mut j:=b.size
 let mut out:Array QE:=#[<-Rn a i]
 if i == 0 then return dnH a b out i j
 if j == 1 then return eJ a b out i j
 let mut mg:=Ut (<-get)
 for _ in [0:a.size+b.size]do
  let mut ca:=0
  let mut cb:=0
  for _ in [0:a.size+b.size]do
   let some aw <-lt' (<-Rn b (j-1)) (<-Rn a (i-1)) | return dnH a b out i j
   if aw then
    i:=i-1;out:=out.push (<-Rn a i);ca:=ca+1;cb:=0
    if i == 0 then return dnH a b out i j
    if ca>=mg then break
   else
    j:=j-1;out:=out.push (<-Rn b j);cb:=cb+1;ca:=0
    if j == 1 then return eJ a b out i j
    if cb>=mg then break
  rule "list.sort.gallop"
  mg:=mg+1
  for _ in [0:a.size+b.size]do
   if mg > 1 then mg:=mg-1
   setG mg
   let some at' <-gal false (<-Rn b (j-1)) a 0 i (i-1) | return dnH a b out i j
   let k:=i-at'
   ca:=k
   if k > 0 then
    out:=out++(a.extract at' i).reverse;i:=at'
    if i == 0 then return dnH a b out i j
   j:=j-1;out:=out.push (<-Rn b j)
   if j == 1 then return eJ a b out i j
   let some at' <-gal true (<-Rn a (i-1)) b 0 j (j-1) | return dnH a b out i j
   let k:=j-at'
   cb:=k
   if k > 0 then
    out:=out++(b.extract at' j).reverse;j:=at'
    if j == 1 then return eJ a b out i j
    if j == 0 then return dnH a b out i j
   i:=i-1;out:=out.push (<-Rn a i)
   if i == 0 then return dnH a b out i j
   if ca<7&&cb<7 then break
  mg:=mg+1
  setG mg
 unsupported "internal:list.sort.merge-bound"):=rfl
abbrev GT:=Option (Array QE)×Nat×Nat×Array QE×Nat×Nat×Nat
abbrev FT:=Option (Array QE)×Nat×Nat×Array QE×Nat×Nat
abbrev OT:=Option (Array QE)×Nat×Nat×Array QE×Nat
noncomputable def k3(a b out:Array QE)(i j mg ca cb:Nat):StateT QJ Sem (ForInStep GT):=do
 let y <-Rn a (i-1)
 if(i-1 == 0)=true then pure (QN (some (dnH a b (out.push y) (i-1) j),i-1,j,out.push y,mg,ca,cb))
 else if(decide (ca<7)&&decide (cb<7))=true then pure (QN (none,i-1,j,out.push y,mg,ca,cb))
 else pure (QV (none,i-1,j,out.push y,mg,ca,cb))
noncomputable def k2(a b out:Array QE)(i j mg ca cb:Nat):StateT QJ Sem (ForInStep GT):=do
 let y <-Rn b (j-1)
 if(j-1 == 1)=true then pure (QN (some (eJ a b (out.push y) i (j-1)),i,j-1,out.push y,mg,ca,cb))
 else do
  let z <-Rn a (i-1)
  let some at' <-gal true z b 0 (j-1) (j-1-1) | pure (QN (some (dnH a b (out.push y) i (j-1)),i,j-1,out.push y,mg,ca,cb))
  if j-1-at' > 0 then
    if(at' == 1)=true then pure (QN (some (eJ a b (out.push y++(b.extract at' (j-1)).reverse) i at'),i,at',out.push y++(b.extract at' (j-1)).reverse,mg,ca,j-1-at'))
    else if(at' == 0)=true then pure (QN (some (dnH a b (out.push y++(b.extract at' (j-1)).reverse) i at'),i,at',out.push y++(b.extract at' (j-1)).reverse,mg,ca,j-1-at'))
    else k3 a b (out.push y++(b.extract at' (j-1)).reverse) i at' mg ca (j-1-at')
  else k3 a b (out.push y) i (j-1) mg ca (j-1-at')
noncomputable def k1(a b out:Array QE)(i j mg ca cb:Nat):StateT QJ Sem (ForInStep GT):=do
 setG mg
 let y <-Rn b (j-1)
 let some at' <-gal false y a 0 i (i-1) | pure (QN (some (dnH a b out i j),i,j,out,mg,ca,cb))
 if i-at' > 0 then
   if(at' == 0)=true then pure (QN (some (dnH a b (out++(a.extract at' i).reverse) at' j),at',j,out++(a.extract at' i).reverse,mg,i-at',cb))
   else k2 a b (out++(a.extract at' i).reverse) at' j mg (i-at') cb
 else k2 a b out i j mg (i-at') cb
noncomputable def e1(a b out:Array QE)(i j ca cb mg:Nat):StateT QJ Sem (ForInStep FT):=do
 let y <-Rn b (j-1)
 let z <-Rn a (i-1)
 let some aw <-lt' y z | pure (QN (some (dnH a b out i j),i,j,out,ca,cb))
 if aw=true then do
   let z <-Rn a (i-1)
   if(i-1 == 0)=true then pure (QN (some (dnH a b (out.push z) (i-1) j),i-1,j,out.push z,ca+1,0))
   else if ca+1>=mg then pure (QN (none,i-1,j,out.push z,ca+1,0))else pure (QV (none,i-1,j,out.push z,ca+1,0))
 else do
   let y <-Rn b (j-1)
   if(j-1 == 1)=true then pure (QN (some (eJ a b (out.push y) i (j-1)),i,j-1,out.push y,0,cb+1))
   else if cb+1>=mg then pure (QN (none,i,j-1,out.push y,0,cb+1))else pure (QV (none,i,j-1,out.push y,0,cb+1))
noncomputable def oHi(a b:Array QE)(c:OT):StateT QJ Sem (ForInStep OT):=do
 let r <-forIn [0:a.size+b.size] ((none,c.2.1,c.2.2.1,c.2.2.2.1,0,0):FT) fun _ d=>e1 a b d.2.2.2.1 d.2.1 d.2.2.1 d.2.2.2.2.1 d.2.2.2.2.2 c.2.2.2.2
 match r.1 with
 |some q=>pure (QN (some q,r.2.1,r.2.2.1,r.2.2.2.1,c.2.2.2.2))
 |none=>do
  liftM (rule "list.sort.gallop")
  let e <-forIn [0:a.size+b.size] ((none,r.2.1,r.2.2.1,r.2.2.2.1,c.2.2.2.2+1,r.2.2.2.2.1,r.2.2.2.2.2):GT) fun _ d=>
   if d.2.2.2.2.1 > 1 then k1 a b d.2.2.2.1 d.2.1 d.2.2.1 (d.2.2.2.2.1-1) d.2.2.2.2.2.1 d.2.2.2.2.2.2 else k1 a b d.2.2.2.1 d.2.1 d.2.2.1 d.2.2.2.2.1 d.2.2.2.2.2.1 d.2.2.2.2.2.2
  match e.1 with
  |some q=>pure (QN (some q,e.2.1,e.2.2.1,e.2.2.2.1,e.2.2.2.2.1))
  |none=>do
   setG (e.2.2.2.2.1+1)
   pure (QV (none,e.2.1,e.2.2.1,e.2.2.2.1,e.2.2.2.2.1+1))
set_option maxHeartbeats 2000000 in
theorem EH(a b:Array QE):mHi a b=(do
  liftM (rule "list.sort.merge-hi")
  let y <-Rn a (a.size-1)
  if(a.size-1 == 0)=true then pure (dnH a b #[y] (a.size-1) b.size)
  else if(b.size == 1)=true then pure (eJ a b #[y] (a.size-1) b.size)
  else do
   let st <-get
   let r <-forIn [0:a.size+b.size] ((none,a.size-1,b.size,#[y],Ut st):OT) fun _ c=>oHi a b c
   match r.1 with
   |some q=>pure q
   |none=>liftM (unsupported "internal:list.sort.merge-bound":Sem (Array QE))):=by
 rw[Iz];unfold oHi;refine congrArg (bind _) (funext fun _=>?_);refine congrArg (bind _) (funext fun y=>?_);refine ite_congr rfl (fun _=>rfl) (fun _=>?_);refine ite_congr rfl (fun _=>rfl) (fun _=>?_);refine congrArg (bind _) (funext fun st=>?_);refine congr (congrArg bind (congrArg (forIn _ _) (funext fun _=>funext fun c=>?_))) ?_
 ·refine congr (congrArg bind (congrArg (forIn _ _) (funext fun _=>funext fun d=>?_))) ?_
  ·unfold e1
   rfl
  funext r;obtain⟨r1,r2⟩:=r;cases r1 with
  |some q=>rfl
  |none=>
   refine congrArg (bind _) (funext fun _=>?_);refine congr (congrArg bind (congrArg (forIn _ _) (funext fun _=>funext fun d=>?_))) ?_
   ·unfold k1;refine ite_congr rfl (fun _=>?_) (fun _=>?_)
    all_goals
     refine congrArg (bind _) (funext fun _=>?_);refine congrArg (bind _) (funext fun y=>?_);refine congrArg (bind _) (funext fun r=>?_);cases r with
     |none=>rfl
     |some k=>
      refine ite_congr rfl (fun _=>?_) (fun _=>?_)
      ·refine ite_congr rfl (fun _=>rfl) (fun _=>?_);unfold k2
       rfl
      unfold k2
      rfl
   funext e;obtain⟨e1,e2⟩:=e;cases e1 <;> rfl
 funext e;obtain⟨e1,e2⟩:=e;cases e1 <;> rfl
variable {o:List QE}{t:Nat}
section
variable{rk:QE->Nat}
structure MH (rk:QE->Nat) (a b o:List QE) (i j:Nat):Prop where
 perm:o.Perm (a.drop i++b.drop j)
 srt:Srt rk o
 le:∀x∈o,(∀y∈a.take i,rk y<=rk x)/\∀y∈b.take j,rk y<=rk x
theorem vN{l:List QE}(h:t<=i):l.drop t=(l.take i).drop t++l.drop i:=by
 by_cases hi:i<=l.length
 ·have e:=F' i l;have h2:(l.take i++l.drop i).drop t=(l.take i).drop t++l.drop i:=Oq (by rw[D_];lia);rw[e]at h2;exact h2
 rw[Ma (by lia),MF (by lia:l.length<=i),E_]
theorem lA{l:List QE}(h:t<=i):l.take i=l.take t++(l.take i).drop t:=by have:=F' t (l.take i);rw[List.take_take,Of h]at this;exact this.symm
theorem MH.tT (h:MH rk a b o i j)(sa:Srt rk a)(ht:t<=i)(hc:∀y∈(a.take i).drop t,∀z∈b.take j,rk z<=rk y):MH rk a b ((a.take i).drop t++o) t j:=by
 have st:Srt rk (a.take i):=Mb (Nu _ _) sa;refine⟨?_,?_,fun x hx=>?_⟩
 ·rw[vN (l:=a) ht,l_];exact Mc _ h.perm
 ·exact C_.mpr ⟨Mb (Nw _ _) st,h.srt,fun x hx y hy=>(h.le y hy).1 x (NF hx)⟩
 rcases x_.mp hx with hx|hx
 ·refine⟨fun y hy=>?_,hc x hx⟩;rw[lA ht]at st;exact(C_.mp st).2.2 y hy x hx
 refine⟨fun y hy=>(h.le x hx).1 y ?_,(h.le x hx).2⟩;rw[lA ht];exact y_ _ hy
theorem MH.uG (h:MH rk a b o i j)(sb:Srt rk b)(ht:t<=j)(hc:∀y∈(b.take j).drop t,∀z∈a.take i,rk z<=rk y):MH rk a b ((b.take j).drop t++o) i t:=by
 have st:Srt rk (b.take j):=Mb (Nu _ _) sb;refine⟨?_,?_,fun x hx=>?_⟩
 ·rw[vN (l:=b) ht];refine(Mc _ h.perm).trans ?_;rw[<-l_,<-l_];exact O4 _ Mz
 ·exact C_.mpr ⟨Mb (Nw _ _) st,h.srt,fun x hx y hy=>(h.le y hy).2 x (NF hx)⟩
 rcases x_.mp hx with hx|hx
 ·refine⟨hc x hx,fun y hy=>?_⟩;rw[lA ht]at st;exact(C_.mp st).2.2 y hy x hx
 refine⟨(h.le x hx).1,fun y hy=>(h.le x hx).2 y ?_⟩;rw[lA ht];exact y_ _ hy
theorem MH.done (h:MH rk a b o i j)(sa:Srt rk a)(sb:Srt rk b)(e:i=0\/j=0):Res rk a b (a.take i++b.take j++o):=by
 have h1:=h.uG (t:=0) sb (D' _) fun y hy z hz=>by
  rcases e with e|e
  ·rw[e]at hz;simp at hz
  rw[e]at hy;simp at hy
 have h2:=h1.tT (t:=0) sa (D' _) fun y hy z hz=>by simp at hz
 have p:=h2.perm;have q:=h2.srt;simp only[Na]at p q;rw[l_];exact⟨p,q⟩
theorem MH.first (h:MH rk a b o i j)(sa:Srt rk a)(sb:Srt rk b)(e:∀y∈a.take i,∀z∈b.take j,rk z<=rk y):Res rk a b (b.take j++a.take i++o):=by
 have h1:=h.tT (t:=0) sa (D' _) fun y hy z hz=>e y (by rw[Na]at hy;exact hy) z hz
 have h2:=h1.uG (t:=0) sb (D' _) fun y hy z hz=>by simp at hz
 have p:=h2.perm;have q:=h2.srt;simp only[Na]at p q;rw[l_];exact⟨p,q⟩
theorem p8(a:Array QE)(i:Nat):(a.extract 0 i).toList=a.toList.take i:=by rw[NH,M_,Na,Qf]
theorem yT(a:Array QE)(t i:Nat):(a.extract t i).toList=(a.toList.take i).drop t:=by rw[NH,M_,List.drop_take]
theorem take_one{l:List QE}(h0:0<i)(h:l[i-1]?=some y):(l.take i).drop (i-1)=[y]:=by
 obtain⟨hl,e⟩:=f_.mp h;have:l.take i=l.take (i-1)++[y]:=by
  conv=>lhs;rw[show i=i-1+1 by lia,LP,h]
  rfl
 rw[this,Oq (by rw[D_];omega),MF (by rw[D_];omega)]
 rfl
theorem iz{l:List QE}(h:y∈l.take i):∃j,j<i/\l[j]?=some y:=by
 obtain⟨j,hj⟩:=NA.mp h;rw[Nn]at hj;split at hj
 ·next hlt=>exact⟨j,hlt,hj⟩
 cases hj
theorem vh{l:List QE}(h:y∈(l.take i).drop t):∃j,t<=j/\j<i/\l[j]?=some y:=by
 obtain⟨j,hj⟩:=je h;rw[Nn]at hj;split at hj
 ·next hlt=>exact⟨t+j,by lia,hlt,hj⟩
 cases hj
end
section
variable{M:SH}{A:QY}{E:Qy->QB->Prop}{s:QB}{kd:RA}{rk:QE->Nat}{S:QE->Prop}{a b:Array QE}
abbrev MHo(rk:QE->Nat)(a b out:Array QE)(i j:Nat):Prop:=MH rk a.toList b.toList out.toList.reverse i j
theorem LoOk.vI (h:LoOk rk S a b)(m:MHo rk a b out i j)(e:i=0\/j=0):Res rk a.toList b.toList (dnH a b out i j).toList:=by unfold dnH;rw[LM,LM,p8,p8,ME];exact m.done h.sa h.sb e
theorem LoOk.tN (h:LoOk rk S a b)(m:MHo rk a b out i j)(e:j=1):Res rk a.toList b.toList (eJ a b out i j).toList:=by
 unfold eJ;rw[LM,LM,p8,p8,ME];refine m.first h.sa h.sb fun y hy z hz=>?_;subst e;obtain⟨k,hk,hz'⟩:=iz hz;have k0:k=0:=by lia
 subst k0;exact h.first z (by rw[<-f'];exact hz') y (Mq hy)
structure HI (rk:QE->Nat) (a b out:Array QE) (i j:Nat):Prop where
 m:MHo rk a b out i j
 i0:0<i
 j1:1<j
 ia:i<=a.size
 jb:j<=b.size
theorem MH.nj (m:MHo rk a b out i j)(H:LoOk rk S a b)(h0:0<i)(hy:a[i-1]?=some y)(hc:∀z∈b.toList.take j,rk z<=rk y):MHo rk a b (out.push y) (i-1) j:=by
 have hy':a.toList[i-1]?=some y:=by rw[f'];exact hy
 have:=m.tT (t:=i-1) H.sa (by lia) (by rw[take_one h0 hy'];intro w hw;rw[w_.mp hw];exact hc);rw[take_one h0 hy']at this;show MH _ _ _ (out.push y).toList.reverse _ _;rw[MQ,NL];exact this
theorem MH.my (m:MHo rk a b out i j)(H:LoOk rk S a b)(h0:0<j)(hy:b[j-1]?=some y)(hc:∀z∈a.toList.take i,rk z<=rk y):MHo rk a b (out.push y) i (j-1):=by
 have hy':b.toList[j-1]?=some y:=by rw[f'];exact hy
 have:=m.uG (t:=j-1) H.sb (by lia) (by rw[take_one h0 hy'];intro w hw;rw[w_.mp hw];exact hc);rw[take_one h0 hy']at this;show MH _ _ _ (out.push y).toList.reverse _ _;rw[MQ,NL];exact this
theorem kX{l:Array QE}(srt:Srt rk l.toList)(hy:l[i-1]?=some y):∀z∈l.toList.take i,rk z<=rk y:=fun z hz=>by obtain⟨k,hk,hz'⟩:=iz hz;exact qa srt (i:=k) (j:=i-1) (by lia) hz' (by rw[f'];exact hy)
noncomputable def kS(rk:QE->Nat)(a b:Array QE)(lo:Nat)(st:QJ)(r:Option (Array QE))(out:Array QE)(i j:Nat)(st':QJ):Prop:=
 Keep st st'/\match r with
 |some q=>Res rk a.toList b.toList q.toList
 |none=>HI rk a b out i j/\i+j<lo
theorem HI.get (I:HI rk a b out i j):(∃y,b[j-1]?=some y)/\∃z,a[i-1]?=some z:=
 ⟨⟨_,i_ (z_ (OJ (Oe Nq I.j1) Nq) I.jb)⟩,⟨_,i_ (z_ (OJ I.i0 Nq) I.ia)⟩⟩
theorem JS{Q:ForInStep FT->QJ->Prop}(L:cE M A E s kd rk S)(H:LoOk rk S a b)(hk:kindOf st=kd)(K:Keep st st')(I:HI rk a b out i j)
  (h:∀(d:Bool) (c:FT),kS rk a b (i+j) st c.1 c.2.2.2.1 c.2.1 c.2.2.1 st'->(d=false->c.1=none)->Q (if d=true then QN c else QV c) st'):wpS M A E s (e1 a b out i j ca cb mg) Q st':=by
 obtain⟨⟨y,hy⟩,⟨z,hz⟩⟩:=I.get;have i0:=I.i0;have j1:=I.j1;have ia:=I.ia;have jb:=I.jb;unfold e1;refine QI (aX hy (QI (aX hz (QI (L y z st' _ (H.Sb _ _ hy) (H.Sa _ _ hz) (K.k.trans hk) ?_)))));dsimp only;by_cases w:rk y<rk z
 ·rw[decide_eq_true w,if_pos rfl];have m:=I.m.nj H i0 hz fun u hu=>t_ (kX H.sb hy u hu) (J_ w);refine QI (aX hz ?_);by_cases e:i-1=0
  ·rw[if_pos (by rw[e];rfl)];exact QO (h true _ ⟨K,H.vI m (.inl e)⟩ (fun z=>nomatch z))
  rw[if_neg (by simpa using e)];have I2:HI rk a b (out.push z) (i-1) j:=⟨m,Mg e,j1,t_ (Mr ..) ia,jb⟩;split
  ·exact QO (h true _ ⟨K,I2,by dsimp only;lia⟩ (fun z=>nomatch z))
  exact QO (h false _ ⟨K,I2,by dsimp only;lia⟩ (fun _=>rfl))
 rw[decide_eq_false w,if_neg (by simp)];have m:=I.m.my H (by lia) hy fun u hu=>t_ (kX H.sa hz u hu) (by lia)
 refine QI (aX hy ?_);by_cases e:j-1=1
 ·rw[if_pos (by rw[e];rfl)];exact QO (h true _ ⟨K,H.tN m e⟩ (fun z=>nomatch z))
 rw[if_neg (by simpa using e)];have I2:HI rk a b (out.push y) i (j-1):=⟨m,i0,by lia,ia,t_ (Mr ..) jb⟩;split
 ·exact QO (h true _ ⟨K,I2,by dsimp only;lia⟩ (fun z=>nomatch z))
 exact QO (h false _ ⟨K,I2,by dsimp only;lia⟩ (fun _=>rfl))
theorem G6{Q:ForInStep GT->QJ->Prop}(H:LoOk rk S a b)(K:Keep st st')(I:HI rk a b out i j)(hc:∀z,a[i-1]?=some z->∀u∈b.toList.take j,rk u<=rk z)(hl:i+j<=lo)
  (h:∀(d:Bool) (c:GT),kS rk a b lo st c.1 c.2.2.2.1 c.2.1 c.2.2.1 st'->(d=false->c.1=none)->Q (if d=true then QN c else QV c) st'):wpS M A E s (k3 a b out i j mg ca cb) Q st':=by
 obtain⟨⟨y,hy⟩,⟨z,hz⟩⟩:=I.get;have i0:=I.i0;have j1:=I.j1;have ia:=I.ia;have jb:=I.jb;unfold k3;have m:=I.m.nj H i0 hz (hc z hz);refine QI (aX hz ?_);by_cases e:i-1=0
 ·rw[if_pos (by rw[e];rfl)];exact QO (h true _ ⟨K,H.vI m (.inl e)⟩ (fun z=>nomatch z))
 rw[if_neg (by simpa using e)];have I2:HI rk a b (out.push z) (i-1) j:=⟨m,Mg e,j1,t_ (Mr ..) ia,jb⟩;split
 ·exact QO (h true _ ⟨K,I2,by dsimp only;lia⟩ (fun z=>nomatch z))
 exact QO (h false _ ⟨K,I2,by dsimp only;lia⟩ (fun _=>rfl))
theorem MHo.block (m:MHo rk a b out i j)(H:LoOk rk S a b)(ht:t<=j)(hc:∀y∈(b.toList.take j).drop t,∀z∈a.toList.take i,rk z<=rk y):MHo rk a b (out++(b.extract t j).reverse) i t:=by have:=m.uG H.sb ht hc;show MH _ _ _ (out++(b.extract t j).reverse).toList.reverse _ _;rw[LM,NL,ME,Pa,yT];exact this
theorem MHo.Iu (m:MHo rk a b out i j)(H:LoOk rk S a b)(ht:t<=i)(hc:∀y∈(a.toList.take i).drop t,∀z∈b.toList.take j,rk z<=rk y):MHo rk a b (out++(a.extract t i).reverse) t j:=by have:=m.tT H.sa ht hc;show MH _ _ _ (out++(a.extract t i).reverse).toList.reverse _ _;rw[LM,NL,ME,Pa,yT];exact this
theorem Gs{Q:ForInStep GT->QJ->Prop}(L:cE M A E s kd rk S)(H:LoOk rk S a b)(hk:kindOf st=kd)(K:Keep st st')(I:HI rk a b out i j)(hc:∀y,b[j-1]?=some y->∀u∈a.toList.take i,rk u<=rk y)(hl:i+j<=lo)
  (h:∀(d:Bool) (c:GT),kS rk a b lo st c.1 c.2.2.2.1 c.2.1 c.2.2.1 st'->(d=false->c.1=none)->Q (if d=true then QN c else QV c) st'):wpS M A E s (k2 a b out i j mg ca cb) Q st':=by
 obtain⟨⟨y,hy⟩,⟨z,hz⟩⟩:=I.get;have i0:=I.i0;have j1:=I.j1;have ia:=I.ia;have jb:=I.jb;unfold k2;have m:=I.m.my H (by lia) hy (hc y hy);refine QI (aX hy ?_);by_cases e:j-1=1
 ·rw[if_pos (by rw[e];rfl)];exact QO (h true _ ⟨K,H.tN m e⟩ (fun z=>nomatch z))
 rw[if_neg (by simpa using e)];refine QI (aX hz (QI (jn L (K.k.trans hk) (by lia) (by lia) H.Sb (H.Sa _ _ hz) (fun p q x w h1 h2 h3 h4=>qa H.sb (i:=0+p) (j:=0+q) (by lia) (by rw[f'];exact h3) (by rw[f'];exact h4)) fun t t1 t2 t3=>?_)));dsimp only;have before:∀u∈b.toList.take t,rk u<=rk z:=fun u hu=>by obtain⟨p,hp1,hp⟩:=iz hu;rw[f']at hp;have:=t2 p u hp1 (by rw[MN];exact hp);simp at this;lia
 by_cases pk:j-1-t > 0
 ·rw[if_pos pk];have m2:MHo rk a b (out.push y++(b.extract t (j-1)).reverse) i t:=by
   refine MHo.block m H (by omega) fun u hu w hw=>?_
   obtain⟨p,hp0,hp1,hp⟩:=vh hu;rw[f']at hp;have:=t3 p u hp0 hp1 (by rw[MN];exact hp);simp at this;exact t_ (kX H.sa hz w hw) this
  by_cases e1:t=1
  ·rw[if_pos (by rw[e1];rfl)];exact QO (h true _ ⟨K,H.tN m2 e1⟩ (fun z=>nomatch z))
  rw[if_neg (by simpa using e1)];by_cases e2:t=0
  ·rw[if_pos (by rw[e2];rfl)];exact QO (h true _ ⟨K,H.vI m2 (.inr e2)⟩ (fun z=>nomatch z))
  rw[if_neg (by simpa using e2)];refine G6 H K ⟨m2,i0,Np (Mg e2) (Sw e1),ia,t_ t1 (t_ (Mr ..) jb)⟩ (fun z' hz'=>?_) (by lia) h;rw[hz]at hz';cases hz';exact before
 rw[if_neg pk];have k0:t=j-1:=by lia
 refine G6 H K ⟨m,i0,by lia,ia,t_ (Mr ..) jb⟩ (fun z' hz'=>?_) (by lia) h;rw[hz]at hz';cases hz';rw[k0]at before;exact before
theorem J9{Q:ForInStep GT->QJ->Prop}(L:cE M A E s kd rk S)(H:LoOk rk S a b)(hk:kindOf st=kd)(K:Keep st st')(I:HI rk a b out i j)
  (h:∀(d:Bool) (c:GT) (st2:QJ),kS rk a b (i+j) st c.1 c.2.2.2.1 c.2.1 c.2.2.1 st2->(d=false->c.1=none)->Q (if d=true then QN c else QV c) st2):wpS M A E s (k1 a b out i j mg ca cb) Q st':=by
 obtain⟨⟨y,hy⟩,⟨z,hz⟩⟩:=I.get;have i0:=I.i0;have j1:=I.j1;have ia:=I.ia;have jb:=I.jb;unfold k1;refine QI (oY (QI (aX hy ?_)));have K2:=K.g mg;revert K2;generalize RS (kindOf st') (QF st') (QT st') mg (Ri st')=st2;intro K2;refine QI (jn L (K2.k.trans hk) (by lia) (by lia) H.Sa (H.Sb _ _ hy) (fun p q x w h1 h2 h3 h4=>qa H.sa (i:=0+p) (j:=0+q) (by lia) (by rw[f'];exact h3) (by rw[f'];exact h4)) fun t t1 t2 t3=>?_);dsimp only;have before:∀u∈a.toList.take t,rk u<=rk y:=fun u hu=>by obtain⟨p,hp1,hp⟩:=iz hu;rw[f']at hp;have:=t2 p u hp1 (by rw[MN];exact hp);simpa using this
 by_cases pk:i-t > 0
 ·rw[if_pos pk];have m2:MHo rk a b (out++(a.extract t i).reverse) t j:=by
   refine MHo.Iu I.m H (by omega) fun u hu w hw=>?_
   obtain⟨p,hp0,hp1,hp⟩:=vh hu;rw[f']at hp;have:=t3 p u hp0 hp1 (by rw[MN];exact hp);simp at this;exact t_ (kX H.sb hy w hw) (J_ this)
  by_cases e2:t=0
  ·rw[if_pos (by rw[e2];rfl)];exact QO (h true _ _ ⟨K2,H.vI m2 (.inl e2)⟩ (fun z=>nomatch z))
  rw[if_neg (by simpa using e2)];refine Gs L H hk K2 ⟨m2,by lia,j1,by lia,jb⟩ (fun y' hy'=>?_) (by lia) fun d c x1 x2=>h d c _ x1 x2
  rw[hy]at hy';cases hy';exact before
 rw[if_neg pk];have k0:t=i:=by lia
 rw[k0]at before;refine Gs L H hk K2 I (fun y' hy'=>?_) (b_ _) fun d c x1 x2=>h d c _ x1 x2;rw[hy]at hy';cases hy';exact before
theorem Hu{Q:Array QE->QJ->Prop}(L:cE M A E s kd rk S)(H:LoOk rk S a b)(hk:kindOf st=kd)(h:∀r st',Keep st st'->Res rk a.toList b.toList r.toList->Q r st')(hr:∀x,QG M A (rule x) (fun _ s'=>s'=s) E s):wpS M A E s (mHi a b) Q st:=by
 rw[EH];have pa:=H.pa;have pb:=H.pb;obtain⟨y,hy⟩:∃y,a[a.size-1]?=some y:=⟨_,i_ (by lia)⟩;have rl:∀{x:String}{R:Unit->QJ->Prop}{st':QJ},R () st'->wpS M A E s (liftM (rule x):StateT QJ Sem Unit) R st':=fun{x R st'} q=>Uu (Q7 (hr x) (fun _ _ z=>⟨z,q⟩) fun _ _ z=>z);refine QI (rl (QI (aX hy ?_)));have m0:MHo rk a b #[] a.size b.size:=⟨by simp,N1,fun x hx=>by simp at hx⟩;have m1:MHo rk a b #[y] (a.size-1) b.size:=m0.nj H pa hy fun z hz=>H.last y hy z (Mq hz);by_cases e1:a.size-1=0
 ·rw[if_pos (by rw[e1];rfl)];exact QO (h _ _ .cc (H.vI m1 (.inl e1)))
 rw[if_neg (by simpa using e1)];by_cases e2:b.size=1
 ·rw[if_pos (by rw[e2];rfl)];exact QO (h _ _ .cc (H.tN m1 e2))
 rw[if_neg (by simpa using e2)];refine QI (S0 ?_);refine QI (RF (Rm (I:=fun x (c:OT) st'=>c.1=none/\Keep st st'/\HI rk a b c.2.2.2.1 c.2.1 c.2.2.1/\c.2.1+c.2.2.1+x<a.size+b.size) (Q:=fun(c:OT) st'=>∃q,c.1=some q/\Keep st st'/\Res rk a.toList b.toList q.toList) ?_ ?_ ⟨rfl,.cc,⟨m1,by dsimp only;lia,by dsimp only;lia,by dsimp only;lia,by dsimp only;lia⟩,by dsimp only;lia⟩) ?_)
 ·rintro x ⟨c1,i,j,out,mg⟩ st1 _ hx ⟨rfl,K1,I1,px⟩;unfold oHi;dsimp only at I1 px ⊢;refine QI (RF (Rm (I:=fun x (c:FT) st'=>c.1=none/\Keep st st'/\HI rk a b c.2.2.2.1 c.2.1 c.2.2.1/\c.2.1+c.2.2.1+x<=i+j) (Q:=fun(c:FT) st'=>kS rk a b (i+j) st c.1 c.2.2.2.1 c.2.1 c.2.2.1 st') ?_ ?_ ⟨rfl,K1,I1,b_ _⟩) ?_)
  ·rintro x2 ⟨d1,i2,j2,out2,ca,cb⟩ st2 _ hx2 ⟨rfl,K2,I2,p2⟩;dsimp only at I2 p2 ⊢;refine JS L H hk K2 I2 fun d c hs hn=>?_;cases d with
   |true=>
    show kS _ _ _ _ _ _ _ _ _ _;refine⟨hs.1,?_⟩;have h2:=hs.2;cases e:c.1 with
    |some q=>rw[e]at h2;exact h2
    |none=>rw[e]at h2;exact⟨h2.1,by have:=h2.2;lia⟩
   |false=>
    have h2:=hs.2;rw[hn rfl]at h2;exact⟨hn rfl,hs.1,h2.1,by have:=h2.2;lia⟩
  ·rintro⟨c1,i2,j2,out2,ca,cb⟩ st2 ⟨rfl,K2,I2,p2⟩;dsimp only at I2 p2 ⊢;have:=I2.i0;have:=I2.j1;lia
  rintro⟨c1,i2,j2,out2,ca,cb⟩ st2 ⟨K2,h2⟩;cases c1 with
  |some q=>exact QO ⟨q,rfl,K2,h2⟩
  |none=>
   obtain⟨I2,p2⟩:=h2;dsimp only at I2 p2 ⊢;refine QI (rl ?_);refine QI (RF (Rm (I:=fun _ (c:GT) st'=>c.1=none/\Keep st st'/\HI rk a b c.2.2.2.1 c.2.1 c.2.2.1/\c.2.1+c.2.2.1<i+j) (Q:=fun(c:GT) st'=>kS rk a b (i+j) st c.1 c.2.2.2.1 c.2.1 c.2.2.1 st') ?_ ?_ ⟨rfl,K2,I2,p2⟩) ?_)
   ·rintro x3 ⟨d1,i3,j3,out3,mg3,ca3,cb3⟩ st3 _ hx3 ⟨rfl,K3,I3,p3⟩;dsimp only at I3 p3 ⊢;have go:∀mg',wpS M A E s (k1 a b out3 i3 j3 mg' ca3 cb3) (fun r st'=>match r with | .done c'=>kS rk a b (i+j) st c'.1 c'.2.2.2.1 c'.2.1 c'.2.2.1 st' | .yield c'=>c'.1=none/\Keep st st'/\HI rk a b c'.2.2.2.1 c'.2.1 c'.2.2.1/\c'.2.1+c'.2.2.1<i+j) st3:=fun mg'=>by
     refine J9 L H hk K3 I3 fun d c st4 hs hn=>?_;cases d with
     |true=>
      show kS _ _ _ _ _ _ _ _ _ _;refine⟨hs.1,?_⟩;have h2:=hs.2;cases e:c.1 with
      |some q=>rw[e]at h2;exact h2
      |none=>rw[e]at h2;exact⟨h2.1,by have:=h2.2;lia⟩
     |false=>
      have h2:=hs.2;rw[hn rfl]at h2;exact⟨hn rfl,hs.1,h2.1,by have:=h2.2;lia⟩
    split
    ·exact RF (go _) fun r st' h=>by cases r <;> exact h
    exact RF (go _) fun r st' h=>by cases r <;> exact h
   ·rintro⟨c1,i3,j3,out3,mg3,ca3,cb3⟩ st3 ⟨rfl,K3,I3,p3⟩;exact⟨K3,I3,p3⟩
   rintro⟨c1,i3,j3,out3,mg3,ca3,cb3⟩ st3 ⟨K3,h3⟩;cases c1 with
   |some q=>exact QO ⟨q,rfl,K3,h3⟩
   |none=>
    obtain⟨I3,p3⟩:=h3;refine QI (oY (QO ⟨rfl,K3.g _,I3,?_⟩));dsimp only at p3 ⊢;lia
 ·rintro⟨c1,i,j,out,mg⟩ st1 ⟨rfl,K1,I1,px⟩;dsimp only at px;lia
 rintro⟨c1,i,j,out,mg⟩ st1 ⟨q,e,K1,r⟩;dsimp only at e;subst e;exact QO (h q st1 K1 r)
end
noncomputable def R(rk:QE->Nat)(xs:Array QE)(i:Nat):Nat:=match xs[i]? with
 |some p=>rk p
 |none=>0
structure Kp2 (st st':QJ):Prop where
 k:kindOf st'=kindOf st
 p:QT st'=QT st
 f:Ri st'=Ri st
 a:(QF st').Perm (QF st)
theorem Kp2.cc :Kp2 st st:=⟨rfl,rfl,rfl,O1 _⟩
theorem Kp2.trans {s1 s2 s3:QJ}(h:Kp2 s1 s2)(g:Kp2 s2 s3):Kp2 s1 s3:=⟨g.k.trans h.k,g.p.trans h.p,g.f.trans h.f,g.a.trans h.a⟩
theorem Kp2.size (h:Kp2 st st'):(QF st').size=(QF st).size:=h.a.size_eq
variable {xs ys:Array QE}
section
variable{rk:QE->Nat}
theorem cX(h:xs[i]?=ys[j]?):R rk xs i=R rk ys j:=by unfold R;rw[h]
theorem Dv(hj:j<=xs.size)(k:Nat):R rk (mirror xs i j ((j-i)/2)) k=if i<=k/\k<j then R rk xs (i+j-1-k)else R rk xs k:=by
 have:=Vf (i:=i) hj k;split at this <;> rename_i h
 ·rw[if_pos h];exact cX this
 rw[if_neg h];exact cX this
theorem BY{src d:Nat}(hs:src<xs.size)(hd:d<=src)(k:Nat):R rk (V_ xs src d) k=if k=src-d then R rk xs src else if src-d<k/\k<=src then R rk xs (k-1)else R rk xs k:=by
 have:=Wa hs d hd k;split at this
 ·rename_i h;rw[if_pos h];exact cX this
 rename_i h;rw[if_neg h];split at this
 ·rename_i h2;rw[if_pos h2];exact cX this
 rename_i h2;rw[if_neg h2];exact cX this
noncomputable def bZ(rk:QE->Nat)(xs:Array QE)(lo n:Nat):Prop:=∀i j,i<=j->j<n->R rk xs (lo+i)<=R rk xs (lo+j)
noncomputable def wo(rk:QE->Nat)(xs:Array QE)(lo n:Nat):Prop:=∀i j,i<=j->j<n->R rk xs (lo+j)<=R rk xs (lo+i)
end
structure Within (st st':QJ) (lo n:Nat):Prop where
 kp:Kp2 st st'
 out:∀k,(k<lo\/lo+n<=k)->(QF st')[k]?=(QF st)[k]?
theorem Within.cc :Within st st lo n:=⟨.cc,fun _ _=>rfl⟩
theorem Within.trans {s1 s2 s3:QJ}(h:Within s1 s2 lo n)(g:Within s2 s3 lo n):Within s1 s3 lo n:=⟨h.kp.trans g.kp,fun k hk=>(g.out k hk).trans (h.out k hk)⟩
section
variable{M:SH}{A:QY}{E:Qy->QB->Prop}{s:QB}{kd:RA}{rk:QE->Nat}{S:QE->Prop}
noncomputable def nU(S:QE->Prop)(st:QJ):Prop:=∀p∈(QF st).toList,S p
theorem nU.at {st:QJ}(h:nU S st){i:Nat}{p:QE}(e:(QF st)[i]?=some p):S p:=h p (by rw[<-f']at e;exact F_ e)
theorem nU.kp (h:nU S st)(k:Kp2 st st'):nU S st':=fun p hp=>h p ((Mv.mp k.a).mem_iff.mp hp)
theorem iN{Q:Option Bool->QJ->Prop}(L:cE M A E s kd rk S)(hk:kindOf st=kd)(hS:nU S st)(hi:i<(QF st).size)(hj:j<(QF st).size)(q:Q (some (decide (R rk (QF st) i<R rk (QF st) j))) st):wpS M A E s (Wb i j) Q st:=by rw[ltAt'_eq];refine QI (S0 ?_);have e1:(QF st)[i]?=some (QF st)[i]:=i_ hi;have e2:(QF st)[j]?=some (QF st)[j]:=i_ hj;refine QI (aX e1 (QI (aX e2 (L _ _ st _ (hS.at e1) (hS.at e2) hk ?_))));unfold R at q;rw[e1,e2]at q;exact q
theorem CQ{Q:Unit->QJ->Prop}(hl:lo<=i)(hj:j<=lo+n)(hsz:j<=(QF st).size)(h:∀st',Within st st' lo n->(∀k,R rk (QF st') k=if i<=k/\k<j then R rk (QF st) (i+j-1-k)else R rk (QF st) k)->Q () st'):wpS M A E s (SV i j) Q st:=by rw[reverseSlice'_eq];refine TJ (h _ ⟨⟨rfl,rfl,rfl,mirror_perm _ _ _ _⟩,fun k hk=>?_⟩ fun k=>Dv hsz k);show(mirror (QF st) i j ((j-i)/2))[k]?=_;rw[Vf hsz,if_neg (by lia)]
theorem Fn{ok:Nat}{Q:Bool->QJ->Prop}(L:cE M A E s kd rk S)(hk:kindOf st=kd)(hS:nU S st)(hn:lo+n<=(QF st).size)(hok:ok<=n)(hs:bZ rk (QF st) lo ok)
  (h:∀st',Within st st' lo n->bZ rk (QF st') lo n->Q true st'):wpS M A E s (Xz lo n ok) Q st:=by
 rw[binarySort'_eq];refine QI (RF (Rm (I:=fun k c st'=>c=(none,())/\Within st st' lo n/\bZ rk (QF st') lo k) (Q:=fun c st'=>c=(none,())/\Within st st' lo n/\bZ rk (QF st') lo (max (max ok 1) n)) ?_ (fun c st' z=>z) ⟨rfl,.cc,fun i j h1 h2=>?_⟩) ?_)
 ·rintro k c st1 hk1 hk2 ⟨rfl,W,s1⟩;have sz1:=W.kp.size;have hS1:=hS.kp W.kp;refine QI (RF (Rm (I:=fun x c st'=>st'=st1/\∃l r,c=(none,l,r)/\l<=r/\r<=k/\r-l<=k-x/\(∀i,i<l->R rk (QF st1) (lo+i)<=R rk (QF st1) (lo+k))/\(∀i,r<=i->i<k->R rk (QF st1) (lo+k)<R rk (QF st1) (lo+i)))
   (Q:=fun c st'=>st'=st1/\∃l,c=(none,l,l)/\l<=k/\(∀i,i<l->R rk (QF st1) (lo+i)<=R rk (QF st1) (lo+k))/\(∀i,l<=i->i<k->R rk (QF st1) (lo+k)<R rk (QF st1) (lo+i))) ?_ ?_ ⟨rfl,0,k,rfl,D' _,b_ _,by lia,fun i hi=>by lia,fun i h1 h2=>by lia⟩) ?_)
  ·rintro x c st2 _ hx ⟨rfl,l,r,rfl,g1,g2,g3,g4,g5⟩;dsimp only;by_cases z:l>=r
   ·rw[if_pos z];have e:l=r:=by lia
    subst e;exact QO ⟨rfl,l,rfl,g2,g4,g5⟩
   rw[if_neg z];have m1:l<=(l+r)/2:=by omega
   have m2:(l+r)/2<r:=by omega
   generalize (l+r)/2=m at m1 m2 ⊢;have m3:=z_ m2 g2;have sz:∀{y},y<=k->lo+y<(QF st2).size:=fun h=>by lia
   refine QI (iN L (W.kp.k.trans hk) hS1 (sz (b_ _)) (sz (J_ m3)) ?_);dsimp only;by_cases w:R rk (QF st2) (lo+k)<R rk (QF st2) (lo+m)
   ·rw[decide_eq_true w,if_pos rfl];exact QO ⟨rfl,l,m,rfl,m1,J_ m3,by lia,g4,fun i h1 h2=>z_ w (s1 m i h1 h2)⟩
   rw[decide_eq_false w,if_neg (by simp)];exact QO ⟨rfl,m+1,r,rfl,m2,g2,by lia,fun i hi=>t_ (s1 i m (N2 hi) m3) (LX w),g5⟩
  ·rintro c st2 ⟨rfl,l,r,rfl,g1,g2,g3,g4,g5⟩;have e:l=r:=by lia
   subst e;exact⟨rfl,l,rfl,g2,g4,g5⟩
  rintro c st2 ⟨rfl,l,rfl,g2,g4,g5⟩;dsimp only;rw[moveDown'_eq];have hk1:lo+k<(QF st2).size:=by lia
  have e0:lo+k-(lo+k-(lo+l))=lo+l:=Nat.sub_sub_self (MW g2 lo);have hb:∀j,R rk (V_ (QF st2) (lo+k) (lo+k-(lo+l))) (lo+j)=if j=l then R rk (QF st2) (lo+k)else if l<j/\j<=k then R rk (QF st2) (lo+(j-1))else R rk (QF st2) (lo+j):=fun j=>by
   rw[BY hk1 (Mr ..),e0];by_cases c1:j=l
   ·rw[if_pos c1,if_pos (congrArg (lo+·) c1)]
   rw[if_neg c1,if_neg (fun z=>c1 (Nat.add_left_cancel z))];by_cases c2:l<j/\j<=k
   ·rw[if_pos c2,if_pos ⟨Ou c2.1 lo,MW c2.2 lo⟩,Py (Nat.one_le_of_lt c2.1)]
   rw[if_neg c2,if_neg (fun z=>c2 ⟨Nat.lt_of_add_lt_add_left z.1,Nat.le_of_add_le_add_left z.2⟩)]
  refine QI (TJ (QO ⟨rfl,W.trans ⟨⟨rfl,rfl,rfl,bubble_perm _ _ _⟩,fun j hj=>?_⟩,fun i j hij hj=>?_⟩))
  ·show(V_ (QF st2) (lo+k) (lo+k-(lo+l)))[j]?=_;rw[Wa hk1 _ (Mr ..),e0,if_neg (by lia),if_neg (by lia)]
  show R rk (V_ (QF st2) (lo+k) (lo+k-(lo+l))) (lo+i)<=R rk (V_ (QF st2) (lo+k) (lo+k-(lo+l))) (lo+j);rw[hb,hb];have ss:∀p q,p<=q->q<k->R rk (QF st2) (lo+p)<=R rk (QF st2) (lo+q):=s1;have hj:j<=k:=N2 hj;have dn:∀{x},l<x->x<=k->x-1<k:=fun a b=>z_ (Nat.sub_one_lt_of_lt a) b;by_cases i1:i<l
  ·rw[if_neg (v_ i1),if_neg (fun z=>Nat.lt_asymm z.1 i1)];by_cases j2:j=l
   ·rw[if_pos j2];exact g4 i i1
   rw[if_neg j2];by_cases j1:l<j
   ·rw[if_pos ⟨j1,hj⟩];exact ss i (j-1) (Og (Oe i1 j1)) (dn j1 hj)
   rw[if_neg (fun z=>j1 z.1)];exact ss i j hij (z_ (Np (LX j1) j2) g2)
  by_cases i2:i=l
  ·rw[if_pos i2];by_cases j2:j=l
   ·rw[if_pos j2];exact b_ _
   have j1:l<j:=Np (i2▸hij) (fun z=>j2 z.symm);rw[if_neg j2,if_pos ⟨j1,hj⟩];exact J_ (g5 (j-1) (Og j1) (dn j1 hj))
  have i3:l<i:=Np (LX i1) (fun z=>i2 z.symm);have j1:=z_ i3 hij;rw[if_neg i2,if_pos ⟨i3,t_ hij hj⟩,if_neg (fun z=>MJ _ (z▸j1)),if_pos ⟨j1,hj⟩];exact ss (i-1) (j-1) (Pb hij 1) (dn j1 hj)
 ·by_cases z:1<=ok
  ·rw[Nat.max_eq_left z]at h2;exact hs i j h1 h2
  have:i=j:=by lia
  subst this;exact b_ _
 rintro c st1 ⟨rfl,W,s1⟩;exact QO (h st1 W fun i j h1 h2=>s1 i j h1 (by lia))
end
theorem Ax{l x:Nat}(h:1<=x):l+(x-1)=l+x-1:=(Py h l).symm
theorem HM{l k:Nat}(h:l<=k):l+(k-l)=k:=NM h
theorem K0{l a:Nat}(h:i<a):l+(l+a)-1-(l+i)=l+(a-1-i):=by lia
theorem J5{l x k:Nat}(h0:l<=k)(h:k<l+x):k-l<x:=NQ h0 h
noncomputable def BD(l0 a0 q0:Nat):StateT QJ Sem (Option Nat):=do
 let mut n:=a0
 for _ in [a0:q0]do
  let some sm <-Wb (l0+n) (l0+n-1) | return none
  if sm then break
  n:=n+1
 return some n
noncomputable def uQ(l0 a0 q0:Nat):StateT QJ Sem (Option Nat):=do
 SV l0 (l0+a0)
 BD l0 a0 q0
noncomputable def ud(l0 a0 q0:Nat):StateT QJ Sem (Option Nat):=do
 rule "list.sort.descending-run"
 let mut n:=a0+1
 let mut eq:=0
 for _ in [n:q0]do
  let some sm <-Wb (l0+n) (l0+n-1) | return none
  if sm then
   if eq > 0 then SV (l0+n-(eq+1)) (l0+n)
   eq:=0
  else
   let some la <-Wb (l0+n-1) (l0+n) | return none
   if la then break
   eq:=eq+1
  n:=n+1
 if eq > 0 then
  SV (l0+n-(eq+1)) (l0+n)
  uQ l0 n q0
 else uQ l0 n q0
theorem Ko(l0 q0:Nat):WD l0 q0=(do
 let mut n:=1
 for _ in [1:q0]do
  let some sm <-Wb (l0+n) (l0+n-1) | return none
  if sm then break
  n:=n+1
 if n == q0 then return some n
 if n > 1 then
  let some ro <-Wb l0 (l0+n-1) | return none
  if ro then return some n
  SV l0 (l0+n)
  ud l0 n q0
 else ud l0 n q0):=rfl
variable {a0 l0 q0:Nat}
section
variable{M:SH}{A:QY}{E:Qy->QB->Prop}{s:QB}{kd:RA}{rk:QE->Nat}{S:QE->Prop}
theorem bZ.snoc (h:bZ rk xs lo n)(h1:1<=n)(k:R rk xs (lo+n-1)<=R rk xs (lo+n)):bZ rk xs lo (n+1):=fun i j hij hj=>by
 by_cases z:j<n
 ·exact h i j hij z
 have e:j=n:=by lia
 subst e;by_cases w:i=j
 ·subst w;exact b_ _
 have:=h i (j-1) (by lia) (by lia);rw[Ax h1]at this;exact t_ this k
theorem BL(L:cE M A E s kd rk S)(hk:kindOf st=kd)(hS:nU S st)(hsz:l0+q0<=(QF st).size)(h1:1<=a0)(h2:a0<=q0)(hs:bZ rk (QF st) l0 a0)
  (h:∀n,a0<=n->n<=q0->bZ rk (QF st) l0 n->Q (some n) st):wpS M A E s (BD l0 a0 q0) Q st:=by
 unfold BD;dsimp only;refine QI (RF (Rm (I:=fun x c st'=>st'=st/\c=(none,x)/\bZ rk (QF st) l0 x) (Q:=fun c st'=>st'=st/\∃n,c=(none,n)/\a0<=n/\n<=q0/\bZ rk (QF st) l0 n) ?_ ?_ ⟨rfl,rfl,hs⟩) ?_)
 ·rintro x c st1 hx1 hx2 ⟨rfl,rfl,s1⟩;dsimp only;refine QI (iN L hk hS (by lia) (by lia) ?_);dsimp only;by_cases w:R rk (QF st1) (l0+x)<R rk (QF st1) (l0+x-1)
  ·rw[decide_eq_true w,if_pos rfl];exact QO ⟨rfl,x,rfl,hx1,by lia,s1⟩
  rw[decide_eq_false w,if_neg (by simp)];exact QO ⟨rfl,rfl,s1.snoc (by lia) (by lia)⟩
 ·rintro c st1 ⟨rfl,rfl,s1⟩;rw[OQ h2]at s1 ⊢;exact⟨rfl,q0,rfl,h2,b_ _,s1⟩
 rintro c st1 ⟨rfl,n,rfl,g1,g2,g3⟩;exact QO (h n g1 g2 g3)
theorem rS(L:cE M A E s kd rk S)(hk:kindOf st=kd)(hS:nU S st)(hsz:l0+q0<=(QF st).size)(h1:1<=a0)(h2:a0<=q0)(hs:wo rk (QF st) l0 a0)
  (h:∀n st',a0<=n->n<=q0->Within st st' l0 q0->bZ rk (QF st') l0 n->Q (some n) st'):wpS M A E s (uQ l0 a0 q0) Q st:=by
 unfold uQ;refine QI (CQ (rk:=rk) (lo:=l0) (n:=q0) (b_ _) (by lia) (by lia) fun st1 W1 r1=>?_);refine BL L (W1.kp.k.trans hk) (hS.kp W1.kp) (by rw[W1.kp.size];exact hsz) h1 h2 (fun i j hij hj=>?_) fun n g1 g2 g3=>h n st1 g1 g2 W1 g3
 have hi:=MC hij hj;rw[r1,r1,if_pos ⟨NG ..,Ou hi l0⟩,if_pos ⟨NG ..,Ou hj l0⟩,K0 hi,K0 hj];exact hs (a0-1-j) (a0-1-i) (Nat.sub_le_sub_left hij _) (MC (Mr _ _) (OJ h1 Nq))
theorem qj{Q:Unit->QJ->Prop}(hl:lo<=i)(hj:j<=lo+n)(hsz:j<=(QF st).size)(heq:∀k,i<=k->k<j->R rk (QF st) k=R rk (QF st) (j-1))(h:∀st',Within st st' lo n->(∀k,R rk (QF st') k=R rk (QF st) k)->Q () st'):wpS M A E s (SV i j) Q st:=by
 refine CQ (rk:=rk) hl hj hsz fun st1 W r1=>h st1 W fun k=>?_;rw[r1];split
 ·rename_i z;rw[heq k z.1 z.2,heq (i+j-1-k) (by(clear r1 W h heq hsz hj hl;lia)) (by(clear r1 W h heq hsz hj hl;lia))]
 rfl
theorem wo.snoc (h:wo rk xs lo n)(h1:1<=n)(k:R rk xs (lo+n)<=R rk xs (lo+n-1)):wo rk xs lo (n+1):=fun i j hij hj=>by
 by_cases z:j<n
 ·exact h i j hij z
 have e:j=n:=by lia
 subst e;by_cases w:i=j
 ·subst w;exact b_ _
 have:=h i (j-1) (by lia) (by lia);rw[show lo+(j-1)=lo+j-1 by lia]at this;exact t_ k this
theorem rZ(L:cE M A E s kd rk S)(hk:kindOf st=kd)(hS:nU S st)(hsz:l0+q0<=(QF st).size)(h2:a0+1<=q0)(hs:wo rk (QF st) l0 (a0+1))(hr:∀x,QG M A (rule x) (fun _ s'=>s'=s) E s)
  (h:∀n st',1<=n->n<=q0->Within st st' l0 q0->bZ rk (QF st') l0 n->Q (some n) st'):wpS M A E s (ud l0 a0 q0) Q st:=by
 unfold ud;refine QI (Uu (Q7 (hr _) (fun _ _ z=>⟨z,?_⟩) fun _ _ z=>z));dsimp only;refine QI (RF (Rm (I:=fun x c st'=>∃eq,c=(none,x,eq)/\Within st st' l0 q0/\wo rk (QF st') l0 x/\eq+1<=x/\∀k,x-1-eq<=k->k<x->R rk (QF st') (l0+k)=R rk (QF st') (l0+(x-1)))
  (Q:=fun c st'=>∃n eq,c=(none,n,eq)/\a0+1<=n/\n<=q0/\Within st st' l0 q0/\wo rk (QF st') l0 n/\eq+1<=n/\∀k,n-1-eq<=k->k<n->R rk (QF st') (l0+k)=R rk (QF st') (l0+(n-1))) ?_ ?_ ⟨0,rfl,.cc,hs,by lia,fun k h1 h2=>by rw[show k=a0+1-1 by lia]⟩) ?_)
 ·rintro x c st1 hx1 hx2 ⟨eq,rfl,W,d1,e1,ev⟩;dsimp only;have hk1:=W.kp.k.trans hk;have hS1:=hS.kp W.kp;have sz1:=W.kp.size;have x1:1<=x:=t_ (O2 1 eq) e1;have b1:l0+x<(QF st1).size:=by lia
  have b2:l0+x-1<(QF st1).size:=MC (Mr ..) b1;refine QI (iN L hk1 hS1 b1 b2 ?_);dsimp only;by_cases w:R rk (QF st1) (l0+x)<R rk (QF st1) (l0+x-1)
  ·rw[decide_eq_true w,if_pos rfl];have fin:∀st2,Within st st2 l0 q0->(∀k,R rk (QF st2) k=R rk (QF st1) k)->∃eq',((none,x+1,0):Option (Option Nat)×Nat×Nat)=(none,x+1,eq')/\Within st st2 l0 q0/\wo rk (QF st2) l0 (x+1)/\eq'+1<=x+1/\∀k,x+1-1-eq'<=k->k<x+1->R rk (QF st2) (l0+k)=R rk (QF st2) (l0+(x+1-1)):=fun st2 W2 r2=>by refine⟨0,rfl,W2,fun i j hij hj=>?_,by lia,fun k h1 h2=>by rw[show k=x+1-1 by lia]⟩;rw[r2,r2];exact d1.snoc x1 (J_ w) i j hij hj
   by_cases z:eq > 0
   ·rw[if_pos z];refine QI (qj (rk:=rk) (lo:=l0) (n:=q0) (by lia) (by lia) (by lia) (fun k h1 h2=>?_) fun st2 W2 r2=>QO (fin st2 (W.trans W2) r2));have k0:l0<=k:=by lia
    have:=ev (k-l0) (by lia) (J5 k0 h2);rw[HM k0,Ax x1]at this;exact this
   rw[if_neg z];exact QO (fin st1 W fun _=>rfl)
  rw[decide_eq_false w,if_neg (by simp)];refine QI (iN L hk1 hS1 b2 b1 ?_);dsimp only;by_cases v:R rk (QF st1) (l0+x-1)<R rk (QF st1) (l0+x)
  ·rw[decide_eq_true v,if_pos rfl];exact QO ⟨x,eq,rfl,hx1,by lia,W,d1,e1,ev⟩
  rw[decide_eq_false v,if_neg (by simp)];have ee:R rk (QF st1) (l0+x)=R rk (QF st1) (l0+x-1):=P4 (LX v) (LX w);refine QO ⟨eq+1,rfl,W,d1.snoc x1 (NS ee),by lia,fun k h1 h2=>?_⟩;rw[show l0+(x+1-1)=l0+x by lia];by_cases y:k=x
  ·rw[y]
  have:=ev k (by lia) (by lia);rw[Ax x1]at this;exact this.trans ee.symm
 ·rintro c st1 ⟨eq,rfl,W,d1,e1,ev⟩;rw[OQ h2]at d1 e1 ev ⊢;exact⟨q0,eq,rfl,h2,b_ _,W,d1,e1,ev⟩
 rintro c st1 ⟨n,eq,rfl,g1,g2,W,d1,e1,ev⟩;have sz1:=W.kp.size;dsimp only;by_cases z:eq > 0
 ·rw[if_pos z];refine QI (qj (rk:=rk) (lo:=l0) (n:=q0) (by lia) (by lia) (by lia) (fun k h1 h2=>?_) fun st2 W2 r2=>?_)
  ·have k0:l0<=k:=by lia
   have:=ev (k-l0) (by lia) (J5 k0 h2);rw[HM k0,Ax (t_ (O2 1 eq) e1)]at this;exact this
  refine rS L ((W.trans W2).kp.k.trans hk) (hS.kp (W.trans W2).kp) (by rw[(W.trans W2).kp.size];exact hsz) (by lia) g2 (fun i j hij hj=>by rw[r2,r2];exact d1 i j hij hj) fun m st3 k1 k2 W3 s3=>h m st3 (by lia) k2 ((W.trans W2).trans W3) s3
 rw[if_neg z];exact rS L (W.kp.k.trans hk) (hS.kp W.kp) (by rw[sz1];exact hsz) (by lia) g2 d1 fun m st3 k1 k2 W3 s3=>h m st3 (by lia) k2 (W.trans W3) s3
theorem vC(L:cE M A E s kd rk S)(hk:kindOf st=kd)(hS:nU S st)(hsz:l0+q0<=(QF st).size)(h1:1<=q0)(hr:∀x,QG M A (rule x) (fun _ s'=>s'=s) E s)
  (h:∀n st',1<=n->n<=q0->Within st st' l0 q0->bZ rk (QF st') l0 n->Q (some n) st'):wpS M A E s (WD l0 q0) Q st:=by
 rw[Ko];dsimp only;refine QI (RF (Rm (I:=fun x c st'=>st'=st/\c=(none,x)/\bZ rk (QF st) l0 x) (Q:=fun c st'=>st'=st/\∃n,c=(none,n)/\1<=n/\n<=q0/\bZ rk (QF st) l0 n/\(n=q0\/R rk (QF st) (l0+n)<R rk (QF st) (l0+n-1))) ?_ ?_ ⟨rfl,rfl,fun i j h1 h2=>by rw[show i=j by lia];exact b_ _⟩) ?_)
 ·rintro x c st1 hx1 hx2 ⟨rfl,rfl,s1⟩;dsimp only;refine QI (iN L hk hS (by lia) (by lia) ?_);dsimp only;by_cases w:R rk (QF st1) (l0+x)<R rk (QF st1) (l0+x-1)
  ·rw[decide_eq_true w,if_pos rfl];exact QO ⟨rfl,x,rfl,hx1,by lia,s1,.inr w⟩
  rw[decide_eq_false w,if_neg (by simp)];exact QO ⟨rfl,rfl,s1.snoc (by(clear w s1 h hsz hS hk hx2 hr h1 L;omega)) (by lia)⟩
 ·rintro c st1 ⟨rfl,rfl,s1⟩;rw[OQ h1]at s1 ⊢;exact⟨rfl,q0,rfl,h1,b_ _,s1,.inl rfl⟩
 rintro c st1 ⟨rfl,n,rfl,g1,g2,g3,g4⟩;dsimp only;by_cases e:n=q0
 ·rw[if_pos (by rw[e];exact beq_self_eq_true _)];exact QO (h n st1 g1 g2 .cc g3)
 rw[if_neg (by simpa using e)];have lt:=g4.resolve_left e;by_cases z:n > 1
 ·rw[if_pos z];refine QI (iN L hk hS (by lia) (by(clear lt e g4 g3 g1 h hS hk hr h1 L;lia)) ?_);dsimp only;by_cases w:R rk (QF st1) l0<R rk (QF st1) (l0+n-1)
  ·rw[decide_eq_true w,if_pos rfl];exact QO (h n st1 g1 g2 .cc g3)
  rw[decide_eq_false w,if_neg (by simp)];have all:∀k,l0<=k->k<l0+n->R rk (QF st1) k=R rk (QF st1) (l0+n-1):=fun k h1 h2=>by have kn:=J5 h1 h2;have a:=g3 0 (k-l0) (D' _) kn;have b:=g3 (k-l0) (n-1) (Og kn) (OJ g1 Nq);rw[HM h1]at a b;rw[Ax g1]at b;rw[Oh]at a;exact P4 b (t_ (LX w) a)
  refine QI (qj (rk:=rk) (lo:=l0) (n:=q0) (b_ _) (by(clear all w z lt e g4 g3 g1 h hsz hS hk hr h1 L;lia)) (by(clear all w z lt e g4 g3 g1 h hS hk hr h1 L;lia)) all fun st2 W2 r2=>?_);refine rZ L (W2.kp.k.trans hk) (hS.kp W2.kp) (by rw[W2.kp.size];exact hsz) (by lia) (fun i j hij hj=>?_) hr fun m st3 k1 k2 W3 s3=>h m st3 k1 k2 (W2.trans W3) s3
  rw[r2,r2];by_cases y:j<n
  ·rw[all (l0+i) (by lia) (by lia),all (l0+j) (by lia) (by(clear hj hij r2 W2 all w z lt e g4 g3 g2 g1 h hsz hS hk hr h1 L;lia))];exact b_ _
  rw[show j=n by lia];by_cases y2:i<n
  ·rw[all (l0+i) (by lia) (by(clear y hj hij r2 W2 all w z lt e g4 g3 g2 g1 h hsz hS hk hr h1 L;lia))];exact J_ lt
  rw[show i=n by(clear y r2 W2 all w z lt e g4 g3 g2 g1 h hsz hS hk hr h1 L;lia)];exact b_ _
 rw[if_neg z];have n1:n=1:=by lia
 subst n1;refine rZ L hk hS hsz (by lia) (fun i j hij hj=>?_) hr fun m st3 k1 k2 W3 s3=>h m st3 k1 k2 W3 s3
 by_cases y:i=j
 ·rw[y];exact b_ _
 rw[show i=0 by lia,show j=1 by lia];exact J_ lt
end
noncomputable def wrote(xs:Array QE)(q:Nat)(ys:Array QE):Array QE:=ys.toList.zipIdx.foldl (fun u (p,j)=>u.setIfInBounds (q+j) p) xs
theorem IS(i:Nat):U9 i=(do
 let st <-get
 let (some (s1,n1,pw),some (s2,n2,_)):=((QT st)[i]?,(QT st)[i+1]?) | unsupported "internal:list.sort.pending"
 set (RS (kindOf st) (QF st) (((QT st).setIfInBounds i (s1,n1+n2,pw)).eraseIdxIfInBounds (i+1)) (Ut st) (Ri st))
 let some k <-gal false (<-Rn (QF st) s2) (QF st) s1 n1 0 | return false
 let (s1,n1):=(s1+k,n1-k)
 if n1 == 0 then return true
 let some n2 <-gal true (<-Rn (QF st) (s1+n1-1)) (QF st) s2 n2 (n2-1) | return false
 if n2 == 0 then return true
 let x:=(QF st).extract s1 s2
 let y:=(QF st).extract s2 (s2+n2)
 let mm <-if n1<=n2 then mLo x y else mHi x y
 modify fun z=>setArr z (wrote (QF z) s1 mm)
 return (Ri (<-get)).isNone):=rfl
theorem si(q:Nat):∀(l:List QE) (n:Nat) (xs:Array QE),q+n+l.length<=xs.size->((l.zipIdx n).foldl (fun u (p,j)=>u.setIfInBounds (q+j) p) xs).toList=xs.toList.take (q+n)++(l++xs.toList.drop (q+n+l.length))
 | [],n,xs,_=>by simp
 |p::t,n,xs,h=>by
  rw[h_]at h;rw[OO,List.foldl_cons,si q t (n+1) _ (by rw[OR];lia),OG];have hl:q+n<xs.toList.length:=by rw[gV];lia
  rw[show q+(n+1)=q+n+1 by lia,LP,List.take_set_of_le (b_ _),N4 hl,List.drop_set_of_lt (by lia),h_,show q+n+1+t.length=q+n+(t.length+1) by lia];simp
theorem xG{q:Nat}(h:q+ys.size<=xs.size):(wrote xs q ys).toList=xs.toList.take q++(ys.toList++xs.toList.drop (q+ys.size)):=by have:=si q ys.toList 0 xs (by rw[gV];exact h);rw[gV]at this;exact this
theorem Dw{c:List QE}(h:a.length=b.length)(hi:a.length<=i):(a++c)[i]?=(b++c)[i]?:=by rw[LV hi,LV (by lia),h]
section
variable{rk:QE->Nat}
theorem zK(h:xs.toList[i]?=some p):R rk xs i=rk p:=by unfold R;rw[<-f',h]
theorem gJ(h:bZ rk xs lo n):Srt rk ((xs.toList.drop lo).take n):=by
 refine M'.mpr fun i j hi hj hij=>?_;have hj':j<n:=by rw[D_]at hj;lia
 have ei:=c_ hi;have ej:=c_ hj;rw[Nn,if_pos (by lia),M4]at ei ej;have:=h i j (by lia) hj';rw[zK ei,zK ej]at this;exact this
theorem uh{l k:Nat}(h:k<=n):l+k+(n-k)=l+n:=by rw[NK,NM h]
theorem C9(hn:lo+n<=xs.size)(h:Srt rk ((xs.toList.drop lo).take n)):bZ rk xs lo n:=by
 intro i j hij hj;by_cases e:i=j
 ·rw[e];exact b_ _
 have len:((xs.toList.drop lo).take n).length=n:=by rw[D_,H_,gV];lia
 have hi':i<((xs.toList.drop lo).take n).length:=by lia
 have hj':j<((xs.toList.drop lo).take n).length:=by lia
 have:=M'.mp h i j hi' hj' (by lia);have ei:=c_ hi';have ej:=c_ hj';rw[Nn,if_pos (by lia),M4]at ei ej;rw[zK ei,zK ej];exact this
theorem vR{m:Nat}(h1:bZ rk xs lo n)(h2:bZ rk xs (lo+n) m)(h:∀i j,i<n->j<m->R rk xs (lo+i)<=R rk xs (lo+n+j)):bZ rk xs lo (n+m):=by
 intro i j hij hj;by_cases z:j<n
 ·exact h1 i j hij z
 by_cases w:i<n
 ·have:=h i (j-n) w (NQ (LX z) hj);rw[uh (LX z)]at this;exact this
 have:=h2 (i-n) (j-n) (Pb hij n) (NQ (LX z) hj);rw[uh (LX z),uh (LX w)]at this;exact this
theorem lH{T:List QE}{k:Nat}(h:k<=n):(T.drop lo).take n=(T.drop lo).take k++(T.drop (lo+k)).take (n-k):=by
 conv=>lhs;rw[show n=k+(n-k)from(NM h).symm,OF,NY]
theorem Im{r:Array QE}{k m c:Nat}(hk:k<=n)(hc:c<=m)(hsz:lo+n+m<=xs.size)(o1:bZ rk xs lo n)(o2:bZ rk xs (lo+n) m)
  (a1:∀p∈(xs.toList.drop lo).take k,∀q∈(xs.toList.drop (lo+n)).take m,rk p<=rk q) (a2:∀p∈(xs.toList.drop lo).take n,∀q∈(xs.toList.drop (lo+n+c)).take (m-c),rk p<=rk q)
  (hr:Res rk ((xs.toList.drop (lo+k)).take (n-k)) ((xs.toList.drop (lo+n)).take c) r.toList) :
  (wrote xs (lo+k) r).Perm xs/\(∀i,(i<lo\/lo+n+m<=i)->(wrote xs (lo+k) r)[i]?=xs[i]?)/\bZ rk (wrote xs (lo+k) r) lo (n+m):=by
 have lr:r.size=n-k+c:=by have:=hr.1.length_eq;rw[d_,D_,D_,H_,H_,gV,gV]at this;lia
 have wl:(wrote xs (lo+k) r).toList=xs.toList.take lo++((xs.toList.drop lo).take k++(r.toList++((xs.toList.drop (lo+n+c)).take (m-c)++xs.toList.drop (lo+n+m)))):=by rw[xG (by lia),OF,l_,lr,<-NK,uh hk];congr 3;have:=(F' (m-c) (xs.toList.drop (lo+n+c))).symm;rw[NY,uh hc]at this;exact this
 have xl:xs.toList=xs.toList.take lo++((xs.toList.drop lo).take k++((xs.toList.drop (lo+k)).take (n-k)++(xs.toList.drop (lo+n)).take c++((xs.toList.drop (lo+n+c)).take (m-c)++xs.toList.drop (lo+n+m)))):=by have e1:=(F' lo xs.toList).symm;have e2:=(F' k (xs.toList.drop lo)).symm;have e3:=(F' (n-k) (xs.toList.drop (lo+k))).symm;have e4:=(F' c (xs.toList.drop (lo+n))).symm;have e5:=(F' (m-c) (xs.toList.drop (lo+n+c))).symm;rw[NY]at e2 e3 e4 e5;rw[uh hk]at e3;rw[uh hc]at e5;rw[l_,<-e5,<-e4,<-e3,<-e2,<-e1]
 have sz:(wrote xs (lo+k) r).size=xs.size:=by have:=congrArg Ox wl;have h2:=congrArg Ox xl;have h3:=hr.1.length_eq;simp only[d_]at this h2 h3;have e1:=@gV _ (wrote xs (lo+k) r);have e2:=@gV _ xs;lia
 have X:(xs.toList.drop lo).take n=(xs.toList.drop lo).take k++(xs.toList.drop (lo+k)).take (n-k):=lH hk;have Y:(xs.toList.drop (lo+n)).take m=(xs.toList.drop (lo+n)).take c++(xs.toList.drop (lo+n+c)).take (m-c):=lH hc;have sX:=gJ o1;have sY:=gJ o2;rw[X]at sX;rw[Y]at sY;obtain⟨sx1,sx2,sx⟩:=C_.mp sX;obtain⟨sy1,sy2,sy⟩:=C_.mp sY;refine⟨Mv.mpr ?_,fun i hi=>?_,C9 (by lia) ?_⟩
 ·rw[wl]
  conv=>rhs;rw[xl]
  exact Mc _ (Mc _ (O4 _ hr.1))
 ·rw[<-f',<-f',wl]
  conv=>rhs;rw[xl]
  have hl1:(xs.toList.take lo).length=lo:=by rw[D_,gV];lia
  rcases hi with hi|hi
  ·rw[MM (by lia),MM (by lia)]
  have hl2:((xs.toList.drop lo).take k).length=k:=by rw[D_,H_,gV];lia
  have hl3:r.toList.length=n-k+c:=by rw[gV];exact lr
  have hl4:=hr.1.length_eq;rw[<-l_,<-l_]
  conv=>rhs;rw[<-l_,<-l_]
  refine Dw ?_ ?_
  ·rw[d_,d_,d_,d_,hl4]
  rw[d_,d_,hl1,hl2,hl3];lia
 have hl1:(xs.toList.take lo).length=lo:=by rw[D_,gV];lia
 have e:((wrote xs (lo+k) r).toList.drop lo).take (n+m)=(xs.toList.drop lo).take k++(r.toList++(xs.toList.drop (lo+n+c)).take (m-c)):=by rw[wl,List.drop_left' hl1,<-l_,<-l_,List.take_left',l_];rw[d_,d_,D_,D_,H_,H_,gV,gV];lia
 rw[e];have mr:∀q∈r.toList,q∈(xs.toList.drop (lo+k)).take (n-k)\/q∈(xs.toList.drop (lo+n)).take c:=fun q hq=>x_.mp (hr.1.mem_iff.mp hq);refine C_.mpr ⟨sx1,C_.mpr ⟨hr.2,sy2,fun p hp q hq=>?_⟩,fun p hp q hq=>?_⟩
 ·rcases mr p hp with hp|hp
  ·exact a2 p (by rw[X];exact n_ _ hp) q hq
  exact sy p hp q hq
 rcases x_.mp hq with hq|hq
 ·rcases mr q hq with hq|hq
  ·exact sx p hp q hq
  exact a1 p hp q (by rw[Y];exact y_ _ hq)
 exact a1 p hp q (by rw[Y];exact n_ _ hq)
end
theorem FK{α:Type}{ps:Array α}{pre post:List α}{x y:α}(h:ps.toList=pre++x::y::post):ps[pre.length]?=some x/\ps[pre.length+1]?=some y:=by
 rw[<-f',<-f',h];constructor
 ·rw[LV (b_ _),Nh];rfl
 rw[LV (by lia),NZ];rfl
theorem Bc{α:Type}{ps:Array α}{pre post:List α}{x y z:α}(h:ps.toList=pre++x::y::post):((ps.setIfInBounds pre.length z).eraseIdxIfInBounds (pre.length+1)).toList=pre++z::post:=by
 have hs:ps.size=pre.length+(post.length+2):=by rw[<-gV,h,d_];rfl
 have hb:pre.length+1<(ps.setIfInBounds pre.length z).size:=by rw[OR];lia
 unfold Array.eraseIdxIfInBounds;rw[dif_pos hb,Array.toList_eraseIdx,OG,h];rw[O_ _ _ (b_ _),Nh,Po,List.eraseIdx_append_of_length_le (by lia),NZ]
 rfl
section
variable{M:SH}{A:QY}{E:Qy->QB->Prop}{s:QB}{kd:RA}{rk:QE->Nat}{S:QE->Prop}
theorem IG{σ:Type}{v st:σ}{Q:PUnit->σ->Prop}(q:Q ⟨⟩ v):wpS M A E s (set v:StateT σ Sem PUnit) Q st:=by unfold wpS;rw[StateT.run_set];exact QC ⟨rfl,q⟩
structure Mgd (rk:QE->Nat) (st st':QJ) (lo n:Nat) (ps:List (Nat×Nat×Nat)):Prop where
 k:kindOf st'=kindOf st
 f:Ri st'=none
 p:(QT st').toList=ps
 a:(QF st').Perm (QF st)
 out:∀i,(i<lo\/lo+n<=i)->(QF st')[i]?=(QF st)[i]?
 srt:bZ rk (QF st') lo n
theorem HY{pre post:List (Nat×Nat×Nat)}{s1 n1 pw n2 p2:Nat}{Q:Bool->QJ->Prop}(L:cE M A E s kd rk S)(hk:kindOf st=kd)(hS:nU S st)(hf:Ri st=none)(hr:∀x,QG M A (rule x) (fun _ s'=>s'=s) E s)
  (hp:(QT st).toList=pre++(s1,n1,pw)::(s1+n1,n2,p2)::post) (h1:1<=n1) (h2:1<=n2) (hsz:s1+n1+n2<=(QF st).size) (o1:bZ rk (QF st) s1 n1) (o2:bZ rk (QF st) (s1+n1) n2)
  (h:∀st',Mgd rk st st' s1 (n1+n2) (pre++(s1,n1+n2,pw)::post)->Q true st'):wpS M A E s (U9 pre.length) Q st:=by
 rw[IS];refine QI (S0 ?_);dsimp only;obtain⟨e1,e2⟩:=FK hp;rw[e1,e2];dsimp only;refine QI (IG ?_);generalize hst1:RS (kindOf st) (QF st) (((QT st).setIfInBounds pre.length (s1,n1+n2,pw)).eraseIdxIfInBounds (pre.length+1)) (Ut st) (Ri st)=st1;have k1:kindOf st1=kd:=by rw[<-hst1];exact hk
 have a1:QF st1=QF st:=by rw[<-hst1]
 have f1:Ri st1=none:=by rw[<-hst1];exact hf
 have p1:(QT st1).toList=pre++(s1,n1+n2,pw)::post:=by rw[<-hst1];exact Bc hp
 have SA:∀(i:Nat) p,(QF st)[i]?=some p->S p:=fun i p e=>hS.at e;have gt:∀i,i<(QF st).size->∃p,(QF st)[i]?=some p:=fun i hi=>⟨_,i_ hi⟩;have RR:∀{i:Nat}{p:QE},(QF st)[i]?=some p->R rk (QF st) i=rk p:=fun{i p} e=>by unfold R;rw[e]
 obtain⟨ky,hky⟩:=gt (s1+n1) (by lia);have oJ:bZ rk (QF st) s1 (n1+n2)->Q true st1:=fun z=>h st1 ⟨k1.trans hk.symm,f1,p1,by rw[a1],fun i _=>by rw[a1],by rw[a1];exact z⟩
 refine QI (aX hky (QI (jn L k1 (by lia) (by lia) SA (SA _ _ hky) (fun i j p q hij hj hp hq=>?_) fun k hk1 g1 g2=>?_)))
 ·have:=o1 i j hij hj;rw[RR hp,RR hq]at this;exact this
 dsimp only;have below:∀i,i<k->∀j,j<n2->R rk (QF st) (s1+i)<=R rk (QF st) (s1+n1+j):=fun i hi j hj=>by obtain⟨p,hp⟩:=gt (s1+i) (by lia);have a:=g1 i p hi hp;rw[if_neg (by simp)]at a;have b:=o2 0 j (D' _) hj;rw[Oh,RR hky]at b;rw[RR hp];exact t_ a b
 by_cases z:n1-k=0
 ·rw[if_pos (by rw[z];rfl)];exact QO (oJ (vR o1 o2 fun i j hi hj=>below i (by lia) j hj))
 rw[if_neg (by simpa using z)];obtain⟨la,hla⟩:=gt (s1+n1-1) (by lia);rw[uh hk1];refine QI (aX hla (QI (jn L k1 (by lia) (by omega) SA (SA _ _ hla) (fun i j p q hij hj hp hq=>?_) fun c hc1 d1 d2=>?_)))
 ·have:=o2 i j hij hj;rw[RR hp,RR hq]at this;exact this
 dsimp only;have above:∀i,i<n1->∀j,c<=j->j<n2->R rk (QF st) (s1+i)<=R rk (QF st) (s1+n1+j):=fun i hi j hj hj2=>by
  obtain⟨p,hp⟩:=gt (s1+n1+j) (by lia);have a:=d2 j p hj hj2 hp;rw[if_pos rfl]at a;have hn1:1<=n1:=by lia
  have b:=o1 i (n1-1) (by lia) (OJ hn1 Nq);rw[Ax hn1,RR hla]at b;rw[RR hp];exact t_ b a
 by_cases w:c=0
 ·rw[if_pos (by rw[w];rfl)];exact QO (oJ (vR o1 o2 fun i j hi hj=>above i hi j (by lia) hj))
 rw[if_neg (by simpa using w)];have ex:((QF st).extract (s1+k) (s1+n1)).toList=((QF st).toList.drop (s1+k)).take (n1-k):=by have:=l7 (QF st) (s1+k) (n1-k);rw[uh hk1]at this;exact this
 have ey:=l7 (QF st) (s1+n1) c;have zx:((QF st).extract (s1+k) (s1+n1)).size=n1-k:=by rw[Pp];lia
 have zy:((QF st).extract (s1+n1) (s1+n1+c)).size=c:=by rw[Pp];lia
 have T2:∀{i:Nat}{p:QE},(QF st).toList[i]?=some p->(QF st)[i]?=some p:=fun{i p} e=>by rw[f']at e;exact e
 have sX:=gJ o1;have sY:=gJ o2;rw[lH hk1]at sX;rw[lH hc1]at sY;have H:LoOk rk S ((QF st).extract (s1+k) (s1+n1)) ((QF st).extract (s1+n1) (s1+n1+c)):=by
  refine⟨by rw[ex];exact(C_.mp sX).2.1,by rw[ey];exact(C_.mp sY).1,fun i p e=>?_,fun i p e=>?_,by lia,by lia,fun p e u hu=>?_,fun p e u hu=>?_⟩
  ·rw[Nr]at e;split at e
   ·exact SA _ _ e
   cases e
  ·rw[Nr]at e;split at e
   ·exact SA _ _ e
   cases e
  ·rw[Nr,if_pos (by lia),Oh,hky]at e;cases e;rw[ex]at hu;obtain⟨j,hj,ej⟩:=cU hu;have:=g2 (k+j) u (by lia) (by lia) (by rw[<-NK];exact T2 ej);rw[if_neg (by simp)]at this;exact J_ this
  rw[zx,Nr,if_pos (by lia),show s1+k+(n1-k-1)=s1+n1-1 by lia,hla]at e;cases e;rw[ey]at hu;obtain⟨j,hj,ej⟩:=cU hu;have:=d1 j u hj (T2 ej);rw[if_pos rfl]at this;exact J_ this
 have fin:∀r st2,Keep st1 st2->Res rk ((QF st).extract (s1+k) (s1+n1)).toList ((QF st).extract (s1+n1) (s1+n1+c)).toList r.toList->wpS M A E s (do
   modify fun z=>setArr z (wrote (QF z) (s1+k) r)
   let g <-get
   pure (Ri g).isNone:StateT QJ Sem Bool) Q st2:=fun r st2 K hres=>by
  rw[ex,ey]at hres;refine QI (TJ (QI (S0 (QO ?_))));have hf2:Ri st2=none:=K.f.trans f1;have aa:QF st2=QF st:=K.a.trans a1;have q1:∀p∈((QF st).toList.drop s1).take k,∀q∈((QF st).toList.drop (s1+n1)).take n2,rk p<=rk q:=fun p hp q hq=>by obtain⟨i,hi,ei⟩:=cU hp;obtain⟨j,hj,ej⟩:=cU hq;have:=below i hi j hj;rw[RR (T2 ei),RR (T2 ej)]at this;exact this
  have q2:∀p∈((QF st).toList.drop s1).take n1,∀q∈((QF st).toList.drop (s1+n1+c)).take (n2-c),rk p<=rk q:=fun p hp q hq=>by obtain⟨i,hi,ei⟩:=cU hp;obtain⟨j,hj,ej⟩:=cU hq;have:=above i hi (c+j) (by lia) (by lia);rw[<-NK,RR (T2 ei),RR (T2 ej)]at this;exact this
  obtain⟨m1,m2,m3⟩:=Im (rk:=rk) (xs:=QF st) (r:=r) (lo:=s1) (k:=k) (n:=n1) (m:=n2) (c:=c) hk1 hc1 (by omega) o1 o2 q1 q2 hres;rw[show(Ri (setArr st2 (wrote (QF st2) (s1+k) r))).isNone=true by show(Ri st2).isNone=true;rw[hf2];rfl];refine h _ ⟨K.k.trans (k1.trans hk.symm),hf2,?_,?_,fun i hi=>?_,?_⟩
  ·show(QT st2).toList=_;rw[K.p];exact p1
  ·show(wrote (QF st2) (s1+k) r).Perm _;rw[aa];exact m1
  ·show(wrote (QF st2) (s1+k) r)[i]?=_;rw[aa];exact m2 i (by lia)
  show bZ rk (wrote (QF st2) (s1+k) r) _ _;rw[aa];exact m3
 by_cases v:n1-k<=c
 ·rw[if_pos v];exact QI (GQ L H k1 fin hr)
 rw[if_neg v];exact QI (Hu L H k1 fin hr)
end
abbrev CS:=Option Unit×Unit
abbrev LS:=Option Unit×Nat
noncomputable def ph(w0:Nat):StateT QJ Sem (ForInStep CS):=do
 let g <-get
 match(if(QT g).size > 1 then(QT g)[(QT g).size-2]? else none)with
 |some (_,_,old)=>
  if old<=w0 then pure (QN (none,()))
  else do
   let b <-U9 ((QT g).size-2)
   if(!b)=true then pure (QN (some (),()))else pure (QV (none,()))
 | _=>pure (QN (none,()))
noncomputable def ug(q0 n:Nat):StateT QJ Sem (ForInStep LS):=do
 modify fun z=>setPending z ((QT z).push (q0,n,0))
 pure (QV (none,q0+n))
noncomputable def tl(sz q0 n:Nat):StateT QJ Sem (ForInStep LS):=do
 let g <-get
 match(QT g).back? with
 |some (s1,n1,_)=>do
  let c <-forIn [0:sz] ((none,()):CS) fun _ _=>ph (power' sz (2*s1+n1) (2*s1+n1+n1+n) sz)
  match c.1 with
  |some r=>pure (QN (some r,q0))
  |none=>do
   modify fun z=>setPending z ((QT z).modify ((QT z).size-1) fun x=>(x.1,x.2.1,power' sz (2*s1+n1) (2*s1+n1+n1+n) sz))
   ug q0 n
 | _=>ug q0 n
noncomputable def l9(sz q0:Nat):StateT QJ Sem (ForInStep LS):=
 if q0>=sz then pure (QN (none,q0))else do
  let f <-WD q0 (sz-q0)
  match f with
  |some n=>
   if n<Vw sz sz 0 then do
    rule "list.sort.binary-insertion"
    let b <-Xz q0 (min (sz-q0) (Vw sz sz 0)) n
    if(!b)=true then pure (QN (some (),q0))else tl sz q0 (min (sz-q0) (Vw sz sz 0))
   else tl sz q0 n
  | _=>pure (QN (some (),q0))
noncomputable def pick(ps:Array (Nat×Nat×Nat)):Nat:=
 if Qu (fun x=>decide (x<ps[ps.size-2+1]?.elim 0 fun y=>y.2.1)) (if ps.size-2 > 0 then NI (fun y=>y.2.1) ps[ps.size-2-1]? else none)=true then ps.size-2-1 else ps.size-2
noncomputable def yZ:StateT QJ Sem (ForInStep CS):=do
 let g <-get
 if(QT g).size<=1 then pure (QN (none,()))
 else do
  let b <-U9 (pick (QT g))
  if(!b)=true then pure (QN (some (),()))else pure (QV (none,()))
theorem Kc:sortRuns'=(do
 let g <-get
 let c <-forIn [0:(QF g).size] ((none,0):LS) fun _ c=>l9 (QF g).size c.2
 match c.1 with
 |some r=>pure r
 |none=>do
  let d <-forIn [0:(QF g).size] ((none,()):CS) fun _ _=>yZ
  match d.1 with
  |some r=>pure r
  |none=>pure ()):=by
 rw[sortRuns'_eq];dsimp only;refine congrArg (bind get) (funext fun g=>?_);refine congr (congrArg bind ?_) (funext fun c=>?_)
 ·refine congrArg (forIn _ _) (funext fun _=>funext fun c=>?_);unfold l9;refine ite_congr rfl (fun _=>rfl) (fun _=>?_);refine congrArg (bind _) (funext fun f=>?_);cases f with
  |none=>rfl
  |some n=>
   dsimp only;refine ite_congr rfl (fun _=>congrArg (bind _) (funext fun _=>congrArg (bind _) (funext fun b=>ite_congr rfl (fun _=>rfl) (fun _=>?_)))) (fun _=>?_)
   all_goals
    unfold tl;refine congrArg (bind _) (funext fun g=>?_);generalize (QT g).back?=bk;rcases bk with _|⟨s1,n1,z⟩
    ·rfl
    dsimp only;refine congr (congrArg bind ?_) (funext fun c=>?_)
    ·refine congrArg (forIn _ _) (funext fun _=>funext fun c=>?_);unfold ph;refine congrArg (bind _) (funext fun g=>?_);generalize (if(QT g).size > 1 then(QT g)[(QT g).size-2]? else none)=o;rcases o with _|⟨_,_,_⟩ <;> rfl
    rcases c with⟨_ | _,_⟩ <;> rfl
 rcases c with⟨_ | _,_⟩
 ·dsimp only;refine congr (congrArg bind ?_) (funext fun c=>?_)
  ·rfl
  rcases c with⟨_ | _,_⟩ <;> rfl
 rfl
noncomputable def Pd(rk:QE->Nat)(xs:Array QE):List (Nat×Nat×Nat)->Nat->Nat->Prop
 | [],a,b=>a=b
 | (c,n,_)::t,a,b=>c=a/\1<=n/\bZ rk xs c n/\Pd rk xs t (a+n) b
section
variable{rk:QE->Nat}
theorem Pd.le :∀{l:List (Nat×Nat×Nat)}{a b:Nat},Pd rk xs l a b->a+l.length<=b
 | [],_,_,h=>NS h
 | (c,n,_)::t,a,b,h=>by have:=h.2.2.2.le;have:=h.2.1;rw[h_];lia
theorem Pd.congr :∀{l:List (Nat×Nat×Nat)}{a b:Nat},Pd rk xs l a b->(∀i,a<=i->i<b->R rk ys i=R rk xs i)->Pd rk ys l a b
 | [],_,_,h,_=>h
 | (c,n,_)::t,a,b,h,e=>by have le:=h.2.2.2.le;have ca:=h.1;refine⟨h.1,h.2.1,fun i j hij hj=>?_,h.2.2.2.congr fun i h1 h2=>e i (by lia) h2⟩;rw[e _ (by lia) (by lia),e _ (by lia) (by lia)];exact h.2.2.1 i j hij hj
theorem fj{xs:Array QE}:∀{l m:List (Nat×Nat×Nat)}{a b:Nat},Pd rk xs (l++m) a b↔∃c,Pd rk xs l a c/\Pd rk xs m c b
 | [],m,a,b=>⟨fun h=>⟨a,rfl,h⟩,fun⟨c,e,h⟩=>by cases (show a=c from e);exact h⟩
 | (c,n,_)::t,m,a,b=>⟨fun h=>by obtain⟨d,h1,h2⟩:=fj.mp h.2.2.2;exact⟨d,⟨h.1,h.2.1,h.2.2.1,h1⟩,h2⟩,fun⟨d,h,h2⟩=>⟨h.1,h.2.1,h.2.2.1,fj.mpr ⟨d,h.2.2.2,h2⟩⟩⟩
theorem Pd.modify {w0:Nat}:∀{l:List (Nat×Nat×Nat)}{i a b:Nat},Pd rk xs l a b->Pd rk xs (l.modify i fun x=>(x.1,x.2.1,w0)) a b
 | [],i,_,_,h=>by cases i <;> exact h
 | (c,n,_)::t,0,a,b,h=>⟨h.1,h.2.1,h.2.2.1,h.2.2.2⟩
 | (c,n,_)::t,i+1,a,b,h=>⟨h.1,h.2.1,h.2.2.1,h.2.2.2.modify⟩
theorem uE{α:Type}:∀{l:List α}{i:Nat},i+1<l.length->∃pre x y post,l=pre++x::y::post/\pre.length=i
 |x::y::t,0,_=>⟨[],x,y,t,rfl,rfl⟩
 | [_],0,h=>absurd h (by simp)
 |x::t,i+1,h=>by obtain⟨p,a,b,q,e,f⟩:=uE (l:=t) (i:=i) (by rw[h_]at h;lia);exact⟨x::p,a,b,q,by rw[e];rfl,by rw[h_,f]⟩
 | [],_,h=>absurd h (by simp)
end
section
variable{M:SH}{A:QY}{E:Qy->QB->Prop}{s:QB}{kd:RA}{rk:QE->Nat}{S:QE->Prop}{a0:Array QE}
structure Iv (kd:RA) (rk:QE->Nat) (a0:Array QE) (q0:Nat) (st:QJ):Prop where
 k:kindOf st=kd
 f:Ri st=none
 a:(QF st).Perm a0
 pd:Pd rk (QF st) (QT st).toList 0 q0
theorem Iv.all (h:Iv kd rk a0 q0 st)(hS:∀p∈a0.toList,S p):nU S st:=fun p hp=>hS p ((Mv.mp h.a).mem_iff.mp hp)
theorem vM{Q:Bool->QJ->Prop}(L:cE M A E s kd rk S)(hS:∀p∈a0.toList,S p)(hr:∀x,QG M A (rule x) (fun _ s'=>s'=s) E s)(I:Iv kd rk a0 q0 st)(hq:q0<=a0.size)(hi:i+1<(QT st).size)
  (h:∀st',Iv kd rk a0 q0 st'->(QT st').size+1=(QT st).size->(∀j,q0<=j->(QF st')[j]?=(QF st)[j]?)->Q true st'):wpS M A E s (U9 i) Q st:=by
 obtain⟨pre,⟨s1,n1,pw⟩,⟨s2,n2,p2⟩,post,e,el⟩:=uE (l:=(QT st).toList) (i:=i) (by rw[gV];exact hi);subst el;have P:=I.pd;rw[e]at P;obtain⟨c,P1,e1,k1,o1,e2,k2,o2,P3⟩:=fj.mp P;subst e1;subst e2;have le:=P3.le;have sz:=I.a.size_eq;refine HY L I.k (I.all hS) I.f hr e k1 k2 (by lia) o1 o2 fun st' m=>?_
 have same:∀j,(j<s1\/s1+n1+n2<=j)->R rk (QF st') j=R rk (QF st) j:=fun j hj=>cX (m.out j (by lia))
 refine h st' ⟨m.k.trans I.k,m.f,m.a.trans I.a,?_⟩ ?_ fun j hj=>m.out j (by lia)
 ·rw[m.p];refine fj.mpr ⟨s1,P1.congr fun j _ hj=>same j (by lia),rfl,by lia,m.srt,?_⟩;rw[<-NK];exact P3.congr fun j hj _=>same j (by lia)
 rw[<-gV,<-gV,m.p,e];simp only[d_,h_];lia
theorem xh{w0:Nat}{Q:ForInStep CS->QJ->Prop}(L:cE M A E s kd rk S)(hS:∀p∈a0.toList,S p)(hr:∀x,QG M A (rule x) (fun _ s'=>s'=s) E s)(I:Iv kd rk a0 q0 st)(hq:q0<=a0.size)
  (h:∀st' (d:Bool),Iv kd rk a0 q0 st'->(∀j,q0<=j->(QF st')[j]?=(QF st)[j]?)->Q (if d=true then QN (none,())else QV (none,())) st'):wpS M A E s (ph w0) Q st:=by
 unfold ph;refine QI (S0 ?_);generalize ho:(if(QT st).size > 1 then(QT st)[(QT st).size-2]? else none)=o;rcases o with _|⟨x,y,old⟩
 ·exact QO (h st true I fun _ _=>rfl)
 dsimp only;have h1:(QT st).size > 1:=by
  by_cases z:(QT st).size > 1
  ·exact z
  rw[if_neg z]at ho;cases ho
 by_cases w:old<=w0
 ·rw[if_pos w];exact QO (h st true I fun _ _=>rfl)
 rw[if_neg w];refine QI (vM L hS hr I hq (by lia) fun st' I' _ e=>?_);rw[if_neg (by simp)];exact QO (h st' false I' e)
theorem sQ{Q:ForInStep LS->QJ->Prop}(I:Iv kd rk a0 q0 st)(hn:1<=n)(o:bZ rk (QF st) q0 n)(h:∀st',Iv kd rk a0 (q0+n) st'->Q (QV (none,q0+n)) st'):wpS M A E s (ug q0 n) Q st:=by unfold ug;refine QI (TJ (QO (h _ ⟨I.k,I.f,I.a,?_⟩)));show Pd rk (QF st) ((QT st).push (q0,n,0)).toList 0 (q0+n);rw[MQ];exact fj.mpr ⟨q0,I.pd,rfl,hn,o,rfl⟩
theorem Gy{Q:ForInStep LS->QJ->Prop}(L:cE M A E s kd rk S)(hS:∀p∈a0.toList,S p)(hr:∀x,QG M A (rule x) (fun _ s'=>s'=s) E s)(I:Iv kd rk a0 q0 st)(hq:q0<=a0.size)(hn:1<=n)(o:bZ rk (QF st) q0 n)
  (h:∀st',Iv kd rk a0 (q0+n) st'->Q (QV (none,q0+n)) st'):wpS M A E s (tl a0.size q0 n) Q st:=by
 unfold tl;refine QI (S0 ?_);generalize (QT st).back?=bk;rcases bk with _|⟨s1,n1,z⟩
 ·exact sQ I hn o h
 dsimp only;generalize power' a0.size (2*s1+n1) (2*s1+n1+n1+n) a0.size=w0;refine QI (RF (Rm (I:=fun _ c st'=>c=(none,())/\Iv kd rk a0 q0 st'/\∀j,q0<=j->(QF st')[j]?=(QF st)[j]?) (Q:=fun c st'=>c=(none,())/\Iv kd rk a0 q0 st'/\∀j,q0<=j->(QF st')[j]?=(QF st)[j]?) ?_ (fun _ _ z=>z) ⟨rfl,I,fun _ _=>rfl⟩) ?_)
 ·rintro x c st1 _ _ ⟨rfl,I1,e1⟩;refine xh L hS hr I1 hq fun st2 d I2 e2=>?_;cases d
  ·exact⟨rfl,I2,fun j hj=>(e2 j hj).trans (e1 j hj)⟩
  exact⟨rfl,I2,fun j hj=>(e2 j hj).trans (e1 j hj)⟩
 rintro c st1 ⟨rfl,I1,e1⟩;dsimp only;refine QI (TJ ?_);refine sQ ⟨I1.k,I1.f,I1.a,?_⟩ hn (fun i j hij hj=>?_) h
 ·show Pd rk (QF st1) ((QT st1).modify ((QT st1).size-1) fun x=>(x.1,x.2.1,w0)).toList 0 q0;rw[Array.toList_modify];exact I1.pd.modify
 show R rk (QF st1) (q0+i)<=R rk (QF st1) (q0+j);rw[cX (rk:=rk) (e1 (q0+i) (by lia)),cX (rk:=rk) (e1 (q0+j) (by lia))];exact o i j hij hj
theorem Iv.within (I:Iv kd rk a0 q0 st)(W:Within st st' q0 n):Iv kd rk a0 q0 st':=⟨W.kp.k.trans I.k,W.kp.f.trans I.f,W.kp.a.trans I.a,by rw[W.kp.p];exact I.pd.congr fun i _ hi=>cX (W.out i (.inl hi))⟩
theorem vW{Q:ForInStep LS->QJ->Prop}(L:cE M A E s kd rk S)(hS:∀p∈a0.toList,S p)(hr:∀x,QG M A (rule x) (fun _ s'=>s'=s) E s)(I:Iv kd rk a0 q0 st)(hq:q0<=a0.size)
  (h1:q0=a0.size->Q (QN (none,q0)) st) (h2:∀n st',1<=n->q0+n<=a0.size->Iv kd rk a0 (q0+n) st'->Q (QV (none,q0+n)) st'):wpS M A E s (l9 a0.size q0) Q st:=by
 unfold l9;by_cases z:q0>=a0.size
 ·rw[if_pos z];exact QO (h1 (by lia))
 rw[if_neg z];have qz:=J_ (OP z);have sz:=I.a.size_eq;refine QI (vC L I.k (I.all hS) (by lia) (by lia) hr fun n st1 g1 g2 W1 o1=>?_);dsimp only;have I1:=I.within W1;by_cases w:n<Vw a0.size a0.size 0
 ·rw[if_pos w];generalize Vw a0.size a0.size 0=mr at w ⊢;refine QI (Uu (Q7 (hr _) (fun _ _ z=>⟨z,?_⟩) fun _ _ z=>z));have sz1:=I1.a.size_eq;have f1:n<=min (a0.size-q0) mr:=Nat.le_min.mpr ⟨g2,J_ w⟩;have f4:q0+min (a0.size-q0) mr<=a0.size:=t_ (MW (Nat.min_le_left ..) q0) (NS (NM qz));have f5:=t_ g1 f1;generalize min (a0.size-q0) mr=fr at f1 f4 f5 ⊢;refine QI (Fn L I1.k (I1.all hS) (by rw[sz1];exact f4) f1 o1 fun st2 W2 o2=>?_);rw[if_neg (by simp)];exact Gy L hS hr (I1.within W2) hq f5 o2 fun st3 I3=>h2 _ st3 f5 f4 I3
 rw[if_neg w];exact Gy L hS hr I1 hq g1 o1 fun st3 I3=>h2 _ st3 g1 (by lia) I3
theorem DP{ps:Array (Nat×Nat×Nat)}(h:1<ps.size):pick ps+1<ps.size:=by
 unfold pick;generalize Qu (fun x=>decide (x<ps[ps.size-2+1]?.elim 0 fun y=>y.2.1)) (if ps.size-2 > 0 then NI (fun y=>y.2.1) ps[ps.size-2-1]? else none)=b;cases b
 ·rw[if_neg (by simp)];lia
 rw[if_pos rfl];lia
theorem oC{Q:Unit->QJ->Prop}(L:cE M A E s kd rk S)(hS:∀p∈(QF st).toList,S p)(hr:∀x,QG M A (rule x) (fun _ s'=>s'=s) E s)(hk:kindOf st=kd)(hf:Ri st=none)(hp:QT st=#[])
  (h:∀st',(QF st').Perm (QF st)->Ri st'=none->Srt rk (QF st').toList->Q () st'):wpS M A E s sortRuns' Q st:=by
 rw[Kc];refine QI (S0 ?_);have I0:Iv kd rk (QF st) 0 st:=⟨hk,hf,O1 _,by rw[hp];exact rfl⟩;revert I0 hS h;generalize QF st=a0;intro hS h I0;refine QI (RF (Rm (I:=fun x c st'=>∃q0,c=(none,q0)/\x<=q0/\q0<=a0.size/\Iv kd rk a0 q0 st') (Q:=fun c st'=>c=(none,a0.size)/\Iv kd rk a0 a0.size st') ?_ ?_ ⟨0,rfl,b_ _,D' _,I0⟩) ?_)
 ·rintro x c st1 _ _ ⟨q0,rfl,g1,g2,I⟩;exact vW L hS hr I g2 (fun e=>by subst e;exact⟨rfl,I⟩) fun n st2 k1 k2 I2=>⟨q0+n,rfl,by lia,k2,I2⟩
 ·rintro c st1 ⟨q0,rfl,g1,g2,I⟩;have e:q0=a0.size:=by lia
  subst e;exact⟨rfl,I⟩
 rintro c st1 ⟨rfl,I1⟩;dsimp only;refine QI (RF (Rm (I:=fun x c st'=>c=(none,())/\Iv kd rk a0 a0.size st'/\((QT st').size<=1\/(QT st').size+x<=a0.size)) (Q:=fun c st'=>c=(none,())/\Iv kd rk a0 a0.size st'/\(QT st').size<=1) ?_ ?_ ⟨rfl,I1,.inr ?_⟩) ?_)
 ·rintro x c st2 _ _ ⟨rfl,I2,g⟩;unfold yZ;refine QI (S0 ?_);by_cases z:(QT st2).size<=1
  ·rw[if_pos z];exact QO ⟨rfl,I2,z⟩
  rw[if_neg z];refine QI (vM L hS hr I2 (b_ _) (DP (by lia)) fun st3 I3 e _=>?_);rw[if_neg (by simp)];exact QO ⟨rfl,I3,.inr (by lia)⟩
 ·rintro c st2 ⟨rfl,I2,g⟩;exact⟨rfl,I2,by lia⟩
 ·have:=I1.pd.le;rw[gV]at this;lia
 rintro c st2 ⟨rfl,I2,g⟩;refine QO (h st2 I2.a I2.f ?_);have P:=I2.pd;have sz:=I2.a.size_eq;have lp:(QT st2).toList.length<=1:=by rw[gV];exact g
 have o:bZ rk (QF st2) 0 a0.size:=by
  generalize (QT st2).toList=l at P lp
  match l,P,lp with
  | [],P,_=>
   have e:0=a0.size:=P;intro i j _ hj;lia
  | [(c,n,_)],P,_=>
   obtain⟨e1,_,o,e2⟩:=P;have e2:0+n=a0.size:=e2;subst e1;rw[<-e2,MN];exact o
  | _::_::_,_,lp=>simp at lp
 have:=gJ o;rw[Na,Ma (by rw[gV];lia)]at this;exact this
end
section
variable{κ:Type}{lt:κ->κ->Bool}
noncomputable def rnk(lt:κ->κ->Bool)(ks:List κ)(k:κ):Nat:=ks.countP fun y=>lt y k
theorem count_le{p q:κ->Bool}:∀{l:List κ},(∀x∈l,p x=true->q x=true)->l.countP p<=l.countP q
 | [],_=>b_ _
 |x::t,h=>by
  have ih:=count_le (l:=t) fun y hy=>h y (.tail _ hy);have hx:=h x (.head _);rw[N8,N8];cases e:p x
  ·rw[if_neg (by simp)];lia
  rw[hx e,if_pos rfl];lia
theorem wC{p q:κ->Bool}:∀{l:List κ}{z:κ},(∀x∈l,p x=true->q x=true)->z∈l->p z=false->q z=true->l.countP p<l.countP q
 |x::t,z,h,hz,h1,h2=>by
  have ih:=count_le (l:=t) fun y hy=>h y (.tail _ hy);have hx:=h x (.head _);rw[N8,N8];rcases m_.mp hz with e|e
  ·subst e;rw[h1,h2,if_neg (by simp),if_pos rfl];lia
  have:=wC (l:=t) (fun y hy=>h y (.tail _ hy)) e h1 h2;cases e:p x
  ·rw[if_neg (by simp)];lia
  rw[hx e,if_pos rfl];lia
structure Tot (lt:κ->κ->Bool):Prop where
 irr:∀a,lt a a=false
 tr:∀a b c,lt a b=true->lt b c=true->lt a c=true
 tot:∀a b,lt a b=false->lt b a=false->a=b
theorem IC(T:Tot lt){ks:List κ}{a b:κ}(h:lt b a=false):rnk lt ks a<=rnk lt ks b:=by
 refine count_le fun y _ hy=>?_;cases e:lt a b
 ·rw[<-T.tot a b e h];exact hy
 exact T.tr _ _ _ hy e
theorem uo(T:Tot lt){ks:List κ}{a b:κ}(ha:a∈ks)(h:lt a b=true):rnk lt ks a<rnk lt ks b:=wC (fun y _ hy=>T.tr _ _ _ hy h) ha (T.irr a) h
theorem yk(T:Tot lt){ks:List κ}{a b:κ}(ha:a∈ks):decide (rnk lt ks a<rnk lt ks b)=lt a b:=by
 cases e:lt a b
 ·exact decide_eq_false (Pc.mpr (IC T e))
 exact decide_eq_true (uo T ha e)
end
noncomputable def ltL:List Int->List Int->Bool
 | _,[]=>false
 | [],_::_=>true
 |a::x,b::y=>if a=b then ltL x y else decide (a<b)
theorem yz:∀x,ltL x x=false
 | []=>rfl
 |a::x=>by rw[ltL,if_pos rfl];exact yz x
theorem CV:∀a b c,ltL a b=true->ltL b c=true->ltL a c=true
 | _,[],_,h,_=>by simp[ltL]at h
 | _,_::_,[],_,h=>by simp[ltL]at h
 | [],_::_,_::_,_,_=>rfl
 |a::x,b::y,c::z,h,g=>by
  rw[ltL]at h g ⊢;by_cases e1:a=b
  ·subst e1;rw[if_pos rfl]at h;by_cases e2:a=c
   ·subst e2;rw[if_pos rfl]at g ⊢;exact CV x y z h g
   rw[if_neg e2]at g ⊢;exact g
  rw[if_neg e1]at h;have h:=of_decide_eq_true h;by_cases e2:b=c
  ·subst e2;rw[if_neg e1];exact decide_eq_true h
  rw[if_neg e2]at g;have g:=of_decide_eq_true g;rw[if_neg (by lia)];exact decide_eq_true (by lia)
theorem zq:∀a b,ltL a b=false->ltL b a=false->a=b
 | [],[],_,_=>rfl
 | [],_::_,h,_=>by simp[ltL]at h
 | _::_,[],_,h=>by simp[ltL]at h
 |a::x,b::y,h,g=>by
  rw[ltL]at h g;by_cases e:a=b
  ·subst e;rw[if_pos rfl]at h g;rw[zq x y h g]
  rw[if_neg e]at h;rw[if_neg (fun z=>e z.symm)]at g;have h:=of_decide_eq_false h;have g:=of_decide_eq_false g;lia
theorem Ca:Tot ltL:=⟨yz,CV,zq⟩
noncomputable def fO:Qy->Int
 | .int i _=>i
 | _=>0
noncomputable def jJ(h:QR):Qy->List Int
 | .ref a=>match h.get? a with
  |some o=>match o.data with
   | .seq xs _=>xs.toList.map fO
   | _=>[]
  |none=>[]
 | _=>[]
noncomputable def AllInt(l:List Qy):Prop:=∀v∈l,∃i t,v=.int i t
noncomputable def E8(h:QR)(v:Qy):Prop:=∃a o xs n,v=.ref a/\h.get? a=some o/\o.cls=.type "tuple"/\o.data=.seq xs n/\AllInt xs.toList/\0<xs.size
theorem tD{h:QR}{a:QA}{o:Obj}{xs:Array Qy}(e:h.get? a=some o)(d:o.data=.seq xs n):jJ h (.ref a)=xs.toList.map fO:=by unfold jJ;dsimp only;rw[e];dsimp only;rw[d]
variable {S:QE->Prop}{rk:QE->Nat}{vs:List Qy}
section
variable{prog:QL}{w:QP}{A:QY}{E:Qy->QB->Prop}{s:QB}
theorem yf{Q:Bool->QB->Prop}{fin:Bool}:∀(xs ys:List Qy) (i:Nat),AllInt xs->AllInt ys->fin=decide (xs.length<ys.length)->Q (ltL (xs.map fO) (ys.map fO)) s->PySem.W.KatLex prog w A true fin Q (xs.zip ys) i s
 | [],[],i,_,_,e,q=>by subst e;exact UH q
 | [],b::y,i,_,_,e,q=>by subst e;exact UH q
 |a::x,[],i,_,_,e,q=>by subst e;exact UH q
 |a::x,b::y,i,ha,hb,e,q=>by
  obtain⟨n,t,rfl⟩:=ha a (.head _);obtain⟨m,u,rfl⟩:=hb b (.head _);rw[g_,g_,ltL]at q;refine PySem.W.kat_cons (VH ?_);by_cases z:n=m
  ·have q:Q (ltL (x.map fO) (y.map fO)) s:=by rw[if_pos (show fO (.int n t)=fO (.int m u)from z)]at q;exact q
   rw[show(n == m)=true by simpa using z];refine PySem.W.kat_yes (yf x y (i+1) (fun v hv=>ha v (.tail _ hv)) (fun v hv=>hb v (.tail _ hv)) ?_ q);rw[e,h_,h_];exact decide_eq_decide.mpr (by lia)
  have q:Q (decide (n<m)) s:=by rw[if_neg (show ¬fO (.int n t)=fO (.int m u)from z)]at q;exact q
  rw[show(n == m)=false by simpa using z];refine PySem.W.kat_no ?_;cases (true&&i == 0)
  ·exact PySem.W.kat_one _ _ (lt_int q)
  exact oneLt_int q
theorem wc{h0:QR}{ks:List (List Int)}(hS:∀x,S x->E8 h0 x.1/\jJ h0 x.1∈ks)(hk:∀b o,h0.get? b=some o->(∃x n,o.cls=.type "tuple"/\o.data=.seq x n)->s.heap.get? b=some o) :
  cE (QM prog w) A E s (Wt true) (fun x=>rnk ltL ks (jJ h0 x.1)) S:=by
 intro x y st Q sx sy kd q;obtain⟨⟨a,oa,xs,na,ea,ga,ca,da,ia,_⟩,ma⟩:=hS x sx;obtain⟨⟨b,ob,ys,nb,eb,gb,cb,db,ib,_⟩,mb⟩:=hS y sy;rw[lt'_eq];refine QI (S0 ?_);rw[kd,ea,eb];refine QI (Uu (RP (PySem.W.kat_lt (hk _ _ ga ⟨_,_,ca,da⟩) da (hk _ _ gb ⟨_,_,cb,db⟩) db (yf _ _ 0 ia ib (by rw[gV,gV]) ⟨rfl,?_⟩))));refine QO ?_;dsimp only at q;rw[yk Ca ma,ea,eb,tD ga da,tD gb db]at q;exact q
theorem wu{M:SH}{h0:QR}{Q:RA->QB->Prop}(hv:∀v∈vs,E8 h0 v)(hk:∀b o,h0.get? b=some o->(∃x n,o.cls=.type "tuple"/\o.data=.seq x n)->s.heap.get? b=some o)(hne:vs≠[])(q:Q (Wt true) s):QG M A (T1 vs.toArray) Q E s:=by
 have mk:∀(l:List Qy),(∀v∈l,E8 h0 v)->∃fs,PySem.W.KatTups s.heap l fs/\AllInt fs/\fs.length=l.length:=by
  intro l;induction l with
  |nil=>exact fun _=>⟨[],XN,fun v hv=>(nomatch hv),rfl⟩
  |cons v r ih=>
   intro hl;obtain⟨fs,k1,k2,k3⟩:=ih fun v hv=>hl v (.tail _ hv);obtain⟨a,o,xs,n,rfl,g,c,d,i,z⟩:=hl v (.head _);obtain⟨f,hf⟩:∃f,xs[0]?=some f:=⟨_,i_ z⟩;refine⟨f::fs,XD (hk _ _ g ⟨_,_,c,d⟩) c d hf k1,fun v hv=>?_,by rw[h_,h_,k3]⟩;rcases m_.mp hv with e|e
   ·subst e;rw[<-f']at hf;exact i _ (F_ hf)
   exact k2 v e
 obtain⟨fs,k1,k2,k3⟩:=mk vs hv;refine PySem.W.kat_kind (T:=.type "int") k1 ?_ (fun v hv=>?_) rfl q
 ·rw[k3];exact Pj.mpr hne
 obtain⟨i,t,rfl⟩:=k2 v hv;exact .now
theorem gq(vs:List Qy):(vs.toArray.zip vs.toArray).toList=vs.map fun v=>(v,v):=by
 rw[Array.toList_zip];induction vs with
 |nil=>rfl
 |cons v r ih=>exact congrArg ((v,v)::·) ih
theorem rB{a:QA}{kd:RA}{P:XW->QB->Prop}(ho:s.heap.get? a=some (QZ "list" vs.toArray n))(hz:vs.length<=sizeLine)(hS:∀v∈vs,S (v,v))
  (kind:∀h',(∀b o,b≠a->s.heap.get? b=some o->h'.get? b=some o)->∀{Q:RA->QB->Prop},vs≠[]->Q kd {s with heap:=h'}->QG (QM prog w) A (T1 vs.toArray) Q E {s with heap:=h'})
  (lt:∀h',(∀b o,b≠a->s.heap.get? b=some o->h'.get? b=some o)->cE (QM prog w) A E {s with heap:=h'} kd rk S)
  (h:∀(o:List Qy) c h',o.Perm vs->o.Pairwise (fun x y=>rk (x,x)<=rk (y,y))->(∀b u,b≠a->s.heap.get? b=some u->h'.get? b=some u)->h'.get? a=some (QZ "list" o.toArray c)->P (.done (.ret .none)) {s with heap:=h'}) :
  QG (QM prog w) A (RM.«list.sort» ⟨[.ref a],[]⟩) P E s:=by
 rw[list_sort_plain];have ha:a<s.heap.objs.size:=QK ho;refine Qx (Xa ho rfl ?_);refine Qx (Ub ho rfl ?_ (by rw[q_];exact hz) (D' _));obtain⟨e1,ho1⟩:∃e1,(s.heap.update a (Q0 fun _=>(#[]:Array Qy))).get? a=some (QZ "list" #[] e1):=⟨_,TL ho fun _=>#[]⟩;refine Qx (UQ ho1 rfl ?_);refine Qx (UT ?_ hz);refine Qx (Sy ?_ (D' _));refine Q2 ?_;have k2:∀b u,(s.heap.update a (Q0 fun _=>(#[]:Array Qy))).get? b=some u->(((s.heap.update a (Q0 fun _=>(#[]:Array Qy))).push (QZ "tuple" vs.toArray 0)).push (QZ "list" #[] 0)).get? b=some u:=fun b u e=>QD _ (QD _ e);have k3:∀b u,b≠a->s.heap.get? b=some u->(((s.heap.update a (Q0 fun _=>(#[]:Array Qy))).push (QZ "tuple" vs.toArray 0)).push (QZ "list" #[] 0)).get? b=some u:=fun b u hb e=>k2 b u (by rw[RZ _ _ _ _ hb];exact e)
 have ho6:=k2 _ _ ho1;show QG (QM prog w) A _ P E {s with heap:=((s.heap.update a (Q0 fun _=>(#[]:Array Qy))).push (QZ "tuple" vs.toArray 0)).push (QZ "list" #[] 0) };generalize ((s.heap.update a (Q0 fun _=>(#[]:Array Qy))).push (QZ "tuple" vs.toArray 0)).push (QZ "list" #[] 0)=h1 at k3 ho6 ⊢;dsimp only;have fin:∀st':QJ,(QF st').Perm (vs.toArray.zip vs.toArray)->Srt rk (QF st').toList->Ri st'=none->QG (QM prog w) A (do
   let touched:=(<-seqEpoch a) != e1
   Uz (.ref a) fun _=>(QF st').map (·.2)
   if let some e:=Ri st' then rule "list.sort.comparison-raised";throw e
   if touched then rule "list.sort.modified";raiseError "ValueError" "list modified during sort"
   ret .none) P E {s with heap:=h1}:=fun st' hp hs hf=>by
  have lp:(QF st').toList.Perm (vs.map fun v=>(v,v)):=by have:=Mv.mp hp;rw[gq]at this;exact this
  have op:((QF st').toList.map (·.2)).Perm vs:=by have:=lp.map (·.2);rw[A',show((fun x:QE=>x.2) ∘ fun v:Qy=>(v,v))=id from rfl,Oy]at this;exact this
  have tw:∀p∈(QF st').toList,p=(p.2,p.2):=fun p hp=>by obtain⟨v,_,e⟩:=r_.mp (lp.mem_iff.mp hp);rw[<-e]
  have osr:((QF st').toList.map (·.2)).Pairwise (fun x y=>rk (x,x)<=rk (y,y)):=by rw[K_];refine MD (fun{p q} hp hq hr=>?_) hs;rw[<-tw p hp,<-tw q hq];exact hr
  have os:((QF st').map (·.2)).size<=sizeLine+1:=by rw[<-gV,N9,op.length_eq];lia
  refine Qx (UQ ho6 rfl ?_);refine Qx (Ub ho6 rfl ?_ (D' _) os);rw[hf];simp only[bne_self_eq_false,LQ,if_false];obtain⟨c,hc⟩:∃c,(h1.update a (Q0 fun _=>(QF st').map (·.2))).get? a=some (QZ "list" ((QF st').toList.map (·.2)).toArray c):=by have:=TL ho6 fun _=>(QF st').map (·.2);rw[show((QF st').toList.map (·.2)).toArray=(QF st').map (·.2) by rw[<-N9]];exact⟨_,this⟩
  refine QC (h _ c _ op osr (fun b u hb e=>?_) hc);rw[RZ _ _ _ _ hb];exact k3 b u hb e
 by_cases h2:vs.toArray.size<2
 ·rw[if_pos h2,if_pos h2];refine Qx (QC ?_);rw[Wc];refine Qx (QC ?_);refine fin (RS general' (vs.toArray.zip vs.toArray) #[] 7 none) (O1 _) ?_ rfl;show Srt rk (vs.toArray.zip vs.toArray).toList;rw[gq];have h3:vs.length<2:=h2;clear fin h lt kind hS ho
  match vs,h3 with
  | [],_=>exact .nil
  | [v],_=>exact N0 _ _
  | _::_::_,h3=>exact absurd h3 (by rw[h_,h_];lia)
 rw[if_neg h2,if_neg h2];refine Qx (kind h1 k3 (fun z=>by rw[z]at h2;simp at h2) ?_);refine Qx (Q7 (oC (st:=RS kd (vs.toArray.zip vs.toArray) #[] 7 none) (Q:=fun _ st'=>(QF st').Perm (vs.toArray.zip vs.toArray)/\Ri st'=none/\Srt rk (QF st').toList) (lt h1 k3) (fun p hp=>?_) (fun x=>Sh rfl) rfl rfl rfl fun st' a1 a2 a3=>⟨a1,a2,a3⟩) ?_ fun _ _ e=>e)
 ·rw[show(QF (RS kd (vs.toArray.zip vs.toArray) #[] 7 none))=vs.toArray.zip vs.toArray from rfl,gq]at hp;obtain⟨v,hv,e⟩:=r_.mp hp;rw[<-e];exact hS v hv
 rintro⟨⟨⟩,st'⟩ s' ⟨rfl,hp,hf,hs⟩;exact fin st' hp hs hf
theorem xj{l:QA}{kd:RA}{Q:Qy->QB->Prop}(hl:s.heap.IsList l vs.toArray)(hz:vs.length<=sizeLine)(hS:∀v∈vs,S (v,v))
  (kind:∀h',(∀b o,s.heap.get? b=some o->h'.get? b=some o)->∀{Q:RA->QB->Prop}{E:Qy->QB->Prop},vs≠[]->Q kd {s with heap:=h'}->QG (QM prog w) A.in1.in1 (T1 vs.toArray) Q E {s with heap:=h'})
  (lt:∀h' E,(∀b o,s.heap.get? b=some o->h'.get? b=some o)->cE (QM prog w) A.in1.in1 E {s with heap:=h'} kd rk S)
  (h:∀(o:List Qy) a c h',o.Perm vs->o.Pairwise (fun x y=>rk (x,x)<=rk (y,y))->s.heap.objs.size<=a->(∀b u,s.heap.get? b=some u->h'.get? b=some u)->h'.get? a=some (QZ "list" o.toArray c)->Q (.ref a) {s with heap:=h'}) :
  QG (QM prog w) A (call (.builtin "sorted") [.ref l]) Q E s:=by
 refine S4 VG Vs Vt (Xb _) ?_;unfold RM.«sorted»;refine Qx (m:=Wd "sorted" 1 1 _) (QC ?_);refine Qx (Xc hl ?_ hz);refine Qx (Sy ?_ hz);have hsz:((s.heap.push (QZ "list" #[] 0)).update s.heap.objs.size (Q0 (·++vs.toArray))).objs.size=s.heap.objs.size+1:=by rw[VT,size_push']
 have hoL:(((s.heap.push (QZ "list" #[] 0)).update s.heap.objs.size (Q0 (·++vs.toArray))).push (QZ "list" vs.toArray 0)).get? (s.heap.objs.size+1)=some (QZ "list" vs.toArray 0):=by rw[<-hsz];exact QH _ rfl
 have keep:∀b o,s.heap.get? b=some o->(((s.heap.push (QZ "list" #[] 0)).update s.heap.objs.size (Q0 (·++vs.toArray))).push (QZ "list" vs.toArray 0)).get? b=some o:=fun b o q=>by have hlt:b<s.heap.objs.size:=QK q;rw[Te _ _ _ (by rw[hsz];exact v_ (MR hlt)),RZ _ _ _ _ (v_ hlt),Te _ _ _ (v_ hlt)];exact q
 show QG _ _ _ _ _ {s with heap:=((s.heap.push (QZ "list" #[] 0)).update s.heap.objs.size (Q0 (·++vs.toArray))).push (QZ "list" vs.toArray 0) };rw[hsz];generalize ((s.heap.push (QZ "list" #[] 0)).update s.heap.objs.size (Q0 (·++vs.toArray))).push (QZ "list" vs.toArray 0)=h1 at hoL keep ⊢;have ne:∀b o,s.heap.get? b=some o->b≠s.heap.objs.size+1:=fun b o e=>v_ (MR (QK e));refine Qx (Q2 (Rh UX ⟨_,hoL,rfl⟩ UI ?body (Wu _)))
 case body=>
  refine rB (s:={s with heap:=h1}) (kd:=kd) (rk:=rk) (S:=S) hoL hz hS (fun h' k {Q} hne q=>kind h' (fun b o e=>k b o (ne b o e) (keep b o e)) hne q) (fun h' k=>lt h' _ fun b o e=>k b o (ne b o e) (keep b o e)) fun o c h' g1 g2 g3 g4=>?_;exact⟨_,rfl,QC ⟨_,rfl,h o _ c h' g1 g2 (Nt _) (fun b u e=>g3 b u (ne b u e) (keep b u e)) g4⟩⟩
end
end ZS
namespace PL
open PySem L2
inductive T where
 |any|hole (w:V)|bare|kp (G:Hp)
 |non|bl (b:Bool)|int (i:Int)|str (x:Str)|ty (n:String)
 |tup (ts:List T)|cst (ts:List T)
 |lst (o:Bool) (ts:List T)
 |dK (o:Bool) (kvs:List (Key×T))
 |dT (o:Bool) (kvs:List (List Key×T))
mutual
def er:T->T
 | .tup ts=>.tup (erL ts)
 | .cst ts=>.cst (erL ts)
 | .lst _ ts=>.lst false (erL ts)
 | .dK _ kvs=>.dK false (erK kvs)
 | .dT _ kvs=>.dT false (erT kvs)
 | .bare=>.any
 |t=>t
def erL:List T->List T
 | []=>[]
 |t::r=>er t::erL r
def erK:List (Key×T)->List (Key×T)
 | []=>[]
 | (k,t)::r=>(k,er t)::erK r
def erT:List (List Key×T)->List (List Key×T)
 | []=>[]
 | (k,t)::r=>(k,er t)::erT r
end
mutual
def aW:T->Bool
 | .tup ts=>bF ts
 | .cst ts=>bF ts
 | .lst o ts=>!o&&bF ts
 | .dK o kvs=>!o&&ue kvs
 | .dT o kvs=>!o&&nh kvs
 | .bare=>false
 | _=>true
def bF:List T->Bool
 | []=>true
 |t::r=>aW t&&bF r
def ue:List (Key×T)->Bool
 | []=>true
 | (_,t)::r=>aW t&&ue r
def nh:List (List Key×T)->Bool
 | []=>true
 | (_,t)::r=>aW t&&nh r
end
mutual
def cg:T->Bool
 | .tup ts=>cT ts
 | .cst ts=>cT ts
 | .lst o ts=>o&&cT ts
 | .dK o kvs=>o&&qF kvs
 | .dT o kvs=>o&&oy kvs
 | .kp _=>false
 | _=>true
def cT:List T->Bool
 | []=>true
 |t::r=>cg t&&cT r
def qF:List (Key×T)->Bool
 | []=>true
 | (_,t)::r=>cg t&&qF r
def oy:List (List Key×T)->Bool
 | []=>true
 | (_,t)::r=>cg t&&oy r
end
theorem cy{α:Type}(g:α->T):∀l:List α,erL (l.map g)=l.map fun x=>er (g x)
 | []=>rfl
 |x::r=>by rw[g_,erL,cy g r,g_]
theorem pN:∀l:List T,erL l=l.map er
 | []=>rfl
 |x::r=>by rw[erL,pN r,g_]
theorem uM(l:List T):(erL l).length=l.length:=by rw[pN,a_]
theorem jc(l m:List T):erL (l++m)=erL l++erL m:=by rw[pN,pN,pN,p_]
theorem qO:∀l:List T,bF l=l.all aW
 | []=>rfl
 |x::r=>by rw[bF,qO r,OE]
theorem sL:∀l:List T,cT l=l.all cg
 | []=>rfl
 |x::r=>by rw[cT,sL r,OE]
mutual
theorem bu:∀t:T,aW (er t)=true
 | .tup ts=>by rw[er,aW,bP ts]
 | .cst ts=>by rw[er,aW,bP ts]
 | .lst _ ts=>by rw[er,aW,bP ts];rfl
 | .dK _ ts=>by rw[er,aW,rO ts];rfl
 | .dT _ ts=>by rw[er,aW,rM ts];rfl
 | .bare=>rfl
 | .any=>rfl
 | .hole _=>rfl
 | .kp _=>rfl
 | .non=>rfl
 | .bl _=>rfl
 | .int _=>rfl
 | .str _=>rfl
 | .ty _=>rfl
theorem bP:∀t:List T,bF (erL t)=true
 | []=>rfl
 |t::r=>by rw[erL,bF,bu t,bP r];rfl
theorem rO:∀t:List (Key×T),ue (erK t)=true
 | []=>rfl
 | (_,t)::r=>by rw[erK,ue,bu t,rO r];rfl
theorem rM:∀t:List (List Key×T),nh (erT t)=true
 | []=>rfl
 | (_,t)::r=>by rw[erT,nh,bu t,rM r];rfl
end
noncomputable def Gr(G H:Hp):Prop:=∀b u,Rd G b u->Rd H b u
variable {H:Hp}
theorem Gr.cc :Gr H H:=fun _ _ h=>h
variable {G:Hp}
theorem Gr.trans {J:Hp}(a:Gr G H)(b:Gr H J):Gr G J:=fun c u h=>b c u (a c u h)
theorem Gr.of (h:bI G H):Gr G H:=fun b u r=>by
 rcases r with r|⟨o,r⟩
 ·exact .inl (h _ _ r)
 exact .inr ⟨o,h _ _ r⟩
theorem Rd.some {H:Hp}{a:QA}{u:HO}(h:Rd H a u):∃w,H a=some w:=by
 rcases h with h|⟨o,h⟩
 ·exact⟨_,h⟩
 exact⟨_,h⟩
theorem Gr.none {G H:Hp}(h:Gr G H){a:QA}(e:H a=none):G a=none:=by
 cases q:G a with
 |none=>rfl
 |some u=>
  obtain⟨w,z⟩:=Rd.some (h a u (.inl q));rw[e]at z;cases z
noncomputable def TK(H H':Hp):Prop:=∀b xs,H b=some (.tup xs)->H' b=some (.tup xs)
theorem bI.tk (h:bI G H):TK G H:=fun b xs r=>h _ _ r
variable {H':Hp}{a:QA}
theorem Put.tk {o:HO}(p:Put H a o H')(ht:∀xs,H a≠some (.tup xs)):TK H H':=fun b xs r=>by have hb:b≠a:=fun z=>ht xs (z▸r);rw[p.else_ b hb];exact r
section
variable(K:Qz)(Hz H:Hp)
mutual
inductive RepT:T->V->List QA->Prop
 |any {v:V}:RepT .any v []
 |hole {w:V}:RepT (.hole w) w []
 |bare {a:QA}{u:HO} (h:H a=some u) (ht:∀xs,H a≠some (.tup xs)):RepT .bare (.ref a) [a]
 |kp {G:Hp}{v:V} (h:Gr G Hz):RepT (.kp G) v []
 |non:RepT .non .non []
 |bl {b:Bool}:RepT (.bl b) (.bl b) []
 |int {i:Int}:RepT (.int i) (.int i) []
 |str {x:Str}:RepT (.str x) (.str x) []
 |ty {n:String}:RepT (.ty n) (.ty n) []
 |tup {a:QA}{ts:List T}{vs:List V}{L:List QA} (h:H a=some (.tup vs)) (c:RepTs ts vs L):RepT (.tup ts) (.ref a) L
 |cst {a:QA}{ts:List T}{vs:List V} (h:SqT K (fun _=>none) a vs) (c:RepTs ts vs []):RepT (.cst ts) (.ref a) []
 |lstO {a:QA}{ts:List T}{vs:List V}{L:List QA} (h:H a=some (.lst vs)) (c:RepTs ts vs L):RepT (.lst true ts) (.ref a) (a::L)
 |lstZ {a:QA}{ts:List T}{vs:List V} (h:Rd Hz a (.lst vs)) (c:RepTs ts vs []):RepT (.lst false ts) (.ref a) []
 |dKO {a:QA}{ts:List (Key×T)}{vs:List (Key×V)}{L:List QA} (h:H a=some (.dK vs)) (c:RepKs ts vs L):RepT (.dK true ts) (.ref a) (a::L)
 |dKZ {a:QA}{ts:List (Key×T)}{vs:List (Key×V)} (h:Rd Hz a (.dK vs)) (c:RepKs ts vs []):RepT (.dK false ts) (.ref a) []
 |dTO {a:QA}{ts:List (List Key×T)}{vs:List (List Key×V)}{L:List QA} (h:H a=some (.dT vs)) (c:RepXs ts vs L):RepT (.dT true ts) (.ref a) (a::L)
 |dTZ {a:QA}{ts:List (List Key×T)}{vs:List (List Key×V)} (h:Rd Hz a (.dT vs)) (c:RepXs ts vs []):RepT (.dT false ts) (.ref a) []
inductive RepTs:List T->List V->List QA->Prop
 |nil:RepTs [] [] []
 |cons {t:T}{v:V}{L M N:List QA}{ts:List T}{vs:List V} (e:N=L++M) (h:RepT t v L) (c:RepTs ts vs M):RepTs (t::ts) (v::vs) N
inductive RepKs:List (Key×T)->List (Key×V)->List QA->Prop
 |nil:RepKs [] [] []
 |cons {k:Key}{t:T}{v:V}{L M N:List QA}{ts:List (Key×T)}{vs:List (Key×V)} (e:N=L++M) (h:RepT t v L) (c:RepKs ts vs M):RepKs ((k,t)::ts) ((k,v)::vs) N
inductive RepXs:List (List Key×T)->List (List Key×V)->List QA->Prop
 |nil:RepXs [] [] []
 |cons {k:List Key}{t:T}{v:V}{L M N:List QA}{ts:List (List Key×T)}{vs:List (List Key×V)} (e:N=L++M) (h:RepT t v L) (c:RepXs ts vs M):RepXs ((k,t)::ts) ((k,v)::vs) N
end
end
variable {Hz Hz' Z:Hp}{L M:List QA}{p:QA}{t:T}{ts:List T}{v:V}{vs xs:List V}{x:Option V}{α:Type}
section
variable{K:Qz}
theorem hU{P:T->V->List QA->Prop}{Ps:List T->List V->List QA->Prop}{Pk:List (Key×T)->List (Key×V)->List QA->Prop}{Px:List (List Key×T)->List (List Key×V)->List QA->Prop}
  (c1:∀{v},P .any v []) (c2:∀{w},P (.hole w) w []) (c3:∀{a u},H a=some u->(∀xs,H a≠some (.tup xs))->P .bare (.ref a) [a]) (c4:∀{G v},Gr G Hz->P (.kp G) v [])
  (c5:P .non .non []) (c6:∀{b},P (.bl b) (.bl b) []) (c7:∀{i},P (.int i) (.int i) []) (c8:∀{x},P (.str x) (.str x) []) (c9:∀{n},P (.ty n) (.ty n) [])
  (c10:∀{a ts vs L},H a=some (.tup vs)->Ps ts vs L->P (.tup ts) (.ref a) L) (c11:∀{a ts vs},SqT K (fun _=>none) a vs->Ps ts vs []->P (.cst ts) (.ref a) [])
  (c12:∀{a ts vs L},H a=some (.lst vs)->Ps ts vs L->P (.lst true ts) (.ref a) (a::L)) (c13:∀{a ts vs},Rd Hz a (.lst vs)->Ps ts vs []->P (.lst false ts) (.ref a) [])
  (c14:∀{a ts vs L},H a=some (.dK vs)->Pk ts vs L->P (.dK true ts) (.ref a) (a::L)) (c15:∀{a ts vs},Rd Hz a (.dK vs)->Pk ts vs []->P (.dK false ts) (.ref a) [])
  (c16:∀{a ts vs L},H a=some (.dT vs)->Px ts vs L->P (.dT true ts) (.ref a) (a::L)) (c17:∀{a ts vs},Rd Hz a (.dT vs)->Px ts vs []->P (.dT false ts) (.ref a) [])
  (s0:Ps [] [] []) (s1:∀{t v L M ts vs},P t v L->Ps ts vs M->Ps (t::ts) (v::vs) (L++M))
  (k0:Pk [] [] []) (k1:∀{k t v L M ts vs},P t v L->Pk ts vs M->Pk ((k,t)::ts) ((k,v)::vs) (L++M))
  (x0:Px [] [] []) (x1:∀{k t v L M ts vs},P t v L->Px ts vs M->Px ((k,t)::ts) ((k,v)::vs) (L++M)) :
  (∀{t v L},RepT K Hz H t v L->P t v L)/\(∀{t v L},RepTs K Hz H t v L->Ps t v L)/\(∀{t v L},RepKs K Hz H t v L->Pk t v L)/\(∀{t v L},RepXs K Hz H t v L->Px t v L):=by
 have m1:∀{t v L},RepT K Hz H t v L->P t v L:=fun h=>RepT.rec (motive_1:=fun t v L _=>P t v L) (motive_2:=fun t v L _=>Ps t v L) (motive_3:=fun t v L _=>Pk t v L) (motive_4:=fun t v L _=>Px t v L)
  c1 c2 c3 c4 c5 c6 c7 c8 c9 (fun h _ i=>c10 h i) (fun h _ i=>c11 h i) (fun h _ i=>c12 h i) (fun h _ i=>c13 h i) (fun h _ i=>c14 h i) (fun h _ i=>c15 h i) (fun h _ i=>c16 h i) (fun h _ i=>c17 h i)
  s0 (fun e _ _ i j=>e▸s1 i j) k0 (fun e _ _ i j=>e▸k1 i j) x0 (fun e _ _ i j=>e▸x1 i j) h
 refine⟨m1,fun h=>?_,fun h=>?_,fun h=>?_⟩
 ·exact RepTs.rec (motive_1:=fun t v L _=>True) (motive_2:=fun t v L _=>Ps t v L) (motive_3:=fun t v L _=>True) (motive_4:=fun t v L _=>True)
   trivial trivial (fun _ _=>trivial) (fun _=>trivial) trivial trivial trivial trivial trivial (fun _ _ _=>trivial) (fun _ _ _=>trivial) (fun _ _ _=>trivial) (fun _ _ _=>trivial) (fun _ _ _=>trivial) (fun _ _ _=>trivial) (fun _ _ _=>trivial) (fun _ _ _=>trivial)
   s0 (fun e h _ _ j=>e▸s1 (m1 h) j) trivial (fun _ _ _ _ _=>trivial) trivial (fun _ _ _ _ _=>trivial) h
 ·exact RepKs.rec (motive_1:=fun t v L _=>True) (motive_2:=fun t v L _=>True) (motive_3:=fun t v L _=>Pk t v L) (motive_4:=fun t v L _=>True)
   trivial trivial (fun _ _=>trivial) (fun _=>trivial) trivial trivial trivial trivial trivial (fun _ _ _=>trivial) (fun _ _ _=>trivial) (fun _ _ _=>trivial) (fun _ _ _=>trivial) (fun _ _ _=>trivial) (fun _ _ _=>trivial) (fun _ _ _=>trivial) (fun _ _ _=>trivial)
   trivial (fun _ _ _ _ _=>trivial) k0 (fun e h _ _ j=>e▸k1 (m1 h) j) trivial (fun _ _ _ _ _=>trivial) h
 exact RepXs.rec (motive_1:=fun t v L _=>True) (motive_2:=fun t v L _=>True) (motive_3:=fun t v L _=>True) (motive_4:=fun t v L _=>Px t v L)
  trivial trivial (fun _ _=>trivial) (fun _=>trivial) trivial trivial trivial trivial trivial (fun _ _ _=>trivial) (fun _ _ _=>trivial) (fun _ _ _=>trivial) (fun _ _ _=>trivial) (fun _ _ _=>trivial) (fun _ _ _=>trivial) (fun _ _ _=>trivial) (fun _ _ _=>trivial)
  trivial (fun _ _ _ _ _=>trivial) trivial (fun _ _ _ _ _=>trivial) x0 (fun e h _ _ j=>e▸x1 (m1 h) j) h
noncomputable def Kps(H H':Hp)(L:List QA):Prop:=∀a∈L,∀u,H a=some u->H' a=some u/\((∀xs,H a≠some (.tup xs))->∀xs,H' a≠some (.tup xs))
theorem Kps.hd (h:Kps H H' (a::L)){u:HO}(e:H a=some u):H' a=some u/\((∀xs,H a≠some (.tup xs))->∀xs,H' a≠some (.tup xs)):=h _ o_ _ e
theorem Kps.tl (h:Kps H H' (a::L)):Kps H H' L:=fun a m=>h a (k_ _ m)
theorem Kps.l (h:Kps H H' (L++M)):Kps H H' L:=fun a m=>h a (y_ _ m)
theorem Kps.r (h:Kps H H' (L++M)):Kps H H' M:=fun a m=>h a (n_ _ m)
theorem DB(ht:TK H H')(hz:Gr Hz Hz'):(∀{t v L},RepT K Hz H t v L->Kps H H' L->RepT K Hz' H' t v L)/\(∀{t v L},RepTs K Hz H t v L->Kps H H' L->RepTs K Hz' H' t v L)/\(∀{t v L},RepKs K Hz H t v L->Kps H H' L->RepKs K Hz' H' t v L)/\(∀{t v L},RepXs K Hz H t v L->Kps H H' L->RepXs K Hz' H' t v L):=
 hU (P:=fun t v L=>Kps H H' L->RepT K Hz' H' t v L) (Ps:=fun t v L=>Kps H H' L->RepTs K Hz' H' t v L) (Pk:=fun t v L=>Kps H H' L->RepKs K Hz' H' t v L) (Px:=fun t v L=>Kps H H' L->RepXs K Hz' H' t v L)
  (fun _=>.any) (fun _=>.hole) (fun h t o=>.bare (o.hd h).1 ((o.hd h).2 t)) (fun h _=>.kp (h.trans hz)) (fun _=>.non) (fun _=>.bl) (fun _=>.int) (fun _=>.str) (fun _=>.ty)
  (fun h c o=>.tup (ht _ _ h) (c o)) (fun h c o=>.cst h (c o)) (fun h c o=>.lstO (o.hd h).1 (c o.tl)) (fun h c o=>.lstZ (hz _ _ h) (c o)) (fun h c o=>.dKO (o.hd h).1 (c o.tl)) (fun h c o=>.dKZ (hz _ _ h) (c o)) (fun h c o=>.dTO (o.hd h).1 (c o.tl)) (fun h c o=>.dTZ (hz _ _ h) (c o))
  (fun _=>.nil) (fun i j o=>.cons rfl (i o.l) (j o.r)) (fun _=>.nil) (fun i j o=>.cons rfl (i o.l) (j o.r)) (fun _=>.nil) (fun i j o=>.cons rfl (i o.l) (j o.r))
theorem RepT.move (ht:TK H H')(hz:Gr Hz Hz')(o:Kps H H' L)(h:RepT K Hz H t v L):RepT K Hz' H' t v L:=(DB ht hz).1 h o
noncomputable def Thr(H:Hp)(L:List QA):Prop:=∀a∈L,(∃u,H a=some u)/\∀xs,H a≠some (.tup xs)
theorem Thr.nil :Thr H []:=fun a m=>nomatch m
theorem Thr.cons {H:Hp}{a:QA}{u:HO}{L:List QA}(h:H a=some u)(t:∀xs,H a≠some (.tup xs))(c:Thr H L):Thr H (a::L):=fun b m=>by
 rcases m_.mp m with rfl|m
 ·exact⟨⟨_,h⟩,t⟩
 exact c b m
theorem Thr.app (c:Thr H L)(d:Thr H M):Thr H (L++M):=fun b m=>(x_.mp m).elim (c b) (d b)
theorem Ae:(∀{t v L},RepT K Hz H t v L->Thr H L)/\(∀{t v L},RepTs K Hz H t v L->Thr H L)/\(∀{t v L},RepKs K Hz H t v L->Thr H L)/\(∀{t v L},RepXs K Hz H t v L->Thr H L):=
 hU (P:=fun t v L=>Thr H L) (Ps:=fun t v L=>Thr H L) (Pk:=fun t v L=>Thr H L) (Px:=fun t v L=>Thr H L)
  .nil .nil (fun h t=>.cons h t .nil) (fun _=>.nil) .nil .nil .nil .nil .nil (fun _ c=>c) (fun _ c=>c) (fun h c=>.cons h (fun xs r=>by rw[h]at r;cases r) c) (fun _ c=>c) (fun h c=>.cons h (fun xs r=>by rw[h]at r;cases r) c) (fun _ c=>c) (fun h c=>.cons h (fun xs r=>by rw[h]at r;cases r) c) (fun _ c=>c)
  .nil (fun c d=>c.app d) .nil (fun c d=>c.app d) .nil (fun c d=>c.app d)
theorem RepT.there (h:RepT K Hz H t v L):Thr H L:=Ae.1 h
noncomputable def Fzn(H Z:Hp)(L:List QA):Prop:=∀a∈L,Z a=H a
theorem Fzn.hd (h:Fzn H Z (a::L)){u:HO}(e:H a=some u):Rd Z a u:=.inl (by rw[h _ o_];exact e)
theorem Fzn.tl (h:Fzn H Z (a::L)):Fzn H Z L:=fun a m=>h a (k_ _ m)
theorem Fzn.l (h:Fzn H Z (L++M)):Fzn H Z L:=fun a m=>h a (y_ _ m)
theorem Fzn.r (h:Fzn H Z (L++M)):Fzn H Z M:=fun a m=>h a (n_ _ m)
theorem Es(hz:Gr Hz Z):(∀{t v L},RepT K Hz H t v L->Fzn H Z L->RepT K Z H (er t) v [])/\(∀{t v L},RepTs K Hz H t v L->Fzn H Z L->RepTs K Z H (erL t) v [])/\(∀{t v L},RepKs K Hz H t v L->Fzn H Z L->RepKs K Z H (erK t) v [])/\(∀{t v L},RepXs K Hz H t v L->Fzn H Z L->RepXs K Z H (erT t) v []):=
 hU (P:=fun t v L=>Fzn H Z L->RepT K Z H (er t) v []) (Ps:=fun t v L=>Fzn H Z L->RepTs K Z H (erL t) v []) (Pk:=fun t v L=>Fzn H Z L->RepKs K Z H (erK t) v []) (Px:=fun t v L=>Fzn H Z L->RepXs K Z H (erT t) v [])
  (fun _=>.any) (fun _=>.hole) (fun _ _ _=>.any) (fun h _=>.kp (h.trans hz)) (fun _=>.non) (fun _=>.bl) (fun _=>.int) (fun _=>.str) (fun _=>.ty)
  (fun h c o=>.tup h (c o)) (fun h c o=>.cst h (c o)) (fun h c o=>.lstZ (o.hd h) (c o.tl)) (fun h c o=>.lstZ (hz _ _ h) (c o)) (fun h c o=>.dKZ (o.hd h) (c o.tl)) (fun h c o=>.dKZ (hz _ _ h) (c o)) (fun h c o=>.dTZ (o.hd h) (c o.tl)) (fun h c o=>.dTZ (hz _ _ h) (c o))
  (fun _=>.nil) (fun i j o=>.cons rfl (i o.l) (j o.r)) (fun _=>.nil) (fun i j o=>.cons rfl (i o.l) (j o.r)) (fun _=>.nil) (fun i j o=>.cons rfl (i o.l) (j o.r))
theorem RepT.frz (hz:Gr Hz Z)(o:Fzn H Z L)(h:RepT K Hz H t v L):RepT K Z H (er t) v []:=(Es hz).1 h o
theorem Ex:(∀{t v L},RepT K Hz H t v L->aW t=true->L=[])/\(∀{t v L},RepTs K Hz H t v L->bF t=true->L=[])/\(∀{t v L},RepKs K Hz H t v L->True)/\(∀{t v L},RepXs K Hz H t v L->True):=
 hU (P:=fun t v L=>aW t=true->L=[]) (Ps:=fun t v L=>bF t=true->L=[]) (Pk:=fun t v L=>True) (Px:=fun t v L=>True)
  (fun _=>rfl) (fun _=>rfl) (fun _ _ n=>nomatch n) (fun _ _=>rfl) (fun _=>rfl) (fun _=>rfl) (fun _=>rfl) (fun _=>rfl) (fun _=>rfl)
  (fun _ c n=>c (by rw[aW]at n;exact n)) (fun _ _ _=>rfl) (fun _ _ n=>nomatch n) (fun _ _ _=>rfl) (fun _ _ n=>nomatch n) (fun _ _ _=>rfl) (fun _ _ n=>nomatch n) (fun _ _ _=>rfl)
  (fun _=>rfl) (fun i j n=>by
   rw[bF,LW]at n;rw[i n.1,j n.2]
   rfl) trivial (fun _ _=>trivial) trivial (fun _ _=>trivial)
theorem RepT.nil_of (n:aW t=true)(h:RepT K Hz H t v L):L=[]:=Ex.1 h n
theorem C1(ht:TK H H'):(∀{t v L},RepT K Hz H t v L->cg t=true->Kps H H' L->RepT K Z H' t v L)/\(∀{t v L},RepTs K Hz H t v L->cT t=true->Kps H H' L->RepTs K Z H' t v L)/\(∀{t v L},RepKs K Hz H t v L->qF t=true->Kps H H' L->RepKs K Z H' t v L)/\(∀{t v L},RepXs K Hz H t v L->oy t=true->Kps H H' L->RepXs K Z H' t v L):=
 hU (P:=fun t v L=>cg t=true->Kps H H' L->RepT K Z H' t v L) (Ps:=fun t v L=>cT t=true->Kps H H' L->RepTs K Z H' t v L) (Pk:=fun t v L=>qF t=true->Kps H H' L->RepKs K Z H' t v L) (Px:=fun t v L=>oy t=true->Kps H H' L->RepXs K Z H' t v L)
  (fun _ _=>.any) (fun _ _=>.hole) (fun h t _ o=>.bare (o.hd h).1 ((o.hd h).2 t)) (fun _ n=>nomatch n) (fun _ _=>.non) (fun _ _=>.bl) (fun _ _=>.int) (fun _ _=>.str) (fun _ _=>.ty)
  (fun h c n o=>.tup (ht _ _ h) (c (by rw[cg]at n;exact n) o)) (fun h c n o=>.cst h (c (by rw[cg]at n;exact n) o)) (fun h c n o=>.lstO (o.hd h).1 (c (by rw[cg,Nm]at n;exact n) o.tl)) (fun _ _ n=>nomatch n) (fun h c n o=>.dKO (o.hd h).1 (c (by rw[cg,Nm]at n;exact n) o.tl)) (fun _ _ n=>nomatch n) (fun h c n o=>.dTO (o.hd h).1 (c (by rw[cg,Nm]at n;exact n) o.tl)) (fun _ _ n=>nomatch n)
  (fun _ _=>.nil) (fun i j n o=>.cons rfl (i (by rw[cT,LW]at n;exact n.1) o.l) (j (by rw[cT,LW]at n;exact n.2) o.r)) (fun _ _=>.nil) (fun i j n o=>.cons rfl (i (by rw[qF,LW]at n;exact n.1) o.l) (j (by rw[qF,LW]at n;exact n.2) o.r)) (fun _ _=>.nil) (fun i j n o=>.cons rfl (i (by rw[oy,LW]at n;exact n.1) o.l) (j (by rw[oy,LW]at n;exact n.2) o.r))
theorem RepT.LD (ht:TK H H')(n:cg t=true)(o:Kps H H' L)(h:RepT K Hz H t v L):RepT K Z H' t v L:=(C1 ht).1 h n o
abbrev Ev:=List T
abbrev Fm:=List (T×Option V)
noncomputable def qT(K:Qz)(Hz H:Hp)(t:T)(x:Option V)(L:List QA):Prop:=(t=.any/\L=[])\/∃v,x=some v/\RepT K Hz H t v L
inductive RepL (K:Qz) (Hz H:Hp):Fm->List QA->Prop
 |nil:RepL K Hz H [] []
 |cons {t:T}{x:Option V}{L M N:List QA}{r:Fm} (e:N=L++M) (h:qT K Hz H t x L) (c:RepL K Hz H r M):RepL K Hz H ((t,x)::r) N
noncomputable def Rp(K:Qz)(H:Hp)(Γ:Fm):Prop:=∃Hz L,RepL K Hz H Γ L/\L.Nodup/\Gr Hz H/\∀b∈L,Hz b=none
theorem qT.move (ht:TK H H')(hz:Gr Hz Hz')(ho:∀a∈L,∀u,H a=some u->H' a=some u/\((∀xs,H a≠some (.tup xs))->∀xs,H' a≠some (.tup xs)))(h:qT K Hz H t x L):qT K Hz' H' t x L:=by
 rcases h with⟨rfl,rfl⟩|⟨v,rfl,h⟩
 ·exact .inl ⟨rfl,rfl⟩
 exact .inr ⟨v,rfl,h.move ht hz ho⟩
theorem qT.there (h:qT K Hz H t x L):∀a∈L,(∃u,H a=some u)/\∀xs,H a≠some (.tup xs):=by
 rcases h with⟨rfl,rfl⟩|⟨v,rfl,h⟩
 ·intro a m;cases m
 exact h.there
theorem RepL.move (ht:TK H H')(hz:Gr Hz Hz'):∀{Γ:Fm}{L:List QA},(∀a∈L,∀u,H a=some u->H' a=some u/\((∀xs,H a≠some (.tup xs))->∀xs,H' a≠some (.tup xs)))->RepL K Hz H Γ L->RepL K Hz' H' Γ L:=by
 intro Γ L ho x;induction x with
 |nil=>exact .nil
 |cons e h c ih=>exact .cons e (h.move ht hz fun a m=>ho a (by rw[e];exact y_ _ m)) (ih fun a m=>ho a (by rw[e];exact n_ _ m))
theorem RepL.there :∀{Γ:Fm}{L:List QA},RepL K Hz H Γ L->∀a∈L,(∃u,H a=some u)/\∀xs,H a≠some (.tup xs):=by
 intro Γ L x;induction x with
 |nil=>intro a m;cases m
 |cons e h c ih=>
  intro a m;rw[e]at m;rcases x_.mp m with m|m
  ·exact h.there a m
  exact ih a m
theorem RepL.app :∀{Γ Δ:Fm}{L M:List QA},RepL K Hz H Γ L->RepL K Hz H Δ M->RepL K Hz H (Γ++Δ) (L++M):=by
 intro Γ Δ L M x d;induction x with
 |nil=>exact d
 |cons e h c ih=>exact .cons (by rw[e,l_]) h ih
theorem RepL.split :∀{Γ Δ:Fm}{N:List QA},RepL K Hz H (Γ++Δ) N->∃L M,N=L++M/\RepL K Hz H Γ L/\RepL K Hz H Δ M
 | [],_,N,h=>⟨[],N,rfl,.nil,h⟩
 | (t,x)::r,_,N,.cons e h c=>by obtain⟨L,M,rfl,h1,h2⟩:=c.split;exact⟨_,M,by rw[e,l_],.cons rfl h h1,h2⟩
theorem RepL.perm {Γ Δ:Fm}(p:Γ.Perm Δ):∀{L:List QA},RepL K Hz H Γ L->∃M,L.Perm M/\RepL K Hz H Δ M:=by
 induction p with
 |nil=>intro L h;exact⟨L,.refl _,h⟩
 |cons x q ih=>
  intro L h;cases h with
  |cons e h c=>
   obtain⟨M,p1,h1⟩:=ih c;exact⟨_,by rw[e];exact p1.append_left _,.cons rfl h h1⟩
 |swap x y l=>
  intro L h;cases h with
  |cons e h c=>
   cases c with
   |cons e' h' c'=>
    refine⟨_,?_,.cons rfl h' (.cons rfl h c')⟩;rw[e,e',<-l_,<-l_];exact Mz.append_right _
 |trans p q ih1 ih2=>
  intro L h;obtain⟨M,p1,h1⟩:=ih1 h;obtain⟨N,p2,h2⟩:=ih2 h1;exact⟨N,p1.trans p2,h2⟩
theorem Rp.perm {Γ Δ:Fm}(h:Rp K H Γ)(p:Γ.Perm Δ):Rp K H Δ:=by obtain⟨Hz,L,h,nd,g,d⟩:=h;obtain⟨M,q,h'⟩:=h.perm p;exact⟨Hz,M,h',q.nodup_iff.mp nd,g,fun b m=>d b (q.mem_iff.mpr m)⟩
theorem Rp.part {Γ Δ:Fm}(h:Rp K H (Γ++Δ)):Rp K H Δ:=by obtain⟨Hz,L,h,nd,g,d⟩:=h;obtain⟨L1,L2,rfl,_,h2⟩:=h.split;exact⟨Hz,L2,h2,(MT.mp nd).2.1,g,fun b m=>d b (n_ _ m)⟩
theorem Rp.tail {x:T×Option V}{Γ:Fm}(h:Rp K H (x::Γ)):Rp K H Γ:=Rp.part (Γ:=[x]) h
theorem jk(s:bI H H')(a:QA)(u:HO)(e:H a=some u):H' a=some u/\((∀xs,H a≠some (.tup xs))->∀xs,H' a≠some (.tup xs)):=
 ⟨s _ _ e,fun n xs r=>n xs (by rw[s _ _ e]at r;exact e.trans r)⟩
theorem Rp.same {Γ:Fm}(h:Rp K H Γ)(s:bI H H'):Rp K H' Γ:=by obtain⟨Hz,L,h,nd,g,d⟩:=h;exact⟨Hz,L,h.move (bI.tk s) .cc (fun a m u e=>jk s a u e),nd,g.trans (.of s),d⟩
theorem vY{o:HO}(s:Put H p o H')(a:QA)(n:a≠p)(u:HO)(e:H a=some u):H' a=some u/\((∀xs,H a≠some (.tup xs))->∀xs,H' a≠some (.tup xs)):=
 ⟨by rw[s.else_ a n];exact e,fun m xs r=>m xs (by rw[s.else_ a n]at r;exact r)⟩
theorem RepTs.len :∀{ts:List T}{vs:List V}{L:List QA},RepTs K Hz H ts vs L->ts.length=vs.length:=fun{ts}=>by
 induction ts with
 |nil=>intro vs L h;cases h;rfl
 |cons t ts ih=>
  intro vs L h;cases h with
  |cons _ _ c=>rw[h_,h_,ih c]
abbrev zz(ts:List T)(vs:List V):Fm:=ts.zip (vs.map some)
theorem RepTs.toL :∀{ts:List T}{vs:List V}{L:List QA},RepTs K Hz H ts vs L->RepL K Hz H (zz ts vs) L:=fun{ts}=>by
 induction ts with
 |nil=>intro vs L h;cases h;exact .nil
 |cons t ts ih=>
  intro vs L h;cases h with
  |cons e h c=>exact .cons e (.inr ⟨_,rfl,h⟩) (ih c)
theorem RepL.B2 :∀{ts:List T}{vs:List V}{L:List QA},ts.length=vs.length->RepL K Hz H (zz ts vs) L->RepTs K Hz H ts vs L
 | [],[],_,_,.nil=>.nil
 | [],v::vs,_,l,_=>by simp at l
 |t::ts,[],_,l,_=>by simp at l
 |t::ts,v::vs,L,l,h=>by
  have h:RepL K Hz H ((t,some v)::zz ts vs) L:=h;cases h with
  |cons e h c=>
   refine .cons e ?_ (c.B2 (by simpa using l));rcases h with⟨rfl,rfl⟩|⟨w,e2,h⟩
   ·exact .any
   cases e2;exact h
theorem RepKs.toL :∀{ts:List (Key×T)}{vs:List (Key×V)}{L:List QA},RepKs K Hz H ts vs L->ts.map (·.1)=vs.map (·.1)/\RepTs K Hz H (ts.map (·.2)) (vs.map (·.2)) L:=fun{ts}=>by
 induction ts with
 |nil=>intro vs L h;cases h;exact⟨rfl,.nil⟩
 |cons t ts ih=>
  intro vs L h;cases h with
  |cons e h c=>exact⟨by rw[g_,g_,(ih c).1],.cons e h (ih c).2⟩
theorem RepKs.ofL :∀{ts:List (Key×T)}{vs:List (Key×V)}{L:List QA},ts.map (·.1)=vs.map (·.1)->RepTs K Hz H (ts.map (·.2)) (vs.map (·.2)) L->RepKs K Hz H ts vs L:=fun{ts}=>by
 induction ts with
 |nil=>
  intro vs L e h;cases vs with
  |nil=>cases h;exact .nil
  |cons v vs=>cases e
 |cons t ts ih=>
  intro vs L e h;cases vs with
  |nil=>cases e
  |cons v vs=>
   obtain⟨k,t⟩:=t;obtain⟨k',v⟩:=v;cases h with
   |cons e2 h c=>
    rw[g_,g_,MO]at e;have e0:k=k':=e.1;subst e0;exact .cons e2 h (ih e.2 c)
theorem RepXs.toL :∀{ts:List (List Key×T)}{vs:List (List Key×V)}{L:List QA},RepXs K Hz H ts vs L->ts.map (·.1)=vs.map (·.1)/\RepTs K Hz H (ts.map (·.2)) (vs.map (·.2)) L:=fun{ts}=>by
 induction ts with
 |nil=>intro vs L h;cases h;exact⟨rfl,.nil⟩
 |cons t ts ih=>
  intro vs L h;cases h with
  |cons e h c=>exact⟨by rw[g_,g_,(ih c).1],.cons e h (ih c).2⟩
theorem RepXs.ofL :∀{ts:List (List Key×T)}{vs:List (List Key×V)}{L:List QA},ts.map (·.1)=vs.map (·.1)->RepTs K Hz H (ts.map (·.2)) (vs.map (·.2)) L->RepXs K Hz H ts vs L:=fun{ts}=>by
 induction ts with
 |nil=>
  intro vs L e h;cases vs with
  |nil=>cases h;exact .nil
  |cons v vs=>cases e
 |cons t ts ih=>
  intro vs L e h;cases vs with
  |nil=>cases e
  |cons v vs=>
   obtain⟨k,t⟩:=t;obtain⟨k',v⟩:=v;cases h with
   |cons e2 h c=>
    rw[g_,g_,MO]at e;have e0:k=k':=e.1;subst e0;exact .cons e2 h (ih e.2 c)
theorem BJ{o:HO}{Γ Δ:Fm}(h:Rp K H (Γ++Δ))(hp:H p=none)(s:bI H H')(hn:H' p=some o)
  (mk:∀Hz L,RepL K Hz H' Γ L->RepT K Hz H' t (.ref p) (p::L)):Rp K H' ((t,some (.ref p))::Δ):=by
 obtain⟨Hz,N,h,nd,g,d⟩:=h;obtain⟨L,M,rfl,h1,h2⟩:=h.split;have mv:∀a∈L++M,∀u,H a=some u->H' a=some u/\((∀xs,H a≠some (.tup xs))->∀xs,H' a≠some (.tup xs)):=fun a _ u e=>jk s a u e;have h1':=h1.move (bI.tk s) .cc fun a m=>mv a (y_ _ m);have h2':=h2.move (bI.tk s) .cc fun a m=>mv a (n_ _ m);refine⟨Hz,(p::L)++M,.cons rfl (.inr ⟨_,rfl,mk Hz L h1'⟩) h2',?_,g.trans (.of s),?_⟩
 ·rw[Mj,G_];refine⟨fun m=>?_,nd⟩;obtain⟨⟨u,e⟩,_⟩:=h.there p m;rw[hp]at e;cases e
 intro b m;rcases m_.mp m with rfl|m
 ·exact g.none hp
 exact d b m
theorem fP{Δ:Fm}(h:Rp K H (zz ts vs++Δ))(l:ts.length=vs.length)(hp:H p=none)(s:bI H H')(hn:H' p=some (.lst vs)):Rp K H' ((.lst true ts,some (.ref p))::Δ):=
 BJ h hp s hn fun _ _ q=>.lstO hn (q.B2 l)
theorem eE{Δ:Fm}(h:Rp K H (zz ts vs++Δ))(l:ts.length=vs.length)(s:bI H H')(hn:H' p=some (.tup vs)):Rp K H' ((.tup ts,some (.ref p))::Δ):=by obtain⟨Hz,N,h,nd,g,d⟩:=h.same s;obtain⟨L,M,rfl,h1,h2⟩:=h.split;exact⟨Hz,L++M,.cons rfl (.inr ⟨_,rfl,.tup hn (h1.B2 l)⟩) h2,nd,g,d⟩
theorem fM{Γ:Fm}(h:Rp K H ((.lst true ts,x)::Γ)):∃a vs,x=some (.ref a)/\H a=some (.lst vs)/\ts.length=vs.length/\Rp K H ((.bare,some (.ref a))::(zz ts vs++Γ)):=by
 obtain⟨Hz,N,h,nd,g,d⟩:=h;cases h with
 |cons e h c=>
  rcases h with⟨h,_⟩|⟨v,rfl,h⟩
  ·cases h
  cases h with
  |lstO h1 c1=>
   refine⟨_,_,rfl,h1,c1.len,Hz,N,.cons (L:=[_]) (M:=_++_) (by rw[e];rfl) (.inr ⟨_,rfl,.bare h1 fun xs r=>?_⟩) (c1.toL.app c),nd,g,d⟩;rw[h1]at r;cases r
theorem uD{o:HO}{Γ Δ:Fm}(h:Rp K H ((.bare,some (.ref a))::(Γ++Δ)))(p:Put H a o H')
  (mk:∀Hz L,RepL K Hz H' Γ L->RepT K Hz H' t (.ref a) (a::L)):Rp K H' ((t,some (.ref a))::Δ):=by
 obtain⟨Hz,N,h,nd,g,d⟩:=h;cases h with
 |cons e h c=>
  rcases h with⟨h,_⟩|⟨v,ev,h⟩
  ·cases h
  cases ev;cases h with
  |bare h1 nt=>
   obtain⟨L,M,e2,h2,h3⟩:=c.split;subst e;subst e2;rw[O',G_]at nd;have tk:TK H H':=Put.tk p nt;have ne:∀b∈L++M,b≠a:=fun b m z=>nd.1 (z▸m);have g':Gr Hz H':=fun b u r=>by
    have hb:b≠a:=fun z=>by obtain⟨w,q⟩:=Rd.some r;rw[z,d a (by rw[O'];exact o_)]at q;cases q
    rcases g b u r with r|⟨o,r⟩
    ·exact .inl (by rw[p.else_ b hb];exact r)
    exact .inr ⟨o,by rw[p.else_ b hb];exact r⟩
   refine⟨Hz,(a::L)++M,.cons rfl (.inr ⟨_,rfl,mk Hz L ?_⟩) ?_,?_,g',?_⟩
   ·exact h2.move tk .cc fun b m=>vY p b (ne b (y_ _ m))
   ·exact h3.move tk .cc fun b m=>vY p b (ne b (n_ _ m))
   ·rw[Mj,G_];exact nd
   exact d
theorem eQ{Γ:Fm}(h:Rp K H ((.bare,some (.ref a))::(zz ts vs++Γ)))(l:ts.length=vs.length)(p:Put H a (.lst vs) H'):Rp K H' ((.lst true ts,some (.ref a))::Γ):=
 uD h p fun _ _ q=>.lstO p.at_ (q.B2 l)
theorem pC{ts:List (Key×T)}{Γ:Fm}(h:Rp K H ((.dK true ts,x)::Γ)):∃a vs,x=some (.ref a)/\H a=some (.dK vs)/\ts.map (·.1)=vs.map (·.1)/\Rp K H ((.bare,some (.ref a))::(zz (ts.map (·.2)) (vs.map (·.2))++Γ)):=by
 obtain⟨Hz,N,h,nd,g,d⟩:=h;cases h with
 |cons e h c=>
  rcases h with⟨h,_⟩|⟨v,rfl,h⟩
  ·cases h
  cases h with
  |dKO h1 c1=>
   obtain⟨e1,c2⟩:=c1.toL;refine⟨_,_,rfl,h1,e1,Hz,N,.cons (L:=[_]) (M:=_++_) (by rw[e];rfl) (.inr ⟨_,rfl,.bare h1 fun xs r=>?_⟩) (c2.toL.app c),nd,g,d⟩;rw[h1]at r;cases r
theorem Bi{ts:List (List Key×T)}{Γ:Fm}(h:Rp K H ((.dT true ts,x)::Γ)):∃a vs,x=some (.ref a)/\H a=some (.dT vs)/\ts.map (·.1)=vs.map (·.1)/\Rp K H ((.bare,some (.ref a))::(zz (ts.map (·.2)) (vs.map (·.2))++Γ)):=by
 obtain⟨Hz,N,h,nd,g,d⟩:=h;cases h with
 |cons e h c=>
  rcases h with⟨h,_⟩|⟨v,rfl,h⟩
  ·cases h
  cases h with
  |dTO h1 c1=>
   obtain⟨e1,c2⟩:=c1.toL;refine⟨_,_,rfl,h1,e1,Hz,N,.cons (L:=[_]) (M:=_++_) (by rw[e];rfl) (.inr ⟨_,rfl,.bare h1 fun xs r=>?_⟩) (c2.toL.app c),nd,g,d⟩;rw[h1]at r;cases r
theorem bY{κ β:Type}{ts:List (κ×α)}{vs:List (κ×β)}(e:ts.map (·.1)=vs.map (·.1)):ts.length=vs.length:=by have:=congrArg Ox e;rwa[a_,a_]at this
theorem sW{ts:List (Key×T)}{vs:List (Key×V)}{Γ:Fm}(h:Rp K H ((.bare,some (.ref a))::(zz (ts.map (·.2)) (vs.map (·.2))++Γ)))(l:ts.map (·.1)=vs.map (·.1))(p:Put H a (.dK vs) H'):Rp K H' ((.dK true ts,some (.ref a))::Γ):=
 uD h p fun _ _ q=>.dKO p.at_ (RepKs.ofL l (q.B2 (by rw[a_,a_];exact bY l)))
theorem Ak{ts:List (List Key×T)}{vs:List (List Key×V)}{Γ:Fm}(h:Rp K H ((.bare,some (.ref a))::(zz (ts.map (·.2)) (vs.map (·.2))++Γ)))(l:ts.map (·.1)=vs.map (·.1))(p:Put H a (.dT vs) H'):Rp K H' ((.dT true ts,some (.ref a))::Γ):=
 uD h p fun _ _ q=>.dTO p.at_ (RepXs.ofL l (q.B2 (by rw[a_,a_];exact bY l)))
theorem EE{Δ:Fm}(h:Rp K H Δ)(hp:H p=none)(s:bI H H')(hn:H' p=some (.dT [])):Rp K H' ((.dT true [],some (.ref p))::Δ):=
 BJ (Γ:=[]) h hp s hn fun _ _ q=>by cases q;exact .dTO hn .nil
theorem pL{Γ:Fm}(h:Rp K H ((t,x)::Γ)):Rp K H ((er t,x)::Γ):=by
 obtain⟨Hz,N,h,nd,g,d⟩:=h;cases h with
 | @cons _ _ L M _ _ e h c=>
  rcases h with⟨rfl,rfl⟩|⟨v,rfl,h⟩
  ·exact⟨Hz,N,.cons e (.inl ⟨rfl,rfl⟩) c,nd,g,d⟩
  subst e;have dz:∀b∈L,Hz b=none:=fun b m=>d b (y_ _ m)
  let Z:Hp:=fun b=>if b∈L then H b else Hz b
  have hz:Gr Hz Z:=fun b u r=>by
   have nb:b ∉ L:=fun m=>by obtain⟨w,q⟩:=Rd.some r;rw[dz b m]at q;cases q
   rcases r with r|⟨o,r⟩
   ·exact .inl (by show(if b∈L then H b else Hz b)=_;rw[if_neg nb];exact r)
   exact .inr ⟨o,by show(if b∈L then H b else Hz b)=_;rw[if_neg nb];exact r⟩
  have zh:Gr Z H:=fun b u r=>by
   by_cases nb:b∈L
   ·rcases r with r|⟨o,r⟩
    ·exact .inl (by have r:(if b∈L then H b else Hz b)=_:=r;rw[if_pos nb]at r;exact r)
    exact .inr ⟨o,by have r:(if b∈L then H b else Hz b)=_:=r;rw[if_pos nb]at r;exact r⟩
   refine g b u ?_;rcases r with r|⟨o,r⟩
   ·exact .inl (by have r:(if b∈L then H b else Hz b)=_:=r;rw[if_neg nb]at r;exact r)
   exact .inr ⟨o,by have r:(if b∈L then H b else Hz b)=_:=r;rw[if_neg nb]at r;exact r⟩
  have nd2:=MT.mp nd;refine⟨Z,[]++M,.cons rfl (.inr ⟨v,rfl,h.frz hz fun b m=>?_⟩) (c.move (fun _ _ r=>r) hz fun b m u e=>⟨e,fun n=>n⟩),nd2.2.1,zh,fun b m=>?_⟩
  ·show(if b∈L then H b else Hz b)=_;rw[if_pos m]
  show(if b∈L then H b else Hz b)=_;rw[if_neg (fun z=>nd2.2.2 b z b m rfl)];exact d b (n_ _ m)
theorem kq{Γ:Fm}(h:Rp K H ((t,x)::Γ))(n:aW t=true):Rp K H ((t,x)::(t,x)::Γ):=by
 obtain⟨Hz,N,h,nd,g,d⟩:=h;cases h with
 | @cons _ _ L M _ _ e h c=>
  have hL:L=[]:=by
   rcases h with⟨_,rfl⟩|⟨v,_,h⟩
   ·rfl
   exact h.nil_of n
  subst hL;exact⟨Hz,N,.cons (L:=[]) (M:=N) rfl h (.cons e h c),nd,g,d⟩
theorem qT.view (g:Gr Hz H)(h:qT K Hz H t x L):qT K H H (er t) x []:=by
 rcases h with⟨rfl,rfl⟩|⟨v,rfl,h⟩
 ·exact .inl ⟨rfl,rfl⟩
 exact .inr ⟨v,rfl,h.frz g fun _ _=>rfl⟩
theorem RepL.view (g:Gr Hz H):∀{Γ:Fm}{L:List QA},RepL K Hz H Γ L->RepL K H H (Γ.map fun p=>(er p.1,p.2)) []:=by
 intro Γ L x;induction x with
 |nil=>exact .nil
 |cons e h c ih=>exact .cons rfl (h.view g) ih
theorem uO{Γ:Fm}(h:Rp K H Γ):Rp K H ((Γ.map fun p=>(er p.1,p.2))++[(.kp H,some .non)]):=by obtain⟨Hz,N,h,nd,g,d⟩:=h;refine⟨H,[]++[],(h.view g).app (.cons rfl (.inr ⟨_,rfl,.kp .cc⟩) .nil),MY,.cc,fun b m=>by cases m⟩
noncomputable def over(H H':Hp):Hp:=fun b=>match H b with
 |some u=>some u
 |none=>H' b
theorem eN{b:QA}{u:HO}(e:H b=some u):over H H' b=some u:=by unfold over;rw[e]
theorem lV{b:QA}(e:H b=none):over H H' b=H' b:=by unfold over;rw[e]
theorem AZ(H H':Hp):bI H (over H H'):=fun b u e=>eN e
theorem tQ(g:Gr H H'){b:QA}:over H H' b=H' b\/∃o u,H' b=some (.frz o u)/\over H H' b=some u:=by
 cases q:H b with
 |none=>exact .inl (lV q)
 |some u=>
  rw[eN q];rcases g b u (.inl q)with r|⟨o,r⟩
  ·exact .inl r.symm
  exact .inr ⟨o,u,r,rfl⟩
theorem vz(g:Gr H H'){b:QA}(r:H' b=some (.tup xs)):over H H' b=some (.tup xs):=by
 rcases tQ g (b:=b)with e|⟨o,u,e,_⟩
 ·rw[e];exact r
 rw[r]at e;cases e
theorem uB{Γ Δ:Fm}(h:Rp K H Γ)(q:Rp K H' ((t,x)::(Δ++[(.kp H,some .non)])))(n:cg t=true):Gr H H'/\Rp K (over H H') ((t,x)::Γ):=by
 obtain⟨Hy,N',q,nd',g',d'⟩:=q;cases q with
 | @cons _ _ L M _ _ e h1 c=>
  have hkp:Gr H Hy:=by
   obtain⟨_,_,_,_,c2⟩:=c.split;cases c2 with
   |cons _ h2 _=>
    rcases h2 with⟨z,_⟩|⟨_,_,h2⟩
    ·cases z
    cases h2 with
    |kp z=>exact z
  have gr:=hkp.trans g';refine⟨gr,?_⟩;subst e;have nd2:=MT.mp nd';have hL:∀b∈L,H b=none:=fun b m=>hkp.none (d' b (y_ _ m));obtain⟨Hz,N,h,nd,g,d⟩:=h;have so:=AZ H H';have tk:TK H' (over H H'):=fun b xs r=>vz gr r;have h1':qT K Hz (over H H') t x L:=by
   rcases h1 with⟨rfl,rfl⟩|⟨v,rfl,h1⟩
   ·exact .inl ⟨rfl,rfl⟩
   refine .inr ⟨v,rfl,h1.LD tk n fun b m u e=>?_⟩;have eo:=lV (H':=H') (hL b m);exact⟨eo.trans e,fun nt xs r=>nt xs (by rw[<-eo];exact r)⟩
  refine⟨Hz,L++N,.cons rfl h1' (h.move (bI.tk so) .cc fun b m u e=>jk so b u e),?_,g.trans (.of so),?_⟩
  ·rw[MT];refine⟨nd2.1,nd,fun b m b' m' z=>?_⟩;subst z;obtain⟨⟨u,e⟩,_⟩:=h.there b m';rw[hL b m]at e;cases e
  intro b m;rcases x_.mp m with m|m
  ·exact g.none (hL b m)
  exact d b m
theorem qB:∀{ts:List T}{vs:List V}{i:Nat}{t:T},ts.length=vs.length->ts[i]?=some t->∃w,vs[i]?=some w
 |ts,vs,i,t,l,e=>by have h:i<ts.length:=(f_.mp e).1;exact⟨vs[i]'(by omega),c_ (by omega)⟩
theorem kW{α:Type}:∀{l:List α}{i:Nat}{x y:α},l[i]?=some y->(l.set i x).set i y=l
 | [],i,x,y,e=>by simp at e
 |a::l,0,x,y,e=>by simp at e;subst e;rfl
 |a::l,i+1,x,y,e=>by simp only[MV]at e;rw[Oz,Oz,kW e]
end
theorem oW{α β:Type}:∀{l:List α}{m:List β}{i:Nat}{a:α}{b:β} (t:α) (y:β),l[i]?=some a->m[i]?=some b->((a,b)::(l.set i t).zip (m.set i y)).Perm ((t,y)::l.zip m)
 | [],m,i,a,b,t,y,h,_=>by simp at h
 |x::l,[],i,a,b,t,y,_,h=>by simp at h
 |x::l,z::m,0,a,b,t,y,h,g=>by simp only[Nl,OI]at h g;subst h;subst g;exact .swap _ _ _
 |x::l,z::m,i+1,a,b,t,y,h,g=>by simp only[MV]at h g;have p:=oW t y h g;show Qa ((a,b)::(x,z)::(l.set i t).zip (m.set i y)) ((t,y)::(x,z)::l.zip m);exact(MZ _ _ _).trans ((p.cons _).trans (.swap _ _ _))
variable {i:Nat}
theorem set_same{l:List α}{x:α}(h:l[i]?=some x):l.set i x=l:=by have:=kW (x:=x) h;rw[OU]at this;exact this
variable {Fr Γ:Fm}{env:Ev}{σ:St}
section
variable{K:Qz}
noncomputable def Rs(K:Qz)(H:Hp)(env:Ev)(σ:St)(Fr:Fm):Prop:=env.length=σ.length/\Rp K H (env.zip σ++Fr)
theorem gy(h:Rp K H Γ):Rp K H ((.any,x)::Γ):=by obtain⟨Hz,N,h,nd,g,d⟩:=h;exact⟨Hz,N,.cons (L:=[]) rfl (.inl ⟨rfl,rfl⟩) h,nd,g,d⟩
theorem Rs.perm {Gr:Fm}(h:Rs K H env σ Fr)(p:Fr.Perm Gr):Rs K H env σ Gr:=⟨h.1,h.2.perm (p.append_left _)⟩
theorem Rs.drop {x:T×Option V}(h:Rs K H env σ (x::Fr)):Rs K H env σ Fr:=⟨h.1,(h.2.perm j_).tail⟩
theorem Rs.head {x:T×Option V}(h:Rs K H env σ (x::Fr)):Rp K H (x::(env.zip σ++Fr)):=h.2.perm j_
theorem Rs.of {x:T×Option V}(l:env.length=σ.length)(h:Rp K H (x::(env.zip σ++Fr))):Rs K H env σ (x::Fr):=⟨l,h.perm j_.symm⟩
theorem Rs.chg {Δ Δ':Fm}(h:Rs K H env σ (Δ++Fr))(f:∀ Γ,Rp K H (Δ++Γ)->Rp K H' (Δ'++Γ)):Rs K H' env σ (Δ'++Fr):=by
 refine⟨h.1,?_⟩;have p:∀A:Fm,(A++(env.zip σ++Fr)).Perm (env.zip σ++(A++Fr)):=fun A=>by rw[<-l_,<-l_];exact Mz.append_right _
 exact(f _ (h.2.perm (p Δ).symm)).perm (p Δ')
theorem Rs.slot (h:Rs K H env σ Fr)(e:env[i]?=some t):∃x,σ[i]?=some x/\Rs K H (env.set i .any) σ ((t,x)::Fr):=by
 have hi:i<env.length:=(f_.mp e).1;have hs:i<σ.length:=by rw[<-h.1];exact hi
 have ex:σ[i]?=some σ[i]:=c_ hs;refine⟨σ[i],ex,by rw[LO];exact h.1,?_⟩;have p:=oW (T.any) σ[i] e ex;rw[set_same ex]at p;refine(gy (x:=σ[i]) h.2).perm ?_;refine C' ?_ j_.symm;exact(p.symm.append_right Fr)
theorem Rs.o7 (h:Rs K H env σ ((t,x)::Fr))(hi:i<env.length)(ex:σ[i]?=some x):Rs K H (env.set i t) σ Fr:=by have e:env[i]?=some env[i]:=c_ hi;refine⟨by rw[LO];exact h.1,?_⟩;have p:=oW t x e ex;rw[set_same ex]at p;refine Rp.tail (x:=(env[i],x)) (h.2.perm ?_);refine j_.trans ?_;exact(p.symm.append_right Fr)
theorem Rs.store (h:Rs K H env σ ((t,some v)::Fr))(hi:i<env.length):Rs K H (env.set i t) (σ.set i (some v)) Fr:=by
 have e:env[i]?=some env[i]:=c_ hi;have hs:i<σ.length:=by rw[<-h.1];exact hi
 have ex:σ[i]?=some σ[i]:=c_ hs;refine⟨by rw[LO,LO];exact h.1,?_⟩;have p:=oW t (some v) e ex;refine Rp.tail (x:=(env[i],σ[i])) (h.2.perm ?_);refine j_.trans ?_;exact(p.symm.append_right Fr)
end
variable {X:Cx}{pins:List (QA×Obj)}{s:QB}
theorem qN{σ':St}{s':QB}(I:Inv X pins σ H s)(J:Inv X pins σ' H' s')(g:Gr H H'):Inv X pins σ' (over H H') s':=by
 have nn:∀b,H' b=none->over H H' b=none:=fun b e=>by rw[lV (g.none e)];exact e
 refine⟨J.ok,J.os,J.bare,⟨J.base.keep,J.base.slot,?_,J.base.there,?_,?_,?_⟩,J.loc,J.cell,nn _ J.free,fun x c e=>nn _ (J.freeC x c e),fun p hp=>?_,?_,J.len⟩
 ·exact fun b o e1 e2 e3=>nn _ (J.base.free b o e1 e2 e3)
 ·exact fun b xs e=>eN (I.base.tups b xs e)
 ·exact fun b o u e=>eN (I.base.frzs b o u e)
 ·exact fun b ps e=>by obtain⟨m,em⟩:=I.base.tbls b ps e;exact⟨m,eN em⟩
 ·obtain⟨h1,h2,h3⟩:=J.pin p hp;exact⟨h1,nn _ h2,h3⟩
 intro b u e;have ho:∀c y,H' c=some (.own y)->over H H' c=some (.own y):=fun c y q=>by
  rcases tQ g (b:=c)with z|⟨o,w,z,_⟩
  ·rw[z];exact q
  rw[q]at z;cases z
 have ht:∀c xs,H' c=some (.tup xs)->over H H' c=some (.tup xs):=fun c xs q=>vz g q;have key:bg X.prog X.w H' s'.heap b u:=by
  rcases tQ g (b:=b)with z|⟨o,w,z,zw⟩
  ·rw[z]at e;exact J.hok b u e
  rw[zw]at e;cases e;exact(J.hok b _ z).2
 exact key.oJ (fun c v _ q=>q) (fun c=>ho c b) ht
variable {e:QQ}
theorem EB{t:TE}(h:PE X e t):PE X e (fun σ H Q=>t σ H fun v H'=>Gr H H'/\Q v (over H H')):=fun pins s σ H Q I q=>
 thn (h pins s σ H _ I q) fun u s' ⟨v,H',I',r,g,q'⟩=>⟨v,over H H',qN I I' g,r,q'⟩
theorem DV{t:TT}(h:PT X e t):PT X e (fun σ H Q=>t σ H fun b H'=>Gr H H'/\Q b (over H H')):=fun pins s σ H Q I q=>
 thn (h pins s σ H _ I q) fun b s' ⟨H',I',g,q'⟩=>⟨over H H',qN I I' g,q'⟩
abbrev PF:=Ev->(T->Ev->Prop)->Prop
abbrev PB:=Ev->(Bool->Ev->Prop)->Prop
abbrev PFs:=Ev->(List T->Ev->Prop)->Prop
noncomputable def wE(K:Qz)(f:PF):TE:=fun σ H Q=>∃env Fr k,Rs K H env σ Fr/\f env k/\∀t env' v H',k t env'->Rs K H' env' σ ((t,some v)::Fr)->Q v H'
noncomputable def wB(K:Qz)(f:PB):TT:=fun σ H Q=>∃env Fr k,Rs K H env σ Fr/\f env k/\∀b env' H',k b env'->Rs K H' env' σ Fr->Q b H'
noncomputable def wA(K:Qz)(f:PFs):TA:=fun σ H Q=>∃env Fr k,Rs K H env σ Fr/\f env k/\∀ts env' vs H',k ts env'->ts.length=vs.length->Rs K H' env' σ (zz ts vs++Fr)->Q vs H'
noncomputable def GE(X:Cx)(e:QQ)(f:PF):Prop:=PE X e (wE X.K f)
noncomputable def GT(X:Cx)(e:QQ)(f:PB):Prop:=PT X e (wB X.K f)
noncomputable def GW(X:Cx)(e:QQ)(f:PB):Prop:=PW X e (wB X.K f)
noncomputable def GA(X:Cx)(es:List QQ)(f:PFs):Prop:=PA X es (wA X.K f)
theorem PE.imp {t t':TE}(h:PE X e t)(k:∀ σ H Q,t' σ H Q->t σ H Q):PE X e t':=fun pins s σ H Q I q=>h pins s σ H Q I (k _ _ _ q)
theorem PT.imp {t t':TT}(h:PT X e t)(k:∀ σ H Q,t' σ H Q->t σ H Q):PT X e t':=fun pins s σ H Q I q=>h pins s σ H Q I (k _ _ _ q)
theorem PW.imp {t t':TT}(h:PW X e t)(k:∀ σ H Q,t' σ H Q->t σ H Q):PW X e t':=fun wh pins s σ H Q I q=>h wh pins s σ H Q I (k _ _ _ q)
variable {es:List QQ}
theorem PA.imp {t t':TA}(h:PA X es t)(k:∀ σ H Q,t' σ H Q->t σ H Q):PA X es t':=fun pos pins s σ H Q I q=>h pos pins s σ H Q I (k _ _ _ q)
noncomputable def fQ(f:PF):PF:=fun env k=>f (erL env) fun t _=>cg t=true/\k t env
noncomputable def fQT(f:PB):PB:=fun env k=>f (erL env) fun b _=>k b env
theorem oT:∀(env:Ev) (σ:St),(env.zip σ).map (fun p=>(er p.1,p.2))=(erL env).zip σ
 | [],σ=>by simp[erL]
 |t::env,[]=>by simp
 |t::env,x::σ=>by rw[erL,Pq,g_,Pq,oT env σ]
theorem aB{X:Cx}{e:QQ}{f:PF}(h:GE X e f):GE X e (fQ f):=by
 refine PE.imp (EB h) ?_;rintro σ H Q ⟨env,Fr,k,rs,q,c⟩;have rv:Rs X.K H (erL env) σ ((Fr.map fun p=>(er p.1,p.2))++[(.kp H,some .non)]):=by refine⟨by rw[uM];exact rs.1,?_⟩;have:=uO rs.2;rw[p_,oT,l_]at this;exact this
 refine⟨erL env,_,_,rv,q,?_⟩;rintro t env' v H' ⟨n,kt⟩ rs';obtain⟨g,r2⟩:=uB rs.2 (Δ:=env'.zip σ++(Fr.map fun p=>(er p.1,p.2))) (by rw[l_];exact rs'.head) n;exact⟨g,c t env v _ kt (.of rs.1 r2)⟩
variable {K:Qz}
theorem Dh{Δ:Fm}(h:Rp K H Γ)(q:Rp K H' (Δ++[(.kp H,some .non)])):Gr H H'/\Rp K (over H H') Γ:=by obtain⟨g,r⟩:=uB (t:=.any) (x:=none) h (gy q) rfl;exact⟨g,r.tail⟩
theorem cf{f:PB}(h:GT X e f):GT X e (fQT f):=by
 refine PT.imp (DV h) ?_;rintro σ H Q ⟨env,Fr,k,rs,q,c⟩;have rv:Rs X.K H (erL env) σ ((Fr.map fun p=>(er p.1,p.2))++[(.kp H,some .non)]):=by refine⟨by rw[uM];exact rs.1,?_⟩;have:=uO rs.2;rw[p_,oT,l_]at this;exact this
 refine⟨erL env,_,_,rv,q,?_⟩;rintro b env' H' kt rs';obtain⟨g,r2⟩:=Dh rs.2 (Δ:=env'.zip σ++(Fr.map fun p=>(er p.1,p.2))) (by rw[l_];exact rs'.2);exact⟨g,c b env _ kt ⟨rs.1,r2⟩⟩
noncomputable def fK(t:T):PF:=fun env k=>k t env
variable {b:Bool}{j:Nat}
section
variable{X:Cx}{pos:Pos}
theorem eG(h:Rs K H env σ Fr)(r:∀Hz,RepT K Hz H t v []):Rs K H env σ ((t,some v)::Fr):=by refine .of h.1 ?_;obtain⟨Hz,N,q,nd,g,d⟩:=h.2;exact⟨Hz,N,.cons (L:=[]) rfl (.inr ⟨v,rfl,r Hz⟩) q,nd,g,d⟩
theorem ge_int{i:Int}{j:Nat}:GE X (.Constant (.int i) j pos) (fK (.int i)):=PE.imp bX (by rintro σ H Q ⟨env,Fr,k,rs,q,c⟩;exact c _ _ _ _ q (eG rs fun _=>.int))
theorem cR:GE X (.Constant (.bool b) j pos) (fK (.bl b)):=PE.imp Jd (by rintro σ H Q ⟨env,Fr,k,rs,q,c⟩;exact c _ _ _ _ q (eG rs fun _=>.bl))
theorem mX:GE X (.Constant .none j pos) (fK .non):=PE.imp HC (by rintro σ H Q ⟨env,Fr,k,rs,q,c⟩;exact c _ _ _ _ q (eG rs fun _=>.non))
theorem ge_str{x:Str}:GE X (.Constant (.str x) j pos) (fK (.str x)):=PE.imp gK (by rintro σ H Q ⟨env,Fr,k,rs,q,c⟩;exact c _ _ _ _ q (eG rs fun _=>.str))
theorem FN{x:Str}{u:Qy}(hg:Gl X x)(hm:X.mg x=some u)(r:RelV v u)(ht:∀Hz H,RepT X.K Hz H t v [])(hd:(x ==("__debug__":Str))=false:=by decide):GE X (.Name x pos) (fK t):=
 PE.imp (DS hg hm r hd) fun σ H Q ⟨env,Fr,k,rs,q,c⟩=>c _ _ _ _ q (eG rs fun Hz=>ht Hz H)
noncomputable def isAny:T->Bool
 | .any=>true
 | _=>false
noncomputable def DQ(i:Nat):PF:=fun env k=>match env[i]? with
 |some t=>isAny t=false/\aW t=true/\k t env
 |none=>False
noncomputable def fFz(i:Nat):PF:=fun env k=>match env[i]? with
 |some t=>isAny t=false/\k (er t) (env.set i (er t))
 |none=>False
noncomputable def fMv(i:Nat):PF:=fun env k=>match env[i]? with
 |some t=>isAny t=false/\k t (env.set i .any)
 |none=>False
theorem dM(h:Rs K H env σ ((t,x)::Fr))(n:isAny t=false):∃v,x=some v:=by
 obtain⟨Hz,N,q,_⟩:=h.head;cases q with
 |cons e h c=>
  rcases h with⟨rfl,_⟩|⟨v,e,_⟩
  ·cases n
  exact⟨v,e⟩
theorem ab(i:Nat){x:Str}(hN:X.N[i]?=some x:=by rfl)(hv:Vis X.env.scope x:=by first|exact e_ rfl|exact s_ (e_ rfl)|exact s_ (s_ rfl))(hd:(x ==("__debug__":Str))=false:=by decide)(hcd:(x ==("__classdict__":Str))=false:=by decide):GE X (.Name x pos) (DQ i):=by
 refine PE.imp (fZ hN hv hd hcd) ?_;rintro σ H Q ⟨env,Fr,k,rs,q,c⟩;unfold DQ at q;split at q
 ·rename_i t e;obtain⟨na,no,q⟩:=q;obtain⟨y,ey,rs2⟩:=rs.slot e;obtain⟨v,rfl⟩:=dM rs2 na;refine⟨v,ey,c _ _ _ _ q ?_⟩;have hi:i<env.length:=(f_.mp e).1;have r3:Rs X.K H (env.set i .any) σ ((t,some v)::(t,some v)::Fr):=.of rs2.1 ((kq rs2.head no).perm (by refine Ow _ ?_;exact j_.symm))
  have r4:=Rs.o7 (i:=i) r3 (by rw[LO];exact hi) ey;rw[kW e]at r4;exact r4
 exact q.elim
theorem bB(i:Nat){x:Str}(hN:X.N[i]?=some x:=by rfl)(hv:Vis X.env.scope x:=by first|exact e_ rfl|exact s_ (e_ rfl)|exact s_ (s_ rfl))(hd:(x ==("__debug__":Str))=false:=by decide)(hcd:(x ==("__classdict__":Str))=false:=by decide):GE X (.Name x pos) (fFz i):=by
 refine PE.imp (fZ hN hv hd hcd) ?_;rintro σ H Q ⟨env,Fr,k,rs,q,c⟩;unfold fFz at q;split at q
 ·rename_i t e;obtain⟨na,q⟩:=q;obtain⟨y,ey,rs2⟩:=rs.slot e;obtain⟨v,rfl⟩:=dM rs2 na;refine⟨v,ey,c _ _ _ _ q ?_⟩;have hi:i<env.length:=(f_.mp e).1;have no:aW (er t)=true:=bu t;have r3:Rs X.K H (env.set i .any) σ ((er t,some v)::(er t,some v)::Fr):=.of rs2.1 ((kq (pL rs2.head) no).perm (by refine Ow _ ?_;exact j_.symm))
  have r4:=Rs.o7 (i:=i) r3 (by rw[LO];exact hi) ey;rw[OU]at r4;exact r4
 exact q.elim
theorem qL(i:Nat){x:Str}(hN:X.N[i]?=some x:=by rfl)(hv:Vis X.env.scope x:=by first|exact e_ rfl|exact s_ (e_ rfl)|exact s_ (s_ rfl))(hd:(x ==("__debug__":Str))=false:=by decide)(hcd:(x ==("__classdict__":Str))=false:=by decide):GE X (.Name x pos) (fMv i):=by
 refine PE.imp (fZ hN hv hd hcd) ?_;rintro σ H Q ⟨env,Fr,k,rs,q,c⟩;unfold fMv at q;split at q
 ·rename_i t e;obtain⟨na,q⟩:=q;obtain⟨y,ey,rs2⟩:=rs.slot e;obtain⟨v,rfl⟩:=dM rs2 na;exact⟨v,ey,c _ _ _ _ q rs2⟩
 exact q.elim
end
variable {y:V}
section
variable{K:Qz}{H:Hp}{Γ:Fm}
theorem eC(h:Rp K H ((t,some y)::Γ))(n:isAny t=false):∃Hz L,RepT K Hz H t y L/\Gr Hz H:=by
 obtain⟨Hz,N,h,nd,g,d⟩:=h;cases h with
 |cons e h c=>
  rcases h with⟨rfl,_⟩|⟨v,e2,h⟩
  ·cases n
  cases e2;exact⟨Hz,_,h,g⟩
theorem aN{i:Int}(h:Rp K H ((.int i,some y)::Γ)):y=.int i:=by obtain⟨_,_,r,_⟩:=eC h rfl;cases r;rfl
theorem oj{i:Bool}(h:Rp K H ((.bl i,some y)::Γ)):y=.bl i:=by obtain⟨_,_,r,_⟩:=eC h rfl;cases r;rfl
theorem kh{i:Str}(h:Rp K H ((.str i,some y)::Γ)):y=.str i:=by obtain⟨_,_,r,_⟩:=eC h rfl;cases r;rfl
theorem uY(h:Rp K H ((.non,some y)::Γ)):y=.non:=by obtain⟨_,_,r,_⟩:=eC h rfl;cases r;rfl
theorem bO(h:Rp K H Γ)(r:∀Hz,RepT K Hz H t v []):Rp K H ((t,some v)::Γ):=by obtain⟨Hz,N,q,nd,g,d⟩:=h;exact⟨Hz,N,.cons (L:=[]) rfl (.inr ⟨v,rfl,r Hz⟩) q,nd,g,d⟩
noncomputable def items:T->Option (List T)
 | .tup ts=>some ts
 | .cst ts=>some ts
 | .lst _ ts=>some ts
 | _=>none
noncomputable def qR:T->Bool
 | .tup _=>true
 | .cst _=>true
 | _=>false
theorem A0(h:SqT K (fun _=>none) a vs)(H:Hp):SqT K H a vs:=by
 rcases h with (h|⟨_,h⟩)|h
 ·cases h
 ·cases h
 exact .inr h
theorem aF(e:items t=some ts)(h:Rp K H ((t,some y)::Γ)):∃a vs,y=.ref a/\SqG (qR t) K H a vs/\ts.length=vs.length/\Rp K H (zz ts vs++Γ):=by
 obtain⟨Hz,N,h,nd,g,d⟩:=h;cases h with
 |cons e1 h c=>
  rcases h with⟨rfl,_⟩|⟨v,e2,h⟩
  ·cases e
  cases e2;cases h <;> cases e
  ·rename_i a vs h c1;exact⟨a,vs,rfl,SqT.of h,c1.len,Hz,_,c1.toL.app c,by rw[<-e1];exact nd,g,fun b m=>d b (by rw[e1];exact m)⟩
  ·rename_i a vs h c1;exact⟨a,vs,rfl,A0 h H,c1.len,Hz,_,c1.toL.app c,by rw[<-e1];exact nd,g,fun b m=>d b (by rw[e1];exact m)⟩
  ·rename_i a vs L h c1;rw[e1,Mj,G_]at nd;exact⟨a,vs,rfl,SqL.of h,c1.len,Hz,_,c1.toL.app c,nd.2,g,fun b m=>d b (by rw[e1,Mj];exact k_ _ m)⟩
  rename_i a vs h c1;exact⟨a,vs,rfl,.inl (g _ _ h),c1.len,Hz,_,c1.toL.app c,by rw[<-e1];exact nd,g,fun b m=>d b (by rw[e1];exact m)⟩
theorem yj:∀{ts:List T}{vs:List V}{i:Nat}{t:T}{w:V},ts[i]?=some t->vs[i]?=some w->∃r,(zz ts vs).Perm ((t,some w)::r)
 | [],vs,i,t,w,e,f=>by simp at e
 |t::ts,[],i,_,w,e,f=>by simp at f
 |t::ts,v::vs,0,u,w,e,f=>by simp only[Nl,OI]at e f;subst e;subst f;exact⟨_,.refl _⟩
 |t::ts,v::vs,i+1,u,w,e,f=>by simp only[MV]at e f;obtain⟨r,h⟩:=yj (ts:=ts) (vs:=vs) e f;exact⟨(t,some v)::r,(h.cons _).trans (.swap _ _ _)⟩
theorem i7{w:V}(h:Rp K H (zz ts vs++Γ))(e:ts[i]?=some t)(f:vs[i]?=some w):Rp K H ((t,some w)::Γ):=by obtain⟨r,p⟩:=yj e f;refine Rp.part (Γ:=r) (h.perm ?_);refine(p.append_right Γ).trans ?_;exact j_.symm
theorem Bg{i:Int}(l:ts.length=vs.length)(e:atI ts i=some t)(h:Rp K H (zz ts vs++Γ)):∃w,atI vs i=some w/\Rp K H ((t,some w)::Γ):=by
 unfold atI at e ⊢;rw[l]at e;cases q:ixN vs.length i with
 |none=>rw[q]at e;cases e
 |some j=>
  rw[q]at e;have e:ts[j]?=some t:=e;obtain⟨w,f⟩:=qB l e;exact⟨w,f,i7 h e f⟩
end
noncomputable def got(o:Option α)(k:α->Prop):Prop:=match o with
 |some u=>k u
 |none=>False
theorem IQ{o:Option α}{u:α}{k:α->Prop}(e:o=some u)(h:k u):got o k:=by rw[e];exact h
theorem aI{o:Option α}{k:α->Prop}(h:got o k):∃u,o=some u/\k u:=by
 cases o with
 |none=>exact h.elim
 |some u=>exact⟨u,rfl,h⟩
noncomputable def cnd(b:Bool)(A B:Prop):Prop:=(b=true->A)/\(b=false->B)
theorem GB{A B:Prop}(h:A):cnd true A B:=⟨fun _=>h,fun e=>by cases e⟩
theorem G5{A B:Prop}(h:B):cnd false A B:=⟨fun e=>(by cases e),fun _=>h⟩
theorem e9{A B:Prop}(h:cnd b A B):if b=true then A else B:=by
 cases b with
 |true=>rw[if_pos rfl];exact h.1 rfl
 |false=>rw[if_neg (by decide)];exact h.2 rfl
abbrev P2:=T->T->(T->Prop)->Prop
noncomputable def w2(K:Qz)(g:P2):R2:=fun x y H Q=>∃tx ty Γ k,Rp K H ((ty,some y)::(tx,some x)::Γ)/\g tx ty k/\∀t v H',k t->Rp K H' ((t,some v)::Γ)->Q v H'
noncomputable def OpP(X:Cx)(f:Qy->Qy->Sem Qy)(g:P2):Prop:=OpR X f (w2 X.K g)
variable {f:Qy->Qy->Sem Qy}
theorem OpP.of {g:P2}{r:R2}(h:OpR X f r)(k:∀tx ty x y H Γ (k:T->Prop) (Q:VK),Rp X.K H ((ty,some y)::(tx,some x)::Γ)->g tx ty k->(∀t v H',k t->Rp X.K H' ((t,some v)::Γ)->Q v H')->r x y H Q):OpP X f g:=
 fun pins s σ H x y v u Q I rx ry ⟨tx,ty,Γ,kk,rp,g,c⟩=>h pins s σ H x y v u Q I rx ry (k tx ty x y H Γ kk Q rp g c)
noncomputable def Aq(g:P2)(a b:PF):PF:=fun env k=>a env fun x env1=>b env1 fun y env2=>g x y fun t=>k t env2
variable {fa:PF}
theorem zl{g:P2}{fb:PF}:∀ σ H Q,wE X.K (Aq g fa fb) σ H Q->tOp (w2 X.K g) (wE X.K fa) (wE X.K fb) σ H Q:=by rintro σ H Q ⟨env,Fr,k,rs,q,c⟩;refine⟨env,Fr,_,rs,q,fun tx env1 x H1 q1 rs1=>⟨env1,_,_,rs1,q1,fun ty env2 y H2 q2 rs2=>?_⟩⟩;refine⟨tx,ty,env2.zip σ++Fr,_,?_,q2,fun t v H' kt rp=>c _ _ _ _ kt (.of rs2.1 rp)⟩;exact rs2.head.perm (.cons _ j_)
variable {g':P2}
section
variable{X:Cx}{a b c d:QQ}{fa fb fc fd:PF}{pos:Pos}
theorem aj{op:Um}{g:P2}(ho:OpP X (RJ op) g)(ha:GE X a fa)(hb:GE X b fb):GE X (.BinOp a op b pos) (Aq g fa fb):=PE.imp (cD ho ha hb) zl
theorem nu{op:Vv}{g:P2}(ho:OpP X (Ro op) g)(ha:GE X a fa)(hb:GE X b fb)(hm:SR op b=false):GE X (.Compare a [op] [b] pos) (Aq g fa fb):=PE.imp (Ea ho ha hb hm) zl
noncomputable def Et(f:PF):PB:=fun env k=>f env fun t env'=>match t with
 | .bl b=>k b env'
 | _=>False
theorem DA{f:PF}:∀ σ H Q,wB K (Et f) σ H Q->By (wE K f) σ H Q:=by
 rintro σ H Q ⟨env,Fr,k,rs,q,c⟩;refine⟨env,Fr,_,rs,q,fun t env' v H' q1 rs1=>?_⟩;cases t <;> first|exact q1.elim|skip
 rename_i b;exact⟨b,oj rs1.head,c _ _ _ q1 rs1.drop⟩
theorem aT{op:Vv}{g:P2}(ho:OpP X (Ro op) g)(ha:GE X a fa)(hb:GE X b fb)(hm:SR op b=false):GT X (.Compare a [op] [b] pos) (Et (Aq g fa fb)):=by refine PT.imp (uS ho ha hb hm) fun σ H Q h=>?_;obtain⟨env,Fr,k,rs,q,c⟩:=DA σ H Q h;exact zl σ H _ ⟨env,Fr,k,rs,q,c⟩
noncomputable def xm(g g':P2)(fa fb fc:PF):PF:=fun env k=>fa env fun x env1=>fb env1 fun y env2=>aW y=true/\g x y fun z=>match z with
 | .bl b=>cnd b (fc env2 fun u env3=>g' y u fun t=>k t env3) (k (.bl false) env2)
 | _=>False
theorem Cw{X:Cx}{g:P2}{fa fb fc:PF}:∀ σ H Q,wE X.K (xm g g' fa fb fc) σ H Q->Cm (w2 X.K g) (w2 X.K g') (wE X.K fa) (wE X.K fb) (wE X.K fc) σ H Q:=by
 rintro σ H Q ⟨env,Fr,k,rs,q,c⟩;refine⟨env,Fr,_,rs,q,fun tx env1 x H1 q1 rs1=>⟨env1,_,_,rs1,q1,fun ty env2 y H2 ⟨no,q2⟩ rs2=>?_⟩⟩;have rd:=kq rs2.head no;refine⟨tx,ty,(ty,some y)::(env2.zip σ++Fr),_,?_,q2,fun t v H' kt rp=>?_⟩
 ·refine rd.perm (.cons _ ?_);refine C' (.cons _ j_) (.swap _ _ _)
 cases t <;> first|exact kt.elim|skip
 rename_i bb;refine⟨bb,oj rp,e9 ⟨fun hb=>?_,fun hb=>?_⟩⟩
 ·refine⟨env2,(ty,some y)::Fr,_,.of rs2.1 rp.tail,kt.1 hb,fun tu env3 u H3 q3 rs3=>?_⟩;refine⟨ty,tu,env3.zip σ++Fr,_,?_,q3,fun t v H' kt rp=>c _ _ _ _ kt (.of rs3.1 rp)⟩;exact rs3.head.perm (.cons _ j_)
 exact c _ _ _ _ (kt.2 hb) (eG ⟨rs2.1,rp.tail.tail⟩ fun _=>.bl)
theorem Bl{op op':Vv}{g:P2}(ho:OpP X (Ro op) g)(ho':OpP X (Ro op') g')(ha:GE X a fa)(hb:GE X b fb)(hc:GE X c fc)(hm:lastMarks [op,op'] [b,c]=false:=by with_unfolding_all rfl) :
  GT X (.Compare a [op,op'] [b,c] pos) (Et (xm g g' fa fb fc)):=by
 refine PT.imp (CB ho ho' ha hb hc hm) fun σ H Q h=>?_;obtain⟨env,Fr,k,rs,q,c⟩:=DA σ H Q h;exact Cw σ H _ ⟨env,Fr,k,rs,q,c⟩
noncomputable def Ei:T->(Bool->Prop)->Prop
 | .non,k=>k false
 | .bl b,k=>k b
 | .int i,k=>k (i != 0)
 | .str x,k=>x.length<=sizeLine/\k ((x.length:Int) != 0)
 | .tup ts,k=>k (!ts.isEmpty)
 | .cst ts,k=>k (!ts.isEmpty)
 | .lst _ ts,k=>k (!ts.isEmpty)
 | _,_=>False
noncomputable def Jz(f:PF):PB:=fun env k=>f env fun t env'=>Ei t fun b=>k b env'
theorem wF{β:Type}{l:List α}{m:List β}(h:l.length=m.length):l.isEmpty=m.isEmpty:=by cases l <;> cases m <;> first|rfl|simp at h
theorem cC(ha:GE X a fa)(he:∀whole,Vh a X.env whole=(do let v <-whole;Wl a.pos;Tu [v] (truthy v)):=by intro _;rfl):GT X a (Jz fa):=by
 refine PT.imp (BR ha he) ?_;rintro σ H Q ⟨env,Fr,k,rs,q,c⟩;refine⟨env,Fr,_,rs,q,fun t env' v H' q1 rs1=>?_⟩;have fin:∀b,k b env'->Q b H':=fun b kb=>c _ _ _ kb rs1.drop;have sq:∀ts b,items t=some ts->b=(!ts.isEmpty)->k b env'->∃b,Hr X.K v H' b/\Q b H':=fun ts b e eb kb=>by
  obtain⟨a,vs,rfl,hq,l,_⟩:=aF e rs1.head;refine⟨b,?_,fin b kb⟩;rw[wF l]at eb;revert hq;cases qR t with
  |true=>exact fun hq=>.inr (.inl ⟨vs,hq,eb⟩)
  |false=>exact fun hq=>.inl ⟨vs,hq,eb⟩
 cases t with
 |non=>rw[uY rs1.head];exact⟨_,rfl,fin _ q1⟩
 |bl b=>rw[oj rs1.head];exact⟨_,rfl,fin _ q1⟩
 |int i=>rw[aN rs1.head];exact⟨_,rfl,fin _ q1⟩
 |str x=>rw[kh rs1.head];exact⟨_,⟨q1.1,rfl⟩,fin _ q1.2⟩
 |tup ts=>exact sq _ _ rfl rfl q1
 |cst ts=>exact sq _ _ rfl rfl q1
 |lst o ts=>exact sq _ _ rfl rfl q1
 | _=>exact q1.elim
noncomputable def G2(ta tb:PB):PB:=fun env k=>ta env fun b env1=>cnd b (tb env1 k) (k false env1)
noncomputable def JD(ta tb:PB):PB:=fun env k=>ta env fun b env1=>cnd b (k true env1) (tb env1 k)
noncomputable def GC(ta:PB):PB:=fun env k=>ta env fun b env1=>k (!b) env1
variable{ta tb:PB}{rest:List QQ}
theorem pq(ha:GT X a ta):GW X (.BoolOp .And [a] pos) ta:=Fj ha
theorem y8(ha:GT X a ta):GW X (.BoolOp .Or [a] pos) ta:=Hb ha
theorem t9(ha:GT X a ta)(hb:GW X (.BoolOp .And (b::rest) pos) tb):GW X (.BoolOp .And (a::b::rest) pos) (G2 ta tb):=by
 refine PW.imp (Iq ha hb) ?_;rintro σ H Q ⟨env,Fr,k,rs,q,c⟩;refine⟨env,Fr,_,rs,q,fun b env' H' q1 rs1=>e9 ⟨fun e=>?_,fun e=>?_⟩⟩
 ·exact⟨env',Fr,k,rs1,q1.1 e,c⟩
 exact c _ _ _ (q1.2 e) rs1
theorem Cq(ha:GT X a ta)(hb:GW X (.BoolOp .Or (b::rest) pos) tb):GW X (.BoolOp .Or (a::b::rest) pos) (JD ta tb):=by
 refine PW.imp (Jb ha hb) ?_;rintro σ H Q ⟨env,Fr,k,rs,q,c⟩;refine⟨env,Fr,_,rs,q,fun b env' H' q1 rs1=>e9 ⟨fun e=>?_,fun e=>?_⟩⟩
 ·exact c _ _ _ (q1.1 e) rs1
 exact⟨env',Fr,k,rs1,q1.2 e,c⟩
theorem x6{f:PB}(h:GW X a f):GT X a f:=PW.pt h
theorem pT(ha:GT X a ta):GT X (.UnaryOp .Not a pos) (GC ta):=by refine PT.imp (Ic ha) ?_;rintro σ H Q ⟨env,Fr,k,rs,q,c⟩;exact⟨env,Fr,_,rs,q,fun b env' H' q1 rs1=>c _ _ _ q1 rs1⟩
noncomputable def KW(fa fb:PF):PF:=fun env k=>fa env fun t env1=>match t with
 | .bl b=>cnd b (fb env1 k) (k (.bl false) env1)
 | _=>False
noncomputable def Kw(fa:PF):PF:=fun env k=>fa env fun t env1=>match t with
 | .bl b=>k (.bl (!b)) env1
 | _=>False
noncomputable def fIf(tc:PB)(fa fb:PF):PF:=fun env k=>tc env fun b env1=>cnd b (fa env1 k) (fb env1 k)
theorem uR{op}(h:GE X a fa):GE X (.BoolOp op [a] pos) fa:=GU h
theorem gL(ha:GE X a fa)(hb:GE X (.BoolOp .And (b::rest) pos) fb):GE X (.BoolOp .And (a::b::rest) pos) (KW fa fb):=by
 refine PE.imp (IX ha hb) ?_;rintro σ H Q ⟨env,Fr,k,rs,q,c⟩;refine⟨env,Fr,_,rs,q,fun t env' v H' q1 rs1=>?_⟩;cases t <;> first|exact q1.elim|skip
 rename_i bb;refine⟨bb,oj rs1.head,e9 ⟨fun e=>?_,fun e=>?_⟩⟩
 ·exact⟨env',Fr,k,rs1.drop,q1.1 e,c⟩
 exact c _ _ _ _ (q1.2 e) (eG rs1.drop fun _=>.bl)
theorem D4(ha:GE X a fa):GE X (.UnaryOp .Not a pos) (Kw fa):=by
 refine PE.imp (J6 ha) ?_;rintro σ H Q ⟨env,Fr,k,rs,q,c⟩;refine⟨env,Fr,_,rs,q,fun t env' v H' q1 rs1=>?_⟩;cases t <;> first|exact q1.elim|skip
 rename_i bb;exact⟨bb,oj rs1.head,c _ _ _ _ q1 (eG rs1.drop fun _=>.bl)⟩
theorem ge_if(hc:GT X c ta)(ha:GE X a fa)(hb:GE X b fb):GE X (.IfExp c a b pos) (fIf ta fa fb):=by
 refine PE.imp (CY hc ha hb) ?_;rintro σ H Q ⟨env,Fr,k,rs,q,c⟩;refine⟨env,Fr,_,rs,q,fun b env' H' q1 rs1=>e9 ⟨fun e=>?_,fun e=>?_⟩⟩
 ·exact⟨env',Fr,k,rs1,q1.1 e,c⟩
 exact⟨env',Fr,k,rs1,q1.2 e,c⟩
noncomputable def Hs:PFs:=fun env k=>k [] env
noncomputable def FO(f:PF)(r:PFs):PFs:=fun env k=>f env fun t env1=>r env1 fun ts env2=>k (t::ts) env2
variable{es:List QQ}{fr:PFs}
theorem af:GA X [] Hs:=PA.imp jY (by rintro σ H Q ⟨env,Fr,k,rs,q,c⟩;exact c [] env [] H q rfl rs)
theorem ae(ha:GE X a fa)(hr:GA X es fr)(hs:QS (a::es) X.env=(false,Q9 a X.env)::QS es X.env:=by rfl):GA X (a::es) (FO fa fr):=by refine PA.imp (eA ha hr hs) ?_;rintro σ H Q ⟨env,Fr,k,rs,q,c⟩;refine⟨env,Fr,_,rs,q,fun t env1 v H1 q1 rs1=>⟨env1,_,_,rs1,q1,fun ts env2 vs H2 q2 l rs2=>c _ _ _ _ q2 (by rw[h_,h_,l]) ?_⟩⟩;exact rs2.perm j_
noncomputable def KS(fr:PFs):PF:=fun env k=>fr env fun ts env1=>ts.length<=sizeLine/\k (.tup ts) env1
noncomputable def Km(fr:PFs):PF:=fun env k=>fr env fun ts env1=>ts.length<=sizeLine/\k (.lst true ts) env1
theorem aD{x1}(h:GA X es fr):GE X (.Tuple es x1 pos) (KS fr):=by refine PE.imp (Fw h) ?_;rintro σ H Q ⟨env,Fr,k,rs,q,c⟩;refine⟨env,Fr,_,rs,q,fun ts env1 vs H1 ⟨z,q1⟩ l rs1=>⟨by rw[<-l];exact z,fun p H2 hp g e=>c _ _ _ _ q1 ?_⟩⟩;exact Rs.chg (Δ:=zz ts vs) (Δ':=[(.tup ts,some (.ref p))]) rs1 fun Γ r=>eE r l g e
theorem bq(h:GA X es fr):GE X (.List es pos) (Km fr):=by refine PE.imp (ET h) ?_;rintro σ H Q ⟨env,Fr,k,rs,q,c⟩;refine⟨env,Fr,_,rs,q,fun ts env1 vs H1 ⟨z,q1⟩ l rs1=>⟨by rw[<-l];exact z,fun p H2 hp g e=>c _ _ _ _ q1 ?_⟩⟩;exact Rs.chg (Δ:=zz ts vs) (Δ':=[(.lst true ts,some (.ref p))]) rs1 fun Γ r=>fP r l hp g e
end
open PySem PySem.Spec PyProof.Rows L2
mutual
def dt:T->Dt
 | .int i=>.int i
 | .bl b=>.bl b
 | .str x=>.str x
 | .tup ts=>.tup (dtL ts)
 | .cst ts=>.tup (dtL ts)
 | .lst _ ts=>.lst (dtL ts)
 | _=>.non
def dtL:List T->List Dt
 | []=>[]
 |t::r=>dt t::dtL r
end
mutual
def isD:T->Bool
 | .tup ts=>uu ts
 | .cst ts=>uu ts
 | .lst _ ts=>uu ts
 | .int _=>true
 | .bl _=>true
 | .str _=>true
 | .non=>true
 | _=>false
def uu:List T->Bool
 | []=>true
 |t::r=>isD t&&uu r
end
section
variable{K:Qz}
theorem En(g:Gr Hz H):(∀{t v L},RepT K Hz H t v L->isD t=true->Has K H (dt t) v)/\(∀{t v L},RepTs K Hz H t v L->uu t=true->bV K H (dtL t) v)/\(∀{t v L},RepKs K Hz H t v L->True)/\(∀{t v L},RepXs K Hz H t v L->True):=
 hU (P:=fun t v L=>isD t=true->Has K H (dt t) v) (Ps:=fun t v L=>uu t=true->bV K H (dtL t) v) (Pk:=fun t v L=>True) (Px:=fun t v L=>True)
  (fun n=>nomatch n) (fun n=>nomatch n) (fun _ _ n=>nomatch n) (fun _ n=>nomatch n) (fun _=>by show Has K H .non .non;rw[Has]) (fun _=>by rw[dt,Has]) (fun _=>by rw[dt,Has]) (fun _=>by rw[dt,Has]) (fun n=>nomatch n)
  (fun h c n=>by rw[dt,Has];exact⟨_,_,rfl,SqT.of h,c (by rw[isD]at n;exact n)⟩) (fun h c n=>by rw[dt,Has];exact⟨_,_,rfl,A0 h H,c (by rw[isD]at n;exact n)⟩)
  (fun h c n=>by rw[dt,Has];exact⟨_,_,rfl,SqL.of h,c (by rw[isD]at n;exact n)⟩) (fun h c n=>by rw[dt,Has];exact⟨_,_,rfl,.inl (g _ _ h),c (by rw[isD]at n;exact n)⟩)
  (fun _ _ n=>nomatch n) (fun _ _ n=>nomatch n) (fun _ _ n=>nomatch n) (fun _ _ n=>nomatch n)
  (fun _=>by rw[dtL];exact vt) (fun i j n=>by rw[uu,LW]at n;rw[dtL];exact sZ (i n.1) (j n.2)) trivial (fun _ _=>trivial) trivial (fun _ _=>trivial)
theorem RepT.has (g:Gr Hz H)(n:isD t=true)(h:RepT K Hz H t v L):Has K H (dt t) v:=(En g).1 h n
theorem Ff(h:isD t=true):isAny t=false:=by cases t <;> first|rfl|cases h
theorem uj(h:Rp K H ((t,some y)::Γ))(n:isD t=true):Has K H (dt t) y:=by obtain⟨Hz,L,r,g⟩:=eC h (Ff n);exact r.has g n
end
noncomputable def IM:P2
 | .int i,.int j,k=>k (.int (i+j))
 | .str x,.str y,k=>x.length+y.length<=sizeLine/\k (.str (x++y))
 | .lst _ ts,.lst _ us,k=>ts.length+us.length<=sizeLine/\k (.lst true (ts++us))
 | .tup ts,.tup us,k=>ts.length+us.length<=sizeLine/\k (.tup (ts++us))
 | _,_,_=>False
noncomputable def JE:P2
 | .int i,.int j,k=>k (.int (i-j))
 | _,_,_=>False
noncomputable def KZ:P2
 | .int i,.int j,k=>wD i j/\k (.int (i*j))
 | _,_,_=>False
noncomputable def Ji:P2
 | .int i,.int j,k=>Au i j/\k (.int (i/j))
 | _,_,_=>False
noncomputable def Fb(p:Int->Int->Bool):P2
 | .int i,.int j,k=>k (.bl (p i j))
 | _,_,_=>False
noncomputable def ltT:P2:=Fb fun i j=>decide (i<j)
noncomputable def leT:P2:=Fb fun i j=>decide (i<=j)
noncomputable def gtT:P2:=Fb fun i j=>decide (j<i)
noncomputable def geT:P2:=Fb fun i j=>decide (j<=i)
noncomputable def isV:T->Bool
 | .any=>false
 | .hole _=>false
 | .bare=>false
 | .kp _=>false
 | _=>true
noncomputable def ql:T->Bool
 | .non=>true
 | _=>false
noncomputable def Ke:P2
 |t,.non,k=>isV t=true/\k (.bl (ql t))
 | _,_,_=>False
noncomputable def eqT:P2:=fun t u k=>isD t=true/\isD u=true/\dpt (dt t)<190/\k (.bl (eqD (dt t) (dt u)))
noncomputable def neT:P2:=fun t u k=>isD t=true/\isD u=true/\dpt (dt t)<190/\k (.bl (!eqD (dt t) (dt u)))
variable {n:Nat}{o:Bool}{r':Int->Int->V}
section
variable{X:Cx}
theorem yr{C:Int->Int->Prop}{r:Int->Int->T}(h:OpR X f (rI C r'))(hr:∀i j K Hz H,RepT K Hz H (r i j) (r' i j) []):OpP X f (fun t u k=>match t,u with | .int i,.int j=>C i j/\k (r i j) | _,_=>False):=by
 refine .of h ?_;intro tx ty x y H Γ k Q rp g c;cases tx <;> cases ty <;> first|exact g.elim|skip
 rename_i i j;rw[aN rp,aN rp.tail];exact⟨i,j,rfl,rfl,g.1,c _ _ _ g.2 (bO rp.tail.tail fun Hz=>hr i j _ _ _)⟩
theorem fY{r:Int->Int->T}(h:OpR X f (rI0 r'))(hr:∀i j K Hz H,RepT K Hz H (r i j) (r' i j) []):OpP X f (fun t u k=>match t,u with | .int i,.int j=>k (r i j) | _,_=>False):=by
 refine .of h ?_;intro tx ty x y H Γ k Q rp g c;cases tx <;> cases ty <;> first|exact g.elim|skip
 rename_i i j;rw[aN rp,aN rp.tail];exact⟨i,j,rfl,rfl,c _ _ _ g (bO rp.tail.tail fun Hz=>hr i j _ _ _)⟩
theorem OpP.imp {g:P2}(h:OpP X f g)(k:∀tx ty k,g' tx ty k->g tx ty k):OpP X f g':=OpR.imp h (by rintro x y H Q ⟨tx,ty,Γ,kk,rp,gg,c⟩;exact⟨tx,ty,Γ,kk,rp,k _ _ _ gg,c⟩)
theorem Inv.KJ {σ:L2.St}{l:QA}(I:Inv X pins σ H s)(hH:Rd H l (.lst xs)):xs.length<=sizeLine/\∃(its:List Qy) (n:Nat),Vals xs its/\xs.length=its.length/\s.heap.get? l=some { cls:=.type "list",data:=.seq its.toArray n}:=by obtain⟨z,its,n,r,e⟩:=hH.ok I.hok;exact⟨z,its,n,r,r.length,e⟩
theorem ER:OpR X (RJ .Add) (fun x y H Q=>∃l b xs zs,x=.ref l/\y=.ref b/\Rd H l (.lst xs)/\Rd H b (.lst zs)/\xs.length+zs.length<=sizeLine/\New (.lst (xs++zs)) H Q):=by
 intro pins s σ H x y v u Q I rx ry h;obtain⟨l,b,xs,zs,rfl,rfl,hH,hB,hz,q⟩:=h;cases rx;cases ry;obtain⟨z,its,n,r,hl,e⟩:=Inv.KJ I hH;obtain⟨z2,its2,n2,r2,hl2,e2⟩:=Inv.KJ I hB;refine PySem.P.add_list e e2 ?_ (by rw[q_,q_];lia);have ea:its.toArray++its2.toArray=(its++its2).toArray:=by simp
 rw[ea];exact⟨.ref _,_,I.L3 (t':=s.toks) (r.append r2) (by rw[d_];omega),rfl,q.at I.fresh⟩
theorem kG(h:Rp K H ((.lst o ts,some y)::Γ)):∃a vs,y=.ref a/\Rd H a (.lst vs)/\ts.length=vs.length/\Rp K H (zz ts vs++Γ):=by
 obtain⟨Hz,N,h,nd,g,d⟩:=h;cases h with
 |cons e1 h c=>
  rcases h with⟨z,_⟩|⟨v,e2,h⟩
  ·cases z
  cases e2;cases h
  ·rename_i a vs L h c1;rw[e1,Mj,G_]at nd;exact⟨a,vs,rfl,.inl h,c1.len,Hz,_,c1.toL.app c,nd.2,g,fun b m=>d b (by rw[e1,Mj];exact k_ _ m)⟩
  rename_i a vs h c1;exact⟨a,vs,rfl,g _ _ h,c1.len,Hz,_,c1.toL.app c,by rw[<-e1];exact nd,g,fun b m=>d b (by rw[e1];exact m)⟩
theorem pg(h:Rp K H ((.tup ts,some y)::Γ)):∃a vs,y=.ref a/\H a=some (.tup vs)/\ts.length=vs.length/\Rp K H (zz ts vs++Γ):=by
 obtain⟨Hz,N,h,nd,g,d⟩:=h;cases h with
 |cons e1 h c=>
  rcases h with⟨z,_⟩|⟨v,e2,h⟩
  ·cases z
  cases e2;cases h with
  |tup h c1=>exact⟨_,_,rfl,h,c1.len,Hz,_,c1.toL.app c,by rw[<-e1];exact nd,g,fun b m=>d b (by rw[e1];exact m)⟩
theorem jS{us:List T}{ws:List V}(l:ts.length=vs.length):zz (ts++us) (vs++ws)=zz ts vs++zz us ws:=by show(ts++us).zip ((vs++ws).map some)=_;rw[p_,P5 (by rw[a_];exact l)]
theorem E1:OpR X (RJ .Add) (fun x y H Q=>∃a b ys,x=.ref a/\y=.ref b/\SqT X.K H a []/\SqT X.K H b ys/\Q (.ref b) H):=by
 intro pins s σ H x y v u Q I rx ry h;obtain⟨a,b,ys,rfl,rfl,ha,hb,q⟩:=h;cases rx;cases ry;obtain⟨its,r1,p1,_⟩:=I.tuple ha;obtain⟨its2,r2,p2,_⟩:=I.tuple hb;cases r1;obtain⟨⟨cls,dd,data,sl⟩,ho,hc,n,hd⟩:=id p1;obtain⟨⟨cls2,dd2,data2,sl2⟩,ho2,hc2,n2,hd2⟩:=id p2;simp only at hc hd hc2 hd2;subst hc hd hc2 hd2;exact Vl ⟨_,ho,rfl⟩ ⟨_,ho2,rfl⟩ Uo Va Ti Tb (S6 _ _)
  (tuple_addW0 a b _ its2.toArray n n2 dd dd2 sl sl2 (by simp)) ⟨ho,ho2,⟨.ref b,H,I,rfl,q⟩⟩
theorem aA:OpP X (RJ .Add) IM:=by
 rintro pins s σ H x y v u Q I rx ry ⟨tx,ty,Γ,k,rp,g,c⟩;cases tx <;> cases ty <;> first|exact QU g|skip
 ·rename_i i j;rw[aN rp]at ry;rw[aN rp.tail]at rx;exact qw pins s σ H _ _ v u Q I rx ry ⟨i,j,rfl,rfl,c _ _ _ g (bO rp.tail.tail fun _=>.int)⟩
 ·rename_i i j;rw[kh rp]at ry;rw[kh rp.tail]at rx;exact xE pins s σ H _ _ v u Q I rx ry ⟨i,j,rfl,rfl,g.1,c _ _ _ g.2 (bO rp.tail.tail fun _=>.str)⟩
 ·rename_i ts us;obtain⟨b,ws,rfl,hb,lb,rp2⟩:=pg rp;obtain⟨a,vs,rfl,ha,la,rp3⟩:=pg (rp2.perm j_);have lz:vs.length+ws.length<=sizeLine:=by rw[<-la,<-lb];exact g.1
  have rp4:Rp X.K H (zz (ts++us) (vs++ws)++Γ):=by rw[jS la,l_];exact rp3
  by_cases hx:vs=[]
  ·subst hx;refine E1 pins s σ H _ _ v u Q I rx ry ⟨a,b,ws,rfl,rfl,SqT.of ha,SqT.of hb,?_⟩;refine c _ _ _ g.2 (eE rp4 (by rw[d_,d_,la,lb]) .cc ?_);rw[Oi];exact hb
  refine F4 pins s σ H _ _ v u Q I rx ry ⟨a,b,vs,ws,rfl,rfl,SqT.of ha,SqT.of hb,hx,lz,fun e=>?_,fun _ p hp=>c _ _ _ g.2 (eE rp4 (by rw[d_,d_,la,lb]) (bH hp _) aQ)⟩;refine c _ _ _ g.2 (eE rp4 (by rw[d_,d_,la,lb]) .cc ?_);rw[e,E_];exact ha
 rename_i o ts o' us;obtain⟨b,ws,rfl,hb,lb,rp2⟩:=kG rp;obtain⟨a,vs,rfl,ha,la,rp3⟩:=kG (rp2.perm j_);have lz:vs.length+ws.length<=sizeLine:=by rw[<-la,<-lb];exact g.1
 have rp4:Rp X.K H (zz (ts++us) (vs++ws)++Γ):=by rw[jS la,l_];exact rp3
 exact ER pins s σ H _ _ v u Q I rx ry ⟨a,b,vs,ws,rfl,rfl,ha,hb,lz,fun p H' hp g' e=>c _ _ _ g.2 (fP rp4 (by rw[d_,d_,la,lb]) hp g' e)⟩
theorem bc:OpP X (RJ .Sub) JE:=(fY (r:=fun i j=>.int (i-j)) Io fun _ _ _ _ _=>.int).imp fun tx ty k g=>by cases tx <;> cases ty <;> exact g
theorem aH:OpP X (RJ .Mult) KZ:=(yr (r:=fun i j=>.int (i*j)) kE fun _ _ _ _ _=>.int).imp fun tx ty k g=>by cases tx <;> cases ty <;> exact g
theorem tM:OpP X (RJ .FloorDiv) Ji:=(yr (r:=fun i j=>.int (i/j)) zX fun _ _ _ _ _=>.int).imp fun tx ty k g=>by cases tx <;> cases ty <;> exact g
theorem Hf:OpP X (Ro .Lt) ltT:=(fY (r:=fun i j=>.bl (decide (i<j))) Kd fun _ _ _ _ _=>.bl).imp fun tx ty k g=>by cases tx <;> cases ty <;> exact g
theorem kD:OpP X (Ro .LtE) leT:=(fY (r:=fun i j=>.bl (decide (i<=j))) Kt fun _ _ _ _ _=>.bl).imp fun tx ty k g=>by cases tx <;> cases ty <;> exact g
theorem pS:OpP X (Ro .Gt) gtT:=(fY (r:=fun i j=>.bl (decide (j<i))) K4 fun _ _ _ _ _=>.bl).imp fun tx ty k g=>by cases tx <;> cases ty <;> exact g
theorem GY:OpP X (Ro .GtE) geT:=(fY (r:=fun i j=>.bl (decide (j<=i))) FW fun _ _ _ _ _=>.bl).imp fun tx ty k g=>by cases tx <;> cases ty <;> exact g
theorem FX{k:Nat}{A:QY}(r:Room k A)(h:n<190):A.units+n<cLine:=by have:=r.un;lia
theorem bR{k:Nat}(hr:Room k X.A):OpP X (Ro .Eq) eqT:=.of Bx fun tx ty x y H Γ k Q rp ⟨d1,d2,z,g⟩ c=>
 ⟨dt tx,dt ty,uj rp.tail d1,uj rp d2,FX hr z,c _ _ _ g (bO rp.tail.tail fun _=>.bl)⟩
theorem uF{k:Nat}(hr:Room k X.A):OpP X (Ro .NotEq) neT:=.of Ht fun tx ty x y H Γ k Q rp ⟨d1,d2,z,g⟩ c=>
 ⟨dt tx,dt ty,uj rp.tail d1,uj rp d2,FX hr z,c _ _ _ g (bO rp.tail.tail fun _=>.bl)⟩
theorem F5{x:V}(rp:Rp K H ((t,some x)::Γ))(n:isV t=true):decide (x=.non)=ql t:=by obtain⟨Hz,L,r,g⟩:=eC rp (by cases t <;> first|rfl|cases n);cases r <;> first|rfl|cases n
theorem t7:OpP X (Ro .Is) Ke:=.of HL fun tx ty x y H Γ k Q rp g c=>by
 cases ty <;> first|exact QU g|skip
 refine⟨uY rp,?_⟩;rw[F5 rp.tail g.1];exact c _ _ _ g.2 (bO rp.tail.tail fun _=>.bl)
end
open PySem PySem.Spec PyProof.Rows L2
noncomputable def xu:T->Option Key
 | .int i=>some (.inl i)
 | .str x=>some (.inr x)
 | .non=>some (.inr none)
 | _=>none
noncomputable def oQ:List T->Option (List Key)
 | []=>some []
 |t::r=>match xu t,oQ r with
  |some k,some ks=>some (k::ks)
  | _,_=>none
section
variable{κ:Type}[DecidableEq κ]
noncomputable def D3(kvs:List (κ×T))(k:κ):Option T:=(kvs.find? fun kv=>decide (kv.1=k)).map (·.2)
noncomputable def lN(kvs:List (κ×T))(k:κ)(v:T):List (κ×T):=
 if(kvs.any fun kv=>decide (kv.1=k))=true then kvs.map (fun kv=>if kv.1=k then(kv.1,v)else kv)else kvs++[(k,v)]
theorem nG:∀{ts:List (κ×T)}{vs:List (κ×V)}{q:κ}{u:T},ts.map (·.1)=vs.map (·.1)->D3 ts q=some u->∃(w:V) (i:Nat),dQ vs q=some w/\(ts.map (·.2))[i]?=some u/\(vs.map (·.2))[i]?=some w
 | [],vs,q,u,e,h=>by cases h
 | (k,t)::ts,[],q,u,e,h=>by cases e
 | (k,t)::ts,(k',v)::vs,q,u,e,h=>by
  rw[g_,g_,MO]at e;have e0:k=k':=e.1;subst e0;unfold D3 at h;rw[My]at h;unfold dQ;rw[My];by_cases hk:k=q
  ·have hk':decide (k=q)=true:=decide_eq_true hk;rw[show decide ((k,t).1=q)=true from hk']at h;rw[show decide ((k,v).1=q)=true from hk'];cases h;exact⟨v,0,rfl,rfl,rfl⟩
  have hk':decide (k=q)=false:=decide_eq_false hk;rw[show decide ((k,t).1=q)=false from hk']at h;rw[show decide ((k,v).1=q)=false from hk'];obtain⟨w,i,h1,h2,h3⟩:=nG (ts:=ts) (vs:=vs) e.2 h;exact⟨w,i+1,h1,by simpa using h2,by simpa using h3⟩
end
section
variable{K:Qz}{H:Hp}{Γ:Fm}
theorem Cn{ts:List (Key×T)}(h:Rp K H ((.dK o ts,some y)::Γ)):∃a vs,y=.ref a/\Rd H a (.dK vs)/\ts.map (·.1)=vs.map (·.1)/\Rp K H (zz (ts.map (·.2)) (vs.map (·.2))++Γ):=by
 obtain⟨Hz,N,h,nd,g,d⟩:=h;cases h with
 |cons e1 h c=>
  rcases h with⟨z,_⟩|⟨v,e2,h⟩
  ·cases z
  cases e2;cases h
  ·rename_i a vs L h c1;obtain⟨ek,c2⟩:=c1.toL;rw[e1,Mj,G_]at nd;exact⟨a,vs,rfl,.inl h,ek,Hz,_,c2.toL.app c,nd.2,g,fun b m=>d b (by rw[e1,Mj];exact k_ _ m)⟩
  rename_i a vs h c1;obtain⟨ek,c2⟩:=c1.toL;exact⟨a,vs,rfl,g _ _ h,ek,Hz,_,c2.toL.app c,by rw[<-e1];exact nd,g,fun b m=>d b (by rw[e1];exact m)⟩
theorem tP{ts:List (List Key×T)}(h:Rp K H ((.dT o ts,some y)::Γ)):∃a vs,y=.ref a/\Rd H a (.dT vs)/\ts.map (·.1)=vs.map (·.1)/\Rp K H (zz (ts.map (·.2)) (vs.map (·.2))++Γ):=by
 obtain⟨Hz,N,h,nd,g,d⟩:=h;cases h with
 |cons e1 h c=>
  rcases h with⟨z,_⟩|⟨v,e2,h⟩
  ·cases z
  cases e2;cases h
  ·rename_i a vs L h c1;obtain⟨ek,c2⟩:=c1.toL;rw[e1,Mj,G_]at nd;exact⟨a,vs,rfl,.inl h,ek,Hz,_,c2.toL.app c,nd.2,g,fun b m=>d b (by rw[e1,Mj];exact k_ _ m)⟩
  rename_i a vs h c1;obtain⟨ek,c2⟩:=c1.toL;exact⟨a,vs,rfl,g _ _ h,ek,Hz,_,c2.toL.app c,by rw[<-e1];exact nd,g,fun b m=>d b (by rw[e1];exact m)⟩
theorem zP{k:Key}(e:xu t=some k)(h:Rp K H ((t,some y)::Γ)):y=kV k:=by
 cases t <;> cases e
 ·rw[uY h];rfl
 ·rw[aN h];rfl
 rw[kh h];rfl
theorem CL{k:Key}(e:xu t=some k)(h:RepT K Hz H t v L):v=kV k:=by
 cases t <;> cases e
 ·cases h;rfl
 ·cases h;rfl
 cases h;rfl
theorem rG{Hz:Hp}:∀{ts:List T}{ks:List Key}{vs:List V}{L:List QA},oQ ts=some ks->RepTs K Hz H ts vs L->vs=ks.map kV
 | [],ks,_,_,e,r=>by cases r;cases e;rfl
 |t::ts,ks,_,_,e,r=>by
  cases r with
  |cons _ h c=>
   rw[oQ]at e;split at e
   ·rename_i k r e1 e2;cases e;rw[CL e1 h,rG e2 c]
    rfl
   cases e
theorem yY{ks:List Key}(e:oQ ts=some ks)(h:Rp K H ((.tup ts,some y)::Γ)):∃b,y=.ref b/\H b=some (.tup (ks.map kV)):=by
 obtain⟨Hz,L,r,g⟩:=eC h rfl;cases r with
 |tup h1 c1=>exact⟨_,rfl,by rw[h1,rG e c1]⟩
end
noncomputable def ixT:P2
 | .tup ts,.int i,k=>got (atI ts i) k
 | .cst ts,.int i,k=>got (atI ts i) k
 | .lst _ ts,.int i,k=>got (atI ts i) k
 | .str x,.int i,k=>x.length<=sizeLine/\got (atI x.cps.toList i) fun c=>k (.str ⟨#[c]⟩)
 | .dK _ kvs,y,k=>got (xu y) fun q=>got (D3 kvs q) k
 | .dT _ kvs,.tup ts,k=>got (oQ ts) fun q=>got (D3 kvs q) k
 | _,_,_=>False
variable {kr:Nat}{pos:Pos}
section
variable{X:Cx}
theorem zi(hu:X.A.units+1<cLine):IxR X (fun x y H Q=>∃a v,x=.ref a/\oO H a y (some v)/\Q v H):=by
 intro value slice pins s σ H x y v u Q I rx ry h hs;obtain⟨a,z,rfl,g,q⟩:=h;cases rx;have hT:=oq I g;unfold Tp;refine Qx ?_;rw[US hT.not_modules];refine Qx (UD hT Ug.lookup ?_);have fin:QG (QM X.prog X.w) X.A (T3 slice false (.ref a) u) (fun r s₃=>QG (QM X.prog X.w) X.A (Wq value (.ref a) r >>= fun _=>pure r) (EP X pins σ Q) X.xe s₃) X.xe s:=by rw[hs];refine V6 (rQ hu I g ry fun w' s' I' r'=>Qx (U6 (QC ⟨z,H,I',r',q⟩)))
 first
  |exact QC (Qx fin)
  |exact Qx (QC (Qx fin))
  |exact Qx fin
theorem Lb(hr:Room kr X.A):IxR X (w2 X.K ixT):=by
 rintro value slice pins s σ H x y v u Q I rx ry ⟨tx,ty,Γ,k,rp,g,c⟩ hs;have sq:∀ts i,items tx=some ts->ty=.int i->got (atI ts i) k->QG (QM X.prog X.w) X.A (Tp value slice v u) (EP X pins σ Q) X.xe s:=fun ts i e1 e2 g=>by obtain⟨t,et,kt⟩:=aI g;subst e2;rw[aN rp]at ry;obtain⟨a,vs,rfl,hq,l,rp2⟩:=aF e1 rp.tail;obtain⟨w,ew,rp3⟩:=Bg l et rp2;exact L9 value slice pins s σ H _ _ v u Q I rx ry ⟨_,a,vs,i,w,rfl,rfl,hq,ew,c _ _ _ kt rp3⟩ hs
 cases tx with
 |tup ts=>cases ty <;> first|exact QU g|exact sq _ _ rfl rfl g
 |cst ts=>cases ty <;> first|exact QU g|exact sq _ _ rfl rfl g
 |lst o ts=>cases ty <;> first|exact QU g|exact sq _ _ rfl rfl g
 |str z=>
  cases ty <;> first|exact QU g|skip
  rename_i i;obtain⟨hz,g⟩:=g;obtain⟨t,et,kt⟩:=aI g;rw[aN rp]at ry;rw[kh rp.tail]at rx;exact BI value slice pins s σ H _ _ v u Q I rx ry ⟨z,i,t,rfl,rfl,hz,et,c _ _ _ kt (bO rp.tail.tail fun _=>.str)⟩ hs
 |dK o kvs=>
  have g:got (xu ty) fun q=>got (D3 kvs q) k:=by cases ty <;> exact g
  obtain⟨q,eq,g⟩:=aI g;obtain⟨t,et,kt⟩:=aI g;rw[zP eq rp]at ry;obtain⟨a,vs,rfl,hq,ek,rp2⟩:=Cn rp.tail;obtain⟨w,i,ew,e1,e2⟩:=nG ek et;exact zi (sE hr) value slice pins s σ H _ _ v u Q I rx ry ⟨a,w,rfl,.inl ⟨vs,q,hq,rfl,ew.symm⟩,c _ _ _ kt (i7 rp2 e1 e2)⟩ hs
 |dT o kvs=>
  cases ty <;> first|exact QU g|skip
  rename_i ts;obtain⟨q,eq,g⟩:=aI g;obtain⟨t,et,kt⟩:=aI g;obtain⟨b,rfl,hb⟩:=yY eq rp;obtain⟨a,vs,rfl,hq,ek,rp2⟩:=tP rp.tail;obtain⟨w,i,ew,e1,e2⟩:=nG ek et;exact zi (sE hr) value slice pins s σ H _ _ v u Q I rx ry ⟨a,w,rfl,.inr ⟨vs,q,b,hq,rfl,hb,ew.symm⟩,c _ _ _ kt (i7 rp2 e1 e2)⟩ hs
 | _=>cases ty <;> exact QU g
theorem ay{kr:Nat}{a b:QQ}{fa fb:PF}{pos:Pos}(hr:Room kr X.A)(ha:GE X a fa)(hb:GE X b fb)(hs:yO b:=by intro _ _;rfl):GE X (.Subscript a b pos) (Aq ixT fa fb):=PE.imp (Ge (Lb hr) ha hb hs) zl
noncomputable def fUn(g:T->(T->Prop)->Prop)(fa:PF):PF:=fun env k=>fa env fun t env1=>g t fun u=>k u env1
noncomputable def JF:T->(T->Prop)->Prop
 | .int i,k=>k (.int (-i))
 | _,_=>False
theorem bC{a:QQ}(ha:GE X a fa):GE X (.UnaryOp .USub a pos) (fUn JF fa):=by
 refine PE.imp (JA HJ ha) ?_;rintro σ H Q ⟨env,Fr,k,rs,q,c⟩;refine⟨env,Fr,_,rs,q,fun t env1 v H1 q1 rs1=>?_⟩;cases t <;> first|exact QU q1|skip
 rename_i i;exact⟨i,aN rs1.head,c _ _ _ _ q1 (eG rs1.drop fun _=>.int)⟩
end
open PySem PySem.Spec PyProof.Rows L2
abbrev P1s:=List T->(T->Prop)->Prop
noncomputable def w1s(K:Qz)(g:P1s):List V->Hp->VK->Prop:=fun xs H Q=>∃ts Γ k,ts.length=xs.length/\Rp K H (zz ts xs++Γ)/\g ts k/\∀t v H',k t->Rp K H' ((t,some v)::Γ)->Q v H'
noncomputable def fT(X:Cx)(f:Qy)(g:P1s):Prop:=bG X f (w1s X.K g)
noncomputable def fCl(g:P1s)(fr:PFs):PF:=fun env k=>fr env fun ts env1=>g ts fun t=>k t env1
section
variable{X:Cx}{e:QQ}{es:List QQ}{fr:PFs}{pos p:Pos}{x:Str}{g:P1s}
theorem Gp:∀ σ H Q,wE X.K (fCl g fr) σ H Q->tCB (w1s X.K g) (wA X.K fr) σ H Q:=by rintro σ H Q ⟨env,Fr,k,rs,q,c⟩;refine⟨env,Fr,_,rs,q,fun ts env1 vs H1 q1 l rs1=>?_⟩;refine⟨ts,env1.zip σ++Fr,_,l,?_,q1,fun t v H' kt rp=>c _ _ _ _ kt (.of rs1.1 rp)⟩;refine rs1.2.perm ?_;rw[<-l_,<-l_];exact Mz.append_right _
theorem aq{id:String}(hc:fT X (.builtin id) g)(hg:Gl X x)(hm:X.mg x=none)(hv:R6 x=some (.builtin id))(ha:GA X (e::es) fr)(hn:x≠"__name__":=by decide)(hdb:(x ==("__debug__":Str))=false:=by decide)
  (he:QS (e::es) X.env=(false,Q9 e X.env)::QS es X.env:=by rfl) (hpl:(SM pos (QS es X.env)).any (·.1)=false:=by rfl):GE X (.Call (.Name x p) (e::es) [] pos) (fCl g fr):=PE.imp (pK hc hg hm hv ha hn hdb he hpl) Gp
theorem cN{id:String}(hc:fT X (.type id) g)(hg:Gl X x)(hm:X.mg x=none)(hv:R6 x=some (.type id))(ha:GA X (e::es) fr)(hn:x≠"__name__":=by decide)(hdb:(x ==("__debug__":Str))=false:=by decide)
  (he:QS (e::es) X.env=(false,Q9 e X.env)::QS es X.env:=by rfl) (hpl:(SM pos (QS es X.env)).any (·.1)=false:=by rfl):GE X (.Call (.Name x p) (e::es) [] pos) (fCl g fr):=PE.imp (sS hc hg hm hv ha hn hdb he hpl) Gp
end
variable {E Q:Qy->QB->Prop}{u:T}{w:QP}
section
variable{X:Cx}
theorem zz1(l:ts.length=xs.length)(e:ts=[t]):∃x,xs=[x]:=by
 subst e;rcases xs with _|⟨x,_|⟨y,xs⟩⟩
 ·cases l
 ·exact⟨x,rfl⟩
 cases l
theorem zz2(l:ts.length=xs.length)(e:ts=[t,u]):∃x y,xs=[x,y]:=by
 subst e;rcases xs with _|⟨x,xs⟩
 ·cases l
 obtain⟨y,rfl⟩:=zz1 (ts:=[u]) (MG l) rfl;exact⟨x,y,rfl⟩
theorem zz3{w:T}(l:ts.length=xs.length)(e:ts=[t,u,w]):∃x y z,xs=[x,y,z]:=by
 subst e;rcases xs with _|⟨x,xs⟩
 ·cases l
 obtain⟨y,z,rfl⟩:=zz2 (ts:=[u,w]) (MG l) rfl;exact⟨x,y,z,rfl⟩
theorem wX{prog:QL}(d:QA)(nd:(d == Rv)=false) :
  MeetsIn prog w (RM.«dict.__len__» ⟨[.ref d],[]⟩) (fun _ R s=>∃o es ep,s.heap.get? d=some o/\o.data=.dict es ep/\R (.ok (.ret (.int es.size s.toks))) {s with toks:=s.toks+1}):=
 .of_wp fun A R s ⟨o,es,ep,ho,hdat,q⟩=>by show QG _ _ (dictSize d >>= _) _ _ s;unfold dictSize;refine Qx (Qx (Td ho hdat (QC ?_)));show QG _ _ (WY d >>= _) _ _ s;exact Qx (wpAny_pendingCount_other nd (wpAny_ret_mkInt (by rw[Oh];exact q)))
theorem ES{prog:QL}{A:QY}{d:QA}{o:Obj}{es:Array SD}{ep:Nat}(nd:(d == Rv)=false)(ho:s.heap.get? d=some o)(hc:o.ExactDict)(hdat:o.data=.dict es ep)
  (fit:(es.size:Int)<2 ^ 63) (q:∀t tk,Q (.int es.size t) {s with toks:=tk}):QG (QM prog w) A (call (.builtin "len") [.ref d]) Q E s:=by
 have ty:s.TypeIs (.ref d) "dict":=⟨_,ho,hc.1⟩;refine S4 kind_len plain_len entry_len (args_len1 _) ?_;unfold RM.«len»;refine Qx (m:=oneArg "len" _) (QC ?_);refine Qx (m:=callSpecial? (.ref d) (Rw "__len__")) (Rf (name:=Rw "__len__") ty UY
  (call_meetsIn UY ty PySem.F.entry_dict_len (PySem.F.args_dict_len_1 _) (wX d nd) ⟨o,es,ep,ho,hdat,?_⟩))
 show QG _ _ _ _ _ {s with toks:=s.toks+1};refine Qx (Q2 (QC (Qx (UO ?_))));show QG _ _ (if((es.size:Nat):Int)<0 then _ else _) _ _ _;rw[if_neg (by lia)];show QG _ _ (if((es.size:Nat):Int)>=2 ^ 63 then _ else _) _ _ _;rw[if_neg (by lia)];exact Qx (Xp (QC ⟨_,rfl,q _ _⟩))
theorem Iy{σ:L2.St}{kvs:List (List Key×V)}(I:Inv X pins σ H s)(e:Rd H a (.dT kvs))(q:∀t s',Inv X pins σ H s'->Q (.int kvs.length t) s'):QG (QM X.prog X.w) X.A (call (.builtin "len") [.ref a]) Q E s:=by
 obtain⟨z,hd,xs,rel,o,es,ep,h1,h2,h3,h4,_⟩:=zS I.hok e;have hs:es.size=kvs.length:=by have:=congrArg Ox h4;rw[a_]at this;rw[<-gV,this];exact(RX rel).symm
 refine ES hd h1 h2 h3 (by rw[sizeLine_eq]at z;lia) fun t tk=>?_
 rw[hs];exact q _ _ (I.tok _)
noncomputable def B3:P1s
 | [t],k=>match t with
  | .str x=>x.length<=sizeLine/\k (.int x.length)
  | .dK _ kvs=>k (.int kvs.length)
  | .dT _ kvs=>k (.int kvs.length)
  |t=>got (items t) fun ts=>k (.int ts.length)
 | _,_=>False
theorem aV:fT X (.builtin "len") B3:=by
 rintro pins s σ H xs us Q I r ⟨ts,Γ,k,l,rp,g,c⟩
 match ts,l,g with
 | [t],l,g=>
  obtain⟨x,rfl⟩:=zz1 l rfl;have rp:Rp X.K H ((t,some x)::Γ):=rp;have sq:(got (items t) fun ts=>k (.int ts.length))->QG (QM X.prog X.w) X.A (call (.builtin "len") us) (EP X pins σ Q) X.xe s:=fun g=>by obtain⟨us',e,kt⟩:=aI g;obtain⟨a,vs,rfl,hq,l2,rp2⟩:=aF e rp;rw[l2]at kt;exact B7 pins s σ H _ us Q I r ⟨_,a,vs,rfl,hq,c _ _ _ kt (bO rp.tail fun _=>.int)⟩
  cases t with
  |str z=>
   rw[kh rp]at r;exact uq pins s σ H _ us Q I r ⟨z,rfl,g.1,c _ _ _ g.2 (bO rp.tail fun _=>.int)⟩
  |dK o kvs=>
   obtain⟨a,vs,rfl,hq,ek,rp2⟩:=Cn rp;obtain⟨u,rfl,ru⟩:=vals1 r;cases ru;have g:k (.int kvs.length):=g;rw[bY ek]at g;exact Jp I hq fun t s' I'=>⟨.int vs.length,H,I',⟨t,rfl⟩,c _ _ _ g (bO rp.tail fun _=>.int)⟩
  |dT o kvs=>
   obtain⟨a,vs,rfl,hq,ek,rp2⟩:=tP rp;obtain⟨u,rfl,ru⟩:=vals1 r;cases ru;have g:k (.int kvs.length):=g;rw[bY ek]at g;exact Iy I hq fun t s' I'=>⟨.int vs.length,H,I',⟨t,rfl⟩,c _ _ _ g (bO rp.tail fun _=>.int)⟩
  | _=>exact sq g
 | [],_,g=>exact QU g
 | _::_::_,_,g=>exact QU g
noncomputable def Kq:P1s
 | [.int i],k=>k (.int i.natAbs)
 | _,_=>False
theorem i9:fT X (.builtin "abs") Kq:=by
 rintro pins s σ H xs us Q I r ⟨ts,Γ,k,l,rp,g,c⟩;rcases ts with _|⟨t,_|⟨u,ts⟩⟩
 ·exact g.elim
 rotate_left
 ·cases t <;> exact g.elim
 cases t <;> try exact g.elim
 rename_i i;obtain⟨x,rfl⟩:=zz1 l rfl;have rp:Rp X.K H ((.int i,some x)::Γ):=rp;rw[aN rp]at r;refine D6 pins s σ H _ us Q I r ⟨i,rfl,?_⟩;have e:(if i<0 then -i else i)=(i.natAbs:Int):=by split <;> lia
 rw[e];exact c _ _ _ g (bO rp.tail fun _=>.int)
noncomputable def intsOf:List T->Option (List Int)
 | []=>some []
 | .int i::r=>match intsOf r with
  |some ns=>some (i::ns)
  |none=>none
 | _::_=>none
theorem xv(ns:List Int):intsOf (ns.map T.int)=some ns:=by
 induction ns with
 |nil=>rfl
 |cons n r ih=>rw[g_,intsOf,ih]
theorem cZ:∀{ts:List T}{ns:List Int},intsOf ts=some ns->ts=ns.map T.int
 | [],ns,e=>by cases e;rfl
 |t::ts,ns,e=>by
  cases t <;> first|cases e|skip
  rename_i i;rw[intsOf]at e;split at e
  ·rename_i ms em;cases e;rw[g_,cZ em]
  cases e
theorem dW{K:Qz}{H:Hp}{Γ:Fm}:∀{ns:List Int}{vs:List V},(ns.map T.int).length=vs.length->Rp K H (zz (ns.map T.int) vs++Γ)->vs=ns.map V.int
 | [],[],_,_=>rfl
 | [],_::_,l,_=>by simp at l
 | _::_,[],l,_=>by simp at l
 |n::ns,v::vs,l,h=>by
  have h:Rp K H ((.int n,some v)::(zz (ns.map T.int) vs++Γ)):=h;rw[aN h,dW (by simpa using l) h.tail]
  rfl
noncomputable def BM:P1s
 | [.int i,.int j],k=>k (.int (max i j))
 | [.int i,.int j,.int l],k=>k (.int (max (max i j) l))
 | [t],k=>got (items t) fun ts=>got (intsOf ts) fun ns=>ns≠[]/\∀r,fV ns r->k (.int r)
 | _,_=>False
noncomputable def Bn:P1s
 | [.int i,.int j],k=>k (.int (min i j))
 | [.int i,.int j,.int l],k=>k (.int (min (min i j) l))
 | [t],k=>got (items t) fun ts=>got (intsOf ts) fun ns=>ns≠[]/\∀r,fW ns r->k (.int r)
 | _,_=>False
theorem dI(hc:X.calm=true):fT X (.builtin "max") BM:=by
 rintro pins s σ H xs us Q I r ⟨ts,Γ,k,l,rp,g,c⟩;unfold BM at g;split at g
 ·rename_i k i j;obtain⟨x,y,rfl⟩:=zz2 l rfl;have rp:Rp X.K H ((.int i,some x)::(.int j,some y)::Γ):=rp;rw[aN rp,aN rp.tail]at r;refine As hc pins s σ H _ us Q I r ⟨i,j,rfl,?_⟩;have e:(if j > i then j else i)=max i j:=by split <;> lia
  rw[e];exact c _ _ _ g (bO rp.tail.tail fun _=>.int)
 ·rename_i k i j m;obtain⟨x,y,z,rfl⟩:=zz3 l rfl;have rp:Rp X.K H ((.int i,some x)::(.int j,some y)::(.int m,some z)::Γ):=rp;rw[aN rp,aN rp.tail,aN rp.tail.tail]at r;refine B5 hc pins s σ H _ us Q I r ⟨i,j,m,rfl,fun w h1 h2 h3 h4=>?_⟩;have e:w=max (max i j) m:=by lia
  rw[e];exact c _ _ _ g (bO rp.tail.tail.tail fun _=>.int)
 ·rename_i k t;obtain⟨x,rfl⟩:=zz1 l rfl;have rp:Rp X.K H ((t,some x)::Γ):=rp;obtain⟨us',e,g⟩:=aI g;obtain⟨ns,en,ne,kt⟩:=aI g;have:=cZ en;subst this;obtain⟨a,vs,rfl,hq,l2,rp2⟩:=aF e rp;have:=dW l2 rp2;subst this;revert hq;cases qR t with
  |true=>exact fun hq=>An hc pins s σ H _ us Q I r ⟨a,ns,rfl,hq,ne,fun w hw=>c _ _ _ (kt w hw) (bO rp.tail fun _=>.int)⟩
  |false=>exact fun hq=>AL hc pins s σ H _ us Q I r ⟨a,ns,rfl,hq,ne,fun w hw=>c _ _ _ (kt w hw) (bO rp.tail fun _=>.int)⟩
 exact QU g
theorem fD(hc:X.calm=true):fT X (.builtin "min") Bn:=by
 rintro pins s σ H xs us Q I r ⟨ts,Γ,k,l,rp,g,c⟩;unfold Bn at g;split at g
 ·rename_i k i j;obtain⟨x,y,rfl⟩:=zz2 l rfl;have rp:Rp X.K H ((.int i,some x)::(.int j,some y)::Γ):=rp;rw[aN rp,aN rp.tail]at r;refine Aw hc pins s σ H _ us Q I r ⟨i,j,rfl,?_⟩;have e:(if j<i then j else i)=min i j:=by split <;> lia
  rw[e];exact c _ _ _ g (bO rp.tail.tail fun _=>.int)
 ·rename_i k i j m;obtain⟨x,y,z,rfl⟩:=zz3 l rfl;have rp:Rp X.K H ((.int i,some x)::(.int j,some y)::(.int m,some z)::Γ):=rp;rw[aN rp,aN rp.tail,aN rp.tail.tail]at r;refine Ba hc pins s σ H _ us Q I r ⟨i,j,m,rfl,fun w h1 h2 h3 h4=>?_⟩;have e:w=min (min i j) m:=by lia
  rw[e];exact c _ _ _ g (bO rp.tail.tail.tail fun _=>.int)
 ·rename_i k t;obtain⟨x,rfl⟩:=zz1 l rfl;have rp:Rp X.K H ((t,some x)::Γ):=rp;obtain⟨us',e,g⟩:=aI g;obtain⟨ns,en,ne,kt⟩:=aI g;have:=cZ en;subst this;obtain⟨a,vs,rfl,hq,l2,rp2⟩:=aF e rp;have:=dW l2 rp2;subst this;revert hq;cases qR t with
  |true=>exact fun hq=>Ag hc pins s σ H _ us Q I r ⟨a,ns,rfl,hq,ne,fun w hw=>c _ _ _ (kt w hw) (bO rp.tail fun _=>.int)⟩
  |false=>exact fun hq=>B8 hc pins s σ H _ us Q I r ⟨a,ns,rfl,hq,ne,fun w hw=>c _ _ _ (kt w hw) (bO rp.tail fun _=>.int)⟩
 exact QU g
noncomputable def qc:P1s
 | [.tup ts],k=>k (.tup ts)
 | [.cst ts],k=>k (.cst ts)
 | [.lst _ ts],k=>k (.tup ts)
 | _,_=>False
theorem cv:fT X (.type "tuple") qc:=by
 rintro pins s σ H xs us Q I r ⟨ts,Γ,k,l,rp,g,c⟩;unfold qc at g;split at g
 ·rename_i k ts;obtain⟨x,rfl⟩:=zz1 l rfl;have rp:Rp X.K H ((.tup ts,some x)::Γ):=rp;obtain⟨a,vs,rfl,hq,l2,rp2⟩:=aF rfl rp;exact oz pins s σ H _ us Q I r ⟨a,vs,rfl,hq,c _ _ _ g rp⟩
 ·rename_i k ts;obtain⟨x,rfl⟩:=zz1 l rfl;have rp:Rp X.K H ((.cst ts,some x)::Γ):=rp;obtain⟨a,vs,rfl,hq,l2,rp2⟩:=aF rfl rp;exact oz pins s σ H _ us Q I r ⟨a,vs,rfl,hq,c _ _ _ g rp⟩
 ·rename_i k o ts;obtain⟨x,rfl⟩:=zz1 l rfl;have rp:Rp X.K H ((.lst o ts,some x)::Γ):=rp;obtain⟨a,vs,rfl,hq,l2,rp2⟩:=aF rfl rp;exact vm pins s σ H _ us Q I r ⟨a,vs,rfl,hq,fun p H' hp g' e'=>c _ _ _ g (eE rp2 l2 g' e')⟩
 exact QU g
noncomputable def boolsOf:List T->Option (List Bool)
 | []=>some []
 | .bl i::r=>match boolsOf r with
  |some ns=>some (i::ns)
  |none=>none
 | _::_=>none
theorem dU(ns:List Bool):boolsOf (ns.map T.bl)=some ns:=by
 induction ns with
 |nil=>rfl
 |cons n r ih=>rw[g_,boolsOf,ih]
theorem qy:∀{ts:List T}{ns:List Bool},boolsOf ts=some ns->ts=ns.map T.bl
 | [],ns,e=>by cases e;rfl
 |t::ts,ns,e=>by
  cases t <;> first|cases e|skip
  rename_i i;rw[boolsOf]at e;split at e
  ·rename_i ms em;cases e;rw[g_,qy em]
  cases e
theorem wN{K:Qz}{H:Hp}{Γ:Fm}:∀{ns:List Bool}{vs:List V},(ns.map T.bl).length=vs.length->Rp K H (zz (ns.map T.bl) vs++Γ)->vs=bools ns
 | [],[],_,_=>rfl
 | [],_::_,l,_=>by simp at l
 | _::_,[],l,_=>by simp at l
 |n::ns,v::vs,l,h=>by
  have h:Rp K H ((.bl n,some v)::(zz (ns.map T.bl) vs++Γ)):=h;rw[oj h,wN (by simpa using l) h.tail]
  rfl
noncomputable def IE:P1s
 | [.lst _ ts],k=>got (boolsOf ts) fun bs=>k (.bl (bs.all id))
 | _,_=>False
theorem jr(hc:X.calm=true):fT X (.builtin "all") IE:=by
 rintro pins s σ H xs us Q I r ⟨ts,Γ,k,l,rp,g,c⟩;unfold IE at g;split at g
 ·rename_i k o ts;obtain⟨x,rfl⟩:=zz1 l rfl;have rp:Rp X.K H ((.lst o ts,some x)::Γ):=rp;obtain⟨bs,e,kt⟩:=aI g;have:=qy e;subst this;obtain⟨a,vs,rfl,hq,l2,rp2⟩:=aF rfl rp;have:=wN l2 rp2;subst this;exact Dg hc pins s σ H _ us Q I r ⟨a,bs,rfl,hq,c _ _ _ kt (bO rp.tail fun _=>.bl)⟩
 exact QU g
abbrev PO':=Ev->(Option Int->Ev->Prop)->Prop
noncomputable def wO(K:Qz)(f:PO'):TO:=fun σ H Q=>∃env Fr k,Rs K H env σ Fr/\f env k/\∀o env' H',k o env'->Rs K H' env' σ Fr->Q o H'
noncomputable def GO(X:Cx)(e:Option QQ)(f:PO'):Prop:=PO X e (wO X.K f)
noncomputable def Jk:PO':=fun env k=>k none env
noncomputable def Kf(f:PF):PO':=fun env k=>f env fun t env1=>match t with
 | .int i=>k (some i) env1
 | _=>False
theorem ui:GO X none Jk:=by rintro pins s σ H Q I ⟨env,Fr,k,rs,q,c⟩;exact yA pins s σ H Q I (c _ _ _ q rs)
theorem uI{f:PF}(h:GE X e f):GO X (some e) (Kf f):=by
 rintro pins s σ H Q I ⟨env,Fr,k,rs,q,c⟩;refine yx h pins s σ H Q I ⟨env,Fr,_,rs,q,fun t env1 v H1 q1 rs1=>?_⟩;cases t <;> first|exact QU q1|skip
 exact⟨_,aN rs1.head,c _ _ _ q1 rs1.drop⟩
noncomputable def kM(ts:List T)(lo hi:Option Int):List T:=(ts.drop (HT.sIx ts.length 0 lo)).take (HT.sIx ts.length ts.length hi-HT.sIx ts.length 0 lo)
noncomputable def slT:T->Option Int->Option Int->(T->Prop)->Prop
 | .lst _ ts,lo,hi,k=>k (.lst true (kM ts lo hi))
 | .tup ts,lo,hi,k=>¬(HT.sIx ts.length 0 lo=0/\HT.sIx ts.length ts.length hi=ts.length)/\k (.tup (kM ts lo hi))
 | .cst ts,lo,hi,k=>¬(HT.sIx ts.length 0 lo=0/\HT.sIx ts.length ts.length hi=ts.length)/\k (.tup (kM ts lo hi))
 | _,_,_,_=>False
theorem yD:∀(ts:List T) (vs:List V) (n:Nat),zz (ts.drop n) (vs.drop n)=(zz ts vs).drop n
 |ts,vs,0=>rfl
 | [],vs,n+1=>by simp[zz]
 |t::ts,[],n+1=>by simp[zz]
 |t::ts,v::vs,n+1=>by show zz (ts.drop n) (vs.drop n)=(zz ts vs).drop n;exact yD ts vs n
theorem yw:∀(ts:List T) (vs:List V) (n:Nat),zz (ts.take n) (vs.take n)=(zz ts vs).take n
 |ts,vs,0=>by simp[zz]
 | [],vs,n+1=>by simp[zz]
 |t::ts,[],n+1=>by simp[zz]
 |t::ts,v::vs,n+1=>by show(t,some v)::zz (ts.take n) (vs.take n)=(t,some v)::(zz ts vs).take n;rw[yw ts vs n]
theorem xF(l:ts.length=vs.length)(lo hi:Option Int)(h:Rp K H (zz ts vs++Γ)):Rp K H (zz (kM ts lo hi) (gH vs lo hi)++Γ)/\(kM ts lo hi).length=(gH vs lo hi).length:=by
 unfold kM gH;rw[<-l];refine⟨?_,?_⟩
 ·rw[yw,yD];have e1:=F' (HT.sIx ts.length 0 lo) (zz ts vs);have e2:=F' (HT.sIx ts.length ts.length hi-HT.sIx ts.length 0 lo) ((zz ts vs).drop (HT.sIx ts.length 0 lo));have h2:Rp K H ((zz ts vs).drop (HT.sIx ts.length 0 lo)++Γ):=by rw[<-e1,l_]at h;exact h.part
  rw[<-e2,l_]at h2;have h3:=h2.perm (B_ _ _ _);exact h3.part
 rw[D_,D_,H_,H_,l]
noncomputable def fSl(fa:PF)(fl fh:PO'):PF:=fun env k=>fa env fun t env1=>fl env1 fun lo env2=>fh env2 fun hi env3=>slT t lo hi fun u=>k u env3
theorem pM{lo hi:Option QQ}{fl fh:PO'}{p2:Pos}(he:GE X e fa)(hl:GO X lo fl)(hh:GO X hi fh):GE X (.Subscript e (.Slice lo hi none p2) pos) (fSl fa fl fh):=by
 have sl:SlR X (fun x lo hi H Q=>∃t Γ k,Rp X.K H ((t,some x)::Γ)/\slT t lo hi k/\∀u v H',k u->Rp X.K H' ((u,some v)::Γ)->Q v H'):=by
  rintro pins s σ H x v vl vu lo hi sl Q I rx hs pl pu ⟨t,Γ,k,rp,g,c⟩;cases t with
  |lst o ts=>
   obtain⟨a,vs,rfl,hq,l,rp2⟩:=aF rfl rp;obtain⟨rp3,l3⟩:=xF l lo hi rp2;exact BH pins s σ H _ v vl vu lo hi sl Q I rx hs pl pu ⟨a,vs,rfl,hq,fun p H' hp g' e=>c _ _ _ g (fP rp3 l3 hp g' e)⟩
  |tup ts=>
   obtain⟨a,vs,rfl,hq,l,rp2⟩:=aF rfl rp;obtain⟨rp3,l3⟩:=xF l lo hi rp2;exact yK pins s σ H _ v vl vu lo hi sl Q I rx hs pl pu ⟨a,vs,rfl,hq,by rw[<-l];exact g.1,fun p H' hp g' e=>c _ _ _ g.2 (eE rp3 l3 g' e)⟩
  |cst ts=>
   obtain⟨a,vs,rfl,hq,l,rp2⟩:=aF rfl rp;obtain⟨rp3,l3⟩:=xF l lo hi rp2;exact yK pins s σ H _ v vl vu lo hi sl Q I rx hs pl pu ⟨a,vs,rfl,hq,by rw[<-l];exact g.1,fun p H' hp g' e=>c _ _ _ g.2 (eE rp3 l3 g' e)⟩
  | _=>exact QU g
 refine PE.imp (wK sl he hl hh) ?_;rintro σ H Q ⟨env,Fr,k,rs,q,c⟩;refine⟨env,Fr,_,rs,q,fun t env1 v H1 q1 rs1=>⟨env1,_,_,rs1,q1,fun lo env2 H2 q2 rs2=>⟨env2,_,_,rs2,q2,fun hi env3 H3 q3 rs3=>?_⟩⟩⟩;exact⟨t,_,_,rs3.head,q3,fun u w H' ku rp=>c _ _ _ _ ku (.of rs3.1 rp)⟩
end
open PySem PySem.Spec PyProof.Rows L2
inductive Arg where
 |val (t:T)|bor (i:Nat)
noncomputable def pZ:Arg->T
 | .val t=>t
 | .bor _=>.any
noncomputable def lend:List Arg->Ev->List T×Ev
 | [],env=>([],env)
 | .val t::r,env=>(t::(lend r env).1,(lend r env).2)
 | .bor i::r,env=>match env[i]? with
  |some t=>(t::(lend r (env.set i .any)).1,(lend r (env.set i .any)).2)
  |none=>(.any::(lend r env).1,(lend r env).2)
noncomputable def back:List Arg->List T->Ev->Ev
 | .bor i::r,t::ts,env=>back r ts (env.set i t)
 | .val _::r,_::ts,env=>back r ts env
 | _,_,env=>env
noncomputable def lF:List Arg->List (Option V)->L2.St->Prop
 | [],[],_=>True
 | .val _::r,_::xs,σ=>lF r xs σ
 | .bor i::r,x::xs,σ=>(σ[i]?=some x\/σ.length<=i)/\lF r xs σ
 | _,_,_=>False
section
variable{K:Qz}{H:Hp}{σ:L2.St}
theorem kK:∀{as:List Arg}{xs:List (Option V)}{env:Ev}{Fr:Fm},lF as xs σ->Rs K H env σ ((as.map pZ).zip xs++Fr)->Rs K H (lend as env).2 σ ((lend as env).1.zip xs++Fr)
 | [],[],env,Fr,_,h=>h
 | [],_::_,env,Fr,o,_=>o.elim
 | .val t::r,[],env,Fr,o,_=>o.elim
 | .bor i::r,[],env,Fr,o,_=>o.elim
 | .val t::r,x::xs,env,Fr,o,h=>by have h:Rs K H env σ ((t,x)::((r.map pZ).zip xs++Fr)):=h;have h2:Rs K H env σ ((r.map pZ).zip xs++((t,x)::Fr)):=h.perm j_.symm;exact(kK (as:=r) o h2).perm j_
 | .bor i::r,x::xs,env,Fr,o,h=>by
  have h:Rs K H env σ ((.any,x)::((r.map pZ).zip xs++Fr)):=h;have h:=h.drop;rw[lend];split
  ·rename_i t e;obtain⟨y,ey,h2⟩:=h.slot e;have o1:σ[i]?=some x:=by
    rcases o.1 with z|z
    ·exact z
    have:=(f_.mp ey).1;lia
   rw[o1]at ey;cases ey;have h3:Rs K H (env.set i .any) σ ((r.map pZ).zip xs++((t,x)::Fr)):=h2.perm j_.symm;exact(kK (as:=r) o.2 h3).perm j_
  have h3:Rs K H env σ ((r.map pZ).zip xs++((.any,x)::Fr)):=(Rs.of h.1 (gy (x:=x) h.2)).perm j_.symm;exact(kK (as:=r) o.2 h3).perm j_
theorem lI:∀{as:List Arg}{xs:List (Option V)}{ts:List T}{env:Ev}{Fr:Fm},lF as xs σ->Rs K H env σ (ts.zip xs++Fr)->Rs K H (back as ts env) σ Fr
 | [],xs,ts,env,Fr,_,h=>by
  have:back [] ts env=env:=by cases ts <;> rfl
  rw[this];exact⟨h.1,(h.2.perm (B_ _ _ _)).part⟩
 |a::r,xs,[],env,Fr,_,h=>by
  have:back (a::r) [] env=env:=by cases a <;> rfl
  rw[this];exact h
 | .val t::r,[],u::ts,env,Fr,o,_=>o.elim
 | .bor i::r,[],u::ts,env,Fr,o,_=>o.elim
 | .val t::r,x::xs,u::ts,env,Fr,o,h=>by have h:Rs K H env σ ((u,x)::(ts.zip xs++Fr)):=h;exact lI (as:=r) o h.drop
 | .bor i::r,x::xs,u::ts,env,Fr,o,h=>by
  have h:Rs K H env σ ((u,x)::(ts.zip xs++Fr)):=h;rw[back];by_cases hi:i<env.length
  ·have o1:σ[i]?=some x:=by
    rcases o.1 with z|z
    ·exact z
    have:=h.1;lia
   exact lI (as:=r) o.2 (h.o7 hi o1)
  have e:env.set i u=env:=NT (by lia);rw[e];exact lI (as:=r) o.2 h.drop
theorem Rs.put (h:Rs K H env σ ((t,some v)::Fr)):Rs K H (env.set i t) (σ.set i (some v)) Fr:=by
 by_cases hi:i<env.length
 ·exact h.store hi
 rw[NT (by lia),NT (by rw[<-h.1];lia)];exact h.drop
end
abbrev PAs:=Ev->(List Arg->Ev->Prop)->Prop
noncomputable def wR(K:Qz)(f:PAs):TA:=fun σ H Q=>∃env Fr k,Rs K H env σ Fr/\f env k/\∀as env' vs H',k as env'->as.length=vs.length->lF as (vs.map some) σ->Rs K H' env' σ ((as.map pZ).zip (vs.map some)++Fr)->Q vs H'
noncomputable def GR(X:Cx)(es:List QQ)(f:PAs):Prop:=PA X es (wR X.K f)
noncomputable def Jh:PAs:=fun env k=>k [] env
noncomputable def Jm(f:PF)(r:PAs):PAs:=fun env k=>f env fun t env1=>r env1 fun as env2=>k (.val t::as) env2
noncomputable def J2(i:Nat)(r:PAs):PAs:=fun env k=>(match env[i]? with
 |some t=>isAny t=false
 |none=>False)/\r env fun as env2=>k (.bor i::as) env2
section
variable{X:Cx}{e:QQ}{es:List QQ}{f:PF}{fr:PAs}
theorem av:GR X [] Jh:=PA.imp jY (by rintro σ H Q ⟨env,Fr,k,rs,q,c⟩;exact c [] env [] H q rfl trivial rs)
theorem ah(he:GE X e f)(hr:GR X es fr)(hs:QS (e::es) X.env=(false,Q9 e X.env)::QS es X.env:=by rfl):GR X (e::es) (Jm f fr):=by refine PA.imp (eA he hr hs) ?_;rintro σ H Q ⟨env,Fr,k,rs,q,c⟩;refine⟨env,Fr,_,rs,q,fun t env1 v H1 q1 rs1=>⟨env1,_,_,rs1,q1,fun as env2 vs H2 q2 l ao rs2=>c _ _ _ _ q2 (by rw[h_,h_,l]) ao ?_⟩⟩;exact rs2.perm j_
theorem aU(i:Nat){x:Str}(hr:GR X es fr)(hN:X.N[i]?=some x:=by rfl)(hv:Vis X.env.scope x:=by first|exact e_ rfl|exact s_ (e_ rfl)|exact s_ (s_ rfl))(hd:(x ==("__debug__":Str))=false:=by decide)(hcd:(x ==("__classdict__":Str))=false:=by decide)
  (hs:QS (.Name x pos::es) X.env=(false,Q9 (.Name x pos) X.env)::QS es X.env:=by rfl):GR X (.Name x pos::es) (J2 i fr):=by
 refine PA.imp (eA (fZ hN hv hd hcd) hr hs) ?_;rintro σ H Q ⟨env,Fr,k,rs,⟨na,q⟩,c⟩;split at na
 ·rename_i t e;obtain⟨y,ey,rs2⟩:=rs.slot e;obtain⟨v,rfl⟩:=dM rs2 na;refine⟨v,ey,env,Fr,_,rs,q,fun as env2 vs H2 q2 l ao rs2=>c _ _ _ _ q2 (by rw[h_,h_,l]) ⟨.inl ey,ao⟩ ?_⟩;exact .of rs2.1 (gy rs2.2)
 exact na.elim
end
abbrev FP:=List T->(T->List T->Prop)->Prop
noncomputable def aG(K:Qz)(n:Nat)(P:FP):Sp:=fun vs H Q _=>∃ts Fr k,ts.length=vs.length/\vs.length=n/\Rp K H (zz ts vs++Fr)/\P ts k/\∀t ts' v H',k t ts'->Rp K H' ((t,some v)::(zz ts' vs++Fr))->Q v H'
noncomputable def JC(P:FP)(ts:List T)(k:T->List T->Prop):Prop:=P ts k
noncomputable def Ik(n:Nat)(P:FP)(fr:PAs):PF:=fun env k=>fr env fun as env1=>as.length=n/\JC P (lend as env1).1 fun t ts'=>k t (back as ts' (lend as env1).2)
variable {P:FP}{ps:List Str}
section
variable{X:Cx}
theorem gP:∀(as:List Arg) (env:Ev),(lend as env).1.length=as.length
 | [],env=>rfl
 | .val t::r,env=>by rw[lend,h_,h_,gP r]
 | .bor i::r,env=>by
  rw[lend];split
  ·rw[h_,h_,gP r]
  rw[h_,h_,gP r]
theorem FA{fr:PAs}:∀ σ H Q,wE X.K (Ik n P fr) σ H Q->DJ (aG X.K n P) [] E0 (wR X.K fr) σ H Q:=by
 rintro σ H Q ⟨env,Fr,k,rs,q,c⟩;refine⟨env,Fr,_,rs,q,fun as env1 vs H1 ⟨hn,q1⟩ l ao rs1=>?_⟩;show aG X.K n P (vs++[]) H1 Q E0;rw[E_];have rs2:=kK ao rs1;refine⟨(lend as env1).1,(lend as env1).2.zip σ++Fr,_,by rw[gP,l],by rw[<-l];exact hn,?_,q1,fun t ts' v H' kt rp=>c _ _ _ _ kt ?_⟩
 ·exact rs2.2.perm (B_ _ _ _)
 have h3:Rs X.K H' (lend as env1).2 σ (zz ts' vs++((t,some v)::Fr)):=⟨rs2.1,rp.perm (by refine C' ?_ (B_ _ _ _);refine C' j_.symm ?_;exact Mc _ j_.symm)⟩
 exact lI ao h3
theorem au{k:Nat}{x:Str}{fr:PAs}{p:Pos}(D:Cal X.prog X.w X.K X.mg X.base j x ps (aG X.K n P))(hr:Room k X.A)(hg:Gl X x)(ha:GR X (e::es) fr)(hjk:j<=k:=by omega)(hdb:(x ==("__debug__":Str))=false:=by decide)
  (he:QS (e::es) X.env=(false,Q9 e X.env)::QS es X.env:=by rfl) (hpl:(SM pos (QS es X.env)).any (·.1)=false:=by rfl):GE X (.Call (.Name x p) (e::es) [] pos) (Ik n P fr):=PE.imp (J4 D hr hg ha hjk hdb he hpl) FA
end
structure PEn where
 nx:Ev->Prop
 rt:T->Ev->Prop
 bk:Ev->Prop:=fun _=>False
 ct:Ev->Prop:=fun _=>False
abbrev PSt:=PEn->Ev->Prop
noncomputable def Kept(κ:Nat->Bool)(σ σ':L2.St):Prop:=σ'.length=σ.length/\∀j,κ j=true->σ'[j]?=σ[j]?
variable {κ:Nat->Bool}
theorem Kept.refl {σ:L2.St}:Kept κ σ σ:=⟨rfl,fun _ _=>rfl⟩
variable {σ':L2.St}
theorem Kept.trans {σ σ'':L2.St}(a:Kept κ σ σ')(b:Kept κ σ' σ''):Kept κ σ σ'':=⟨b.1.trans a.1,fun j h=>(b.2 j h).trans (a.2 j h)⟩
theorem Kept.set {σ:L2.St}(h:κ i=false):Kept κ σ (σ.set i x):=⟨LO,fun j hj=>by
 by_cases e:i=j
 ·subst e;rw[h]at hj;cases hj
 rw[Ob e]⟩
structure EndOk (K:Qz) (κ:Nat->Bool) (σ:L2.St) (Fr:Fm) (pe:PEn) (D:Ends):Prop where
 nx:∀env' σ' H',pe.nx env'->Rs K H' env' σ' Fr->Kept κ σ σ'->D.nx σ' H'
 rt:∀t env' v σ' H',pe.rt t env'->Rs K H' env' σ' ((t,some v)::Fr)->Kept κ σ σ'->D.rt v H'
 bk:∀env' σ' H',pe.bk env'->Rs K H' env' σ' Fr->Kept κ σ σ'->D.bk σ' H'
 ct:∀env' σ' H',pe.ct env'->Rs K H' env' σ' Fr->Kept κ σ σ'->D.ct σ' H'
variable {pe:PEn}
theorem EndOk.later {σ:L2.St}{D:Ends}(h:EndOk K κ σ Fr pe D)(k:Kept κ σ σ'):EndOk K κ σ' Fr pe D:=
 ⟨fun a b c p q r=>h.nx a b c p q (k.trans r),fun a b c d e p q r=>h.rt a b c d e p q (k.trans r),fun a b c p q r=>h.bk a b c p q (k.trans r),fun a b c p q r=>h.ct a b c p q (k.trans r)⟩
noncomputable def wS(K:Qz)(κ:Nat->Bool)(f:PSt):TS:=fun D σ H=>∃env Fr pe,Rs K H env σ Fr/\f pe env/\EndOk K κ σ Fr pe D
noncomputable def GS(κ:Nat->Bool)(X:Cx)(st:Q6)(f:PSt):Prop:=PS X st (wS X.K κ f)
noncomputable def GSs(κ:Nat->Bool)(X:Cx)(sts:List Q6)(f:PSt):Prop:=PSs X sts (wS X.K κ f)
variable {st:Q6}
theorem PS.imp {t t':TS}(h:PS X st t)(k:∀D σ H,t' D σ H->t D σ H):PS X st t':=fun pins s σ H D I q=>h pins s σ H D I (k _ _ _ q)
theorem PSs.imp {st:List Q6}{t t':TS}(h:PSs X st t)(k:∀D σ H,t' D σ H->t D σ H):PSs X st t':=fun pins s σ H D I q=>h pins s σ H D I (k _ _ _ q)
noncomputable def G9:PSt:=fun pe env=>pe.nx env
noncomputable def JR(f g:PSt):PSt:=fun pe env=>f {pe with nx:=g pe} env
variable {c:QQ}{tc:PB}
section
variable{X:Cx}{κ:Nat->Bool}{pos:Pos}{st:Q6}{rest:List Q6}{f g:PSt}{e:QQ}{fe:PF}
theorem aM:GSs κ X [] G9:=PSs.imp tG (by rintro D σ H ⟨env,Fr,pe,rs,q,c⟩;exact c.nx _ _ _ q rs .refl)
theorem ag(h1:GS κ X st f)(h2:GSs κ X rest g):GSs κ X (st::rest) (JR f g):=by refine PSs.imp (bN h1 h2) ?_;rintro D σ H ⟨env,Fr,pe,rs,q,c⟩;refine⟨env,Fr,_,rs,q,⟨fun env' σ' H' q1 rs1 k1=>⟨env',Fr,pe,rs1,q1,c.later k1⟩,c.rt,c.bk,c.ct⟩⟩
theorem ai(h1:GS κ X st f):GSs κ X [st] f:=kN h1
noncomputable def Gh(fe:PF):PSt:=fun pe env=>fe env fun _ env1=>pe.nx env1
theorem bJ(he:GE X e fe)(hs:Tt e none pos.line X.env=pure false:=by rfl):GS κ X (.Expr e pos) (Gh fe):=by refine PS.imp (DO he hs) ?_;rintro D σ H ⟨env,Fr,pe,rs,q,c⟩;exact⟨env,Fr,_,rs,q,fun t env' v H' q1 rs1=>c.nx _ _ _ q1 rs1.drop .refl⟩
noncomputable def JT(fe:PF):PSt:=fun pe env=>fe env fun t env1=>pe.rt t env1
theorem aE(he:GE X e fe):GS κ X (.Return (some e) pos) (JT fe):=by refine PS.imp (tS he) ?_;rintro D σ H ⟨env,Fr,pe,rs,q,c⟩;exact⟨env,Fr,_,rs,q,fun t env' v H' q1 rs1=>c.rt _ _ _ _ _ q1 rs1 .refl⟩
noncomputable def sIf(tc:PB)(f g:PSt):PSt:=fun pe env=>tc env fun b env1=>cnd b (f pe env1) (g pe env1)
theorem bj{a b:List Q6}(hc:GT X c tc)(ha:GSs κ X a f)(hb:GSs κ X b g):GS κ X (.If c a b pos) (sIf tc f g):=by refine PS.imp (C5 hc ha hb) ?_;rintro D σ H ⟨env,Fr,pe,rs,q,c⟩;refine⟨env,Fr,_,rs,q,fun b env' H' q1 rs1=>e9 ⟨fun h=>⟨env',Fr,pe,rs1,q1.1 h,c⟩,fun h=>⟨env',Fr,pe,rs1,q1.2 h,c⟩⟩⟩
noncomputable def Hv(i:Nat)(fe:PF):PSt:=fun pe env=>fe env fun t env1=>pe.nx (env1.set i t)
theorem az{i:Nat}{x:Str}{pos':Pos}(hN:X.N.Nodup)(hi:X.N[i]?=some x)(hx:Loc X.env.scope x)(hκ:κ i=false)(he:GE X e fe)(hs:Tt e (some (.Name x pos')) pos.line X.env=pure false:=by rfl)(hf:X.fn x=true\/X.env.scope.names.lookup x=some .local:=by first|exact .inl rfl|exact .inr rfl|assumption) :
  GS κ X (.Assign [.Name x pos'] e pos) (Hv i fe):=by
 refine PS.imp (gf hN hi hx he hs hf) ?_;rintro D σ H ⟨env,Fr,pe,rs,q,c⟩;exact⟨env,Fr,_,rs,q,fun t env' v H' q1 rs1=>c.nx _ _ _ q1 rs1.put (.set hκ)⟩
abbrev PG':=T->Ev->(Ev->Prop)->Prop
abbrev tf:=List T->Ev->(Ev->Prop)->Prop
noncomputable def wG(K:Qz)(κ:Nat->Bool)(f:PG'):TG:=fun v σ H Q=>∃t env Fr k,Rs K H env σ ((t,some v)::Fr)/\f t env k/\∀env' σ' H',k env'->Rs K H' env' σ' Fr->Kept κ σ σ'->Q σ' H'
noncomputable def wGs(K:Qz)(κ:Nat->Bool)(f:tf):TGs:=fun vs σ H Q=>∃ts env Fr k,ts.length=vs.length/\Rs K H env σ (zz ts vs++Fr)/\f ts env k/\∀env' σ' H',k env'->Rs K H' env' σ' Fr->Kept κ σ σ'->Q σ' H'
noncomputable def GG(κ:Nat->Bool)(X:Cx)(tg:QQ)(f:PG'):Prop:=PG X tg (wG X.K κ f)
noncomputable def GGs(κ:Nat->Bool)(X:Cx)(tgs:List QQ)(f:tf):Prop:=PGs X tgs (wGs X.K κ f)
noncomputable def gN(i:Nat):PG':=fun t env k=>k (env.set i t)
theorem ak{i:Nat}{x:Str}(hN:X.N.Nodup)(hi:X.N[i]?=some x)(hx:Loc X.env.scope x)(hκ:κ i=false)(hf:X.fn x=true\/X.env.scope.names.lookup x=some .local:=by first|exact .inl rfl|exact .inr rfl|assumption):GG κ X (.Name x pos) (gN i):=
 fun pins s σ H v u Q I r ⟨t,env,Fr,k,rs,q,c⟩=>yN hN hi hx hf pins s σ H v u Q I r (c _ _ _ q rs.put (.set hκ))
noncomputable def Gx:tf:=fun ts env k=>ts=[]/\k env
noncomputable def CC(f:PG')(r:tf):tf:=fun ts env k=>match ts with
 |t::ts=>f t env fun env1=>r ts env1 k
 | []=>False
noncomputable def gTp(n:Nat)(f:tf):PG':=fun t env k=>match t with
 | .tup ts=>ts.length=n/\f ts env k
 | .cst ts=>ts.length=n/\f ts env k
 | _=>False
end
open PySem PySem.Spec PyProof.Rows L2
variable {body:List Q6}{fb:PSt}
section
variable{X:Cx}{κ:Nat->Bool}{pos:Pos}{e tg:QQ}{es:List QQ}{fe:PF}{g:PG'}{gs:tf}
theorem bT:GGs κ X [] Gx:=by
 rintro pins s σ H vs us Q I r ⟨ts,env,Fr,k,l,rs,⟨e,q⟩,c⟩;subst e;have:vs=[]:=by cases vs with|nil=>rfl|cons _ _=>cases l
 subst this;exact zY pins s σ H [] us Q I r ⟨rfl,c _ _ _ q rs .refl⟩
theorem aC(h1:GG κ X e g)(h2:GGs κ X es gs)(hs:(R3 (e::es) X.env).map (·.2)=Tg e X.env::(R3 es X.env).map (·.2):=by rfl):GGs κ X (e::es) (CC g gs):=by
 rintro pins s σ H vs us Q I r ⟨ts,env,Fr,k,l,rs,q,c⟩;cases ts with
 |nil=>exact QU q
 |cons t ts=>
  cases vs with
  |nil=>cases l
  |cons v vs=>
   have q:g t env fun env1=>gs ts env1 k:=q;refine pO h1 h2 hs pins s σ H (v::vs) us Q I r ⟨v,vs,rfl,t,env,zz ts vs++Fr,_,rs,q,fun env1 σ1 H1 q1 rs1 k1=>?_⟩;exact⟨ts,env1,Fr,k,by simpa using l,rs1,q1,fun env2 σ2 H2 q2 rs2 k2=>c _ _ _ q2 rs2 (k1.trans k2)⟩
theorem cB{x1 n:Nat}(hc:X.calm=true)(h:GGs κ X es gs)(hn:(R3 es X.env).length=n:=by rfl)(hst:(R3 es X.env).findIdx? (·.1)=none:=by rfl):GG κ X (.Tuple es x1 pos) (gTp n gs):=by
 rintro pins s σ H v u Q I r ⟨t,env,Fr,k,rs,q,c⟩;have go:∀ts,items t=some ts->qR t=true->ts.length=n->gs ts env k->QG (QM X.prog X.w) X.A (Tg (.Tuple es x1 pos) X.env u) (fun _ s'=>∃ σ' H',Inv X pins σ' H' s'/\Q σ' H') X.xe s:=fun ts e1 e2 e3 q=>by obtain⟨a,vs,rfl,hq,l,rp⟩:=aF e1 rs.head;rw[e2]at hq;refine CH hc h hn hst pins s σ H _ u Q I r ⟨a,vs,rfl,hq,by rw[<-l];exact e3,ts,env,Fr,k,l,⟨rs.1,?_⟩,q,c⟩;exact rp.perm (B_ _ _ _)
 cases t with
 |tup ts=>exact go ts rfl rfl q.1 q.2
 |cst ts=>exact go ts rfl rfl q.1 q.2
 | _=>exact QU q
noncomputable def Jj(fe:PF)(g:PG'):PSt:=fun pe env=>fe env fun t env1=>g t env1 pe.nx
theorem jQ(he:GE X e fe)(hg:GG κ X tg g)(hs:WH [tg] e pos.line X.env=pure false:=by rfl)(hw:WI [tg] e X.env=pure none:=by rfl)(h1:(R3 [tg] X.env).map (·.2)=[Tg tg X.env]:=by rfl) :
  GS κ X (.Assign [tg] e pos) (Jj fe g):=by
 refine PS.imp (Bj he hg hs hw h1) ?_;rintro D σ H ⟨env,Fr,pe,rs,q,c⟩;exact⟨env,Fr,_,rs,q,fun t env' v H' q1 rs1=>⟨t,env',Fr,_,rs1,q1,fun env2 σ2 H2 q2 rs2 k2=>c.nx _ _ _ q2 rs2 k2⟩⟩
noncomputable def GK(i:Nat)(fe:PF)(g:P2):PSt:=fun pe env=>(match env[i]? with
 |some t=>isAny t=false/\aW t=true
 |none=>False)/\fe env fun u env1=>match env[i]? with
 |some t=>g t u fun w=>pe.nx (env1.set i w)
 |none=>False
noncomputable def IpP(X:Cx)(op:Um)(g:P2):Prop:=PIp X op (w2 X.K g)
theorem C4{x:Str}{op:Um}{g:P2}{pos':Pos}(hN:X.N.Nodup)(hi:X.N[i]?=some x)(hx:Loc X.env.scope x)(hκ:κ i=false)(he:GE X e fe)(ho:IpP X op g)(hf:X.fn x=true\/X.env.scope.names.lookup x=some .local:=by first|exact .inl rfl|exact .inr rfl|assumption) :
  GS κ X (.AugAssign (.Name x pos') op e pos) (GK i fe g):=by
 refine PS.imp (GV hN hi hx he ho hf) ?_;rintro D σ H ⟨env,Fr,pe,rs,⟨q0,q⟩,c⟩;cases e0:env[i]? with
 |none=>rw[e0]at q0;exact q0.elim
 |some t=>
  simp only[e0]at q0 q;obtain⟨y,ey,rs2⟩:=rs.slot e0;obtain⟨v,rfl⟩:=dM rs2 q0.1;have hi':i<env.length:=(f_.mp e0).1;have r3:Rs X.K H (env.set i .any) σ ((t,some v)::(t,some v)::Fr):=.of rs2.1 ((kq rs2.head q0.2).perm (Ow _ j_.symm));have r4:=Rs.o7 (i:=i) r3 (by rw[LO];exact hi') ey;rw[kW e0]at r4;refine⟨v,ey,env,(t,some v)::Fr,_,r4,q,fun u env1 w H1 q1 rs1=>?_⟩;refine⟨t,u,env1.zip σ++Fr,_,rs1.head.perm (.cons _ j_),q1,fun z b H2 kz rp=>?_⟩;exact c.nx _ _ _ kz (Rs.put (.of rs1.1 rp)) (.set hκ)
noncomputable def Gu:P2
 | .int i,.int j,k=>k (.int (i+j))
 | _,_,_=>False
theorem yC:IpP X .Add Gu:=by
 rintro pins s σ H x y v u Q I rx ry ⟨tx,ty,Γ,k,rp,g,c⟩;cases tx <;> cases ty <;> first|exact QU g|skip
 rename_i i j;rw[aN rp]at ry;rw[aN rp.tail]at rx;exact IA pins s σ H _ _ v u Q I rx ry ⟨i,j,rfl,rfl,c _ _ _ g (bO rp.tail.tail fun _=>.int)⟩
noncomputable def xq(tc:PB)(fb:PSt)(pe:PEn)(env:Ev):Prop:=∃W:Nat->Ev->Prop,(∃m,W m env)/\∀m env,W m env->tc env fun b env1=>cnd b (fb {pe with nx:=fun e=>∃m',m'<m/\W m' e,ct:=fun e=>∃m',m'<m/\W m' e,bk:=pe.nx} env1) (pe.nx env1)
noncomputable def Dp(tc:PB)(fb:PSt):PSt:=fun pe env=>xq tc fb pe env
theorem BE(hp:Vi (QM X.prog X.w) X.A X.env X.xe)(hc:GT X c tc)(hb:GSs κ X body fb):GS κ X (.While c body [] pos) (Dp tc fb):=by
 refine PS.imp (DC hp hc hb) ?_;rintro D σ H ⟨env,Fr,pe,rs,⟨W,⟨m0,w0⟩,wt⟩,c⟩;refine⟨fun m σ' H'=>∃env',W m env'/\Rs X.K H' env' σ' Fr/\Kept κ σ σ',⟨m0,env,w0,rs,.refl⟩,?_⟩;rintro m σ1 H1 ⟨env1,w1,rs1,k1⟩;refine⟨env1,Fr,_,rs1,wt m env1 w1,fun b env2 H2 q2 rs2=>e9 ⟨fun h=>?_,fun h=>c.nx _ _ _ (q2.2 h) rs2 k1⟩⟩;refine⟨fun σ' H'=>∃m' env',m'<m/\W m' env'/\Rs X.K H' env' σ' Fr/\Kept κ σ σ',fun σ' H' ⟨m',env',hm,w',r',k'⟩=>⟨m',hm,env',w',r',k'⟩,env2,Fr,_,rs2,q2.1 h,⟨?_,?_,?_,?_⟩⟩
 ·exact fun env' σ' H' ⟨m',hm,w'⟩ r' k'=>⟨m',env',hm,w',r',k1.trans k'⟩
 ·exact fun t env' v σ' H' p r' k'=>c.rt _ _ _ _ _ p r' (k1.trans k')
 ·exact fun env' σ' H' p r' k'=>c.nx _ _ _ p r' (k1.trans k')
 exact fun env' σ' H' ⟨m',hm,w'⟩ r' k'=>⟨m',env',hm,w',r',k1.trans k'⟩
structure ItOk (K:Qz) (J:It) (its:List T) (Fg:Fm):Prop where
 turn:∀i t H Γ,its[i]?=some t->Rp K H (Fg++Γ)->J.go i H/\∀x H',J.yld i H x H'->Rp K H' ((t,some x)::(Fg++Γ))
 stop:∀H Γ,Rp K H (Fg++Γ)->J.stop its.length H
abbrev PIt:=Ev->(List T->Ev->Prop)->Prop
noncomputable def wI(K:Qz)(f:PIt):TI:=fun σ H R=>∃env Fr k,Rs K H env σ Fr/\f env k/\∀its env' J Fg H',k its env'->Rs K H' env' σ (Fg++Fr)->ItOk K J its Fg->R J H'
noncomputable def GI(X:Cx)(tg iter:QQ)(f:PIt):Prop:=PI X tg iter (wI X.K f)
noncomputable def forL(its:List T)(g:PG')(fb:PSt)(pe:PEn)(env1:Ev):Prop:=∃W:Nat->Ev->Prop,W 0 env1/\(∀i t env,W i env->its[i]?=some t->g t env fun env2=>fb {pe with nx:=W (i+1),ct:=W (i+1),bk:=pe.nx} env2)/\∀env,W its.length env->pe.nx env
noncomputable def Jr(fi:PIt)(g:PG')(fb:PSt):PSt:=fun pe env=>fi env fun its env1=>forL its g fb pe env1
theorem qp{σ:L2.St}{Fg:Fm}(h:Rs K H env σ (Fg++Fr)):Rs K H env σ Fr:=⟨h.1,(h.2.perm (B_ _ _ _)).part⟩
theorem bp{iter:QQ}{fi:PIt}{g:PG'}(hp:Vi (QM X.prog X.w) X.A X.env X.xe)(hc:X.calm=true)(hi:GI X tg iter fi)(hg:GG κ X tg g)(hb:GSs κ X body fb)(hs:∀x,Ry iter X.env x=pure x:=by intro _;rfl):GS κ X (.For tg iter body [] pos) (Jr fi g fb):=by
 refine PS.imp (IU hp hc hi hg hb hs) ?_;rintro D σ H ⟨env,Fr,pe,rs,q,c⟩;refine⟨env,Fr,_,rs,q,?_⟩;rintro its env1 J Fg H1 ⟨W,w0,wt,we⟩ rs1 ok;refine⟨fun i m σ' H'=>∃env',W i env'/\Rs X.K H' env' σ' (Fg++Fr)/\Kept κ σ σ'/\m+i=its.length,⟨its.length,env1,w0,rs1,.refl,rfl⟩,?_⟩;rintro i m σ1 H2 ⟨env2,w2,rs2,k2,hm⟩;have rp2:Rp X.K H2 (Fg++(env2.zip σ1++Fr)):=rs2.2.perm (B_ _ _ _);by_cases hlt:i<its.length
 ·have ei:its[i]?=some its[i]:=c_ hlt;obtain⟨hgo,hy⟩:=ok.turn i its[i] H2 _ ei rp2;refine .inr ⟨hgo,fun σ' H'=>∃env',W (i+1) env'/\Rs X.K H' env' σ' (Fg++Fr)/\Kept κ σ σ',fun σ' H' ⟨env',w',r',k'⟩=>⟨m-1,by lia,env',w',r',k',by lia⟩,fun x H' hx=>?_⟩;have rp3:=hy x H' hx;have rs3:Rs X.K H' env2 σ1 ((its[i],some x)::(Fg++Fr)):=.of rs2.1 (rp3.perm (.cons _ (B_ _ _ _)));refine⟨its[i],env2,Fg++Fr,_,rs3,wt i its[i] env2 w2 ei,fun env3 σ3 H3 q3 rs4 k4=>?_⟩;refine⟨env3,Fg++Fr,_,rs4,q3,⟨?_,?_,?_,?_⟩⟩
  ·exact fun env' σ' H' w' r' k'=>⟨env',w',r',k2.trans (k4.trans k')⟩
  ·exact fun t env' v σ' H' p r' k'=>c.rt _ _ _ _ _ p (qp (Fg:=Fg) (r'.perm j_.symm)) (k2.trans (k4.trans k'))
  ·exact fun env' σ' H' p r' k'=>c.nx _ _ _ p (qp r') (k2.trans (k4.trans k'))
  exact fun env' σ' H' w' r' k'=>⟨env',w',r',k2.trans (k4.trans k')⟩
 have:i=its.length:=by lia
 subst this;exact .inl ⟨ok.stop H2 _ rp2,c.nx _ _ _ (we env2 w2) (qp rs2) k2⟩
end
section
variable{X:Cx}{pos:Pos}{e tg:QQ}{fe:PF}
noncomputable def KQ(fe:PF):PIt:=fun env k=>fe env fun t env1=>got (items t) fun ts=>k (erL ts) env1
theorem Ie(e:items t=some ts)(n:aW t=true):ItOk K (Its K (qR t) a) ts [(t,some (.ref a))] where
 turn:=fun i u H Γ ei rp=>by obtain⟨a',vs,ea,hq,l,rp2⟩:=aF e (kq rp n);cases ea;obtain⟨w,ew⟩:=qB l ei;refine⟨GN hq rfl i H .cc (by have:=(f_.mp ew).1;exact this),fun x H' hy=>?_⟩;obtain⟨rfl,hx⟩:=EU hq .cc hy;rw[ew]at hx;cases hx;exact i7 rp2 ei ew
 stop:=fun H Γ rp=>by obtain⟨a',vs,ea,hq,l,rp2⟩:=aF e rp;cases ea;exact Dy hq l.symm H .cc
theorem qD(e:items t=some ts):items (er t)=some (erL ts)/\qR (er t)=qR t:=by cases t <;> cases e <;> exact⟨rfl,rfl⟩
theorem aO(h:GE X e fe):GI X tg e (KQ fe):=by rintro pins s σ H R I ⟨env,Fr,k,rs,q,c⟩;refine Hg h pins s σ H R I ⟨env,Fr,_,rs,q,fun t env1 v H1 q1 rs1=>?_⟩;obtain⟨ts,e1,kt⟩:=aI q1;have rf:Rp X.K H1 ((er t,some v)::(env1.zip σ++Fr)):=pL rs1.head;obtain⟨e2,e3⟩:=qD e1;obtain⟨a,vs,rfl,hq,l,rp2⟩:=aF e2 rf;exact⟨qR (er t),a,vs,rfl,hq,c _ _ _ _ _ kt (Rs.of (Fr:=Fr) rs1.1 rf) (Ie e2 (bu t))⟩
noncomputable def jI(lo:Int)(n:Nat):List T:=(A_ n).map fun(i:Nat)=>.int (lo+(i:Int))
theorem BP(lo:Int)(n:Nat):ItOk K (Itr lo n) (jI lo n) [] where
 turn:=fun i t H Γ ei rp=>by
  unfold jI at ei;rw[B']at ei;have hi:i<n:=by
   cases h:(A_ n)[i]? with
   |none=>rw[h]at ei;cases ei
   |some j=>
    have:=(f_.mp h).1;simpa using this
  rw[Ov hi]at ei;cases ei;refine⟨hi,fun x H' ⟨e1,e2⟩=>?_⟩;subst e1;subst e2;exact bO rp fun _=>.int
 stop:=fun H Γ rp=>by show n<=_;unfold jI;rw[a_,Ml];exact b_ _
noncomputable def iR1(fr:PFs):PIt:=fun env k=>fr env fun ts env1=>match ts with
 | [.int j]=>(-(2 ^ 62)<=j/\j<2 ^ 62)/\k (jI 0 j.toNat) env1
 | _=>False
noncomputable def iR2(fr:PFs):PIt:=fun env k=>fr env fun ts env1=>match ts with
 | [.int i,.int j]=>(-(2 ^ 62)<=i/\i<2 ^ 62/\-(2 ^ 62)<=j/\j<2 ^ 62)/\k (jI i (j-i).toNat) env1
 | _=>False
variable{a b c:QQ}{fr:PFs}{p:Pos}
theorem cK(hg:Gl X "range")(hm:X.mg "range"=none)(ha:GA X [a] fr)(hs:QS [a] X.env=[(false,Q9 a X.env)]:=by rfl):GI X tg (.Call (.Name "range" p) [a] [] pos) (iR1 fr):=by
 rintro pins s σ H R I ⟨env,Fr,k,rs,q,c⟩;refine AW hg hm ha hs pins s σ H R I ⟨env,Fr,_,rs,q,fun ts env1 vs H1 q1 l rs1=>?_⟩;rcases ts with _|⟨t,_|⟨t2,ts⟩⟩
 ·exact q1.elim
 ·cases t <;> first|exact q1.elim|skip
  rename_i j;rcases vs with _|⟨v,_|⟨v2,vs⟩⟩
  ·cases l
  ·have rs1:Rs X.K H1 env1 σ ((.int j,some v)::Fr):=rs1;rw[aN rs1.head];exact⟨j,rfl,q1.1.1,q1.1.2,c _ _ _ [] _ q1.2 rs1.drop (BP 0 _)⟩
  cases l
 cases t <;> exact q1.elim
theorem sN(hg:Gl X "range")(hm:X.mg "range"=none)(ha:GA X [a,b] fr)(hs:QS [a,b] X.env=[(false,Q9 a X.env),(false,Q9 b X.env)]:=by rfl)(hs2:QS [b] X.env=[(false,Q9 b X.env)]:=by rfl):GI X tg (.Call (.Name "range" p) [a,b] [] pos) (iR2 fr):=by
 rintro pins s σ H R I ⟨env,Fr,k,rs,q,c⟩;refine Av hg hm ha hs hs2 pins s σ H R I ⟨env,Fr,_,rs,q,fun ts env1 vs H1 q1 l rs1=>?_⟩;rcases ts with _|⟨t,_|⟨u,_|⟨t3,ts⟩⟩⟩
 ·exact q1.elim
 ·cases t <;> exact q1.elim
 ·cases t <;> try exact q1.elim
  cases u <;> try exact q1.elim
  rename_i i j;obtain⟨v,w,rfl⟩:=zz2 l rfl;have rs1:Rs X.K H1 env1 σ ((.int i,some v)::(.int j,some w)::Fr):=rs1;rw[aN rs1.head,aN rs1.drop.head];exact⟨i,j,rfl,q1.1,c _ _ _ [] _ q1.2 rs1.drop.drop (BP i _)⟩
 cases t <;> try exact q1.elim
 cases u <;> exact q1.elim
noncomputable def iZp(fr:PFs):PIt:=fun env k=>fr env fun ts env1=>match ts with
 | [t,u]=>got (items t) fun as=>got (items u) fun bs=>k (((erL as).zip (erL bs)).map fun p=>.tup [p.1,p.2]) env1
 | _=>False
theorem J1{x:V}{p:QA}(h:Rp K H ((t,some x)::(u,some y)::Γ))(s:bI H H')(e:H' p=some (.tup [x,y])):Rp K H' ((.tup [t,u],some (.ref p))::Γ):=
 eE (ts:=[t,u]) (vs:=[x,y]) h rfl s e
theorem Ha{as bs:List T}{a b:QA}(e1:items t=some as)(e2:items u=some bs)(n1:aW t=true)(n2:aW u=true) :
  ItOk K (Itz K (qR t) a (qR u) b) ((as.zip bs).map fun p=>.tup [p.1,p.2]) [(t,some (.ref a)),(u,some (.ref b))] where
 turn:=fun i w H Γ ei rp=>by
  rw[B']at ei;cases hz:(as.zip bs)[i]? with
  |none=>rw[hz]at ei;cases ei
  |some q=>
   rw[hz]at ei;cases ei;obtain⟨q1,q2⟩:=q;rw[OK]at hz;have rp0:Rp K H ((t,some (.ref a))::(u,some (.ref b))::Γ):=rp;have rpd:=kq rp0 n1;have rpe:Rp K H ((u,some (.ref b))::(t,some (.ref a))::(t,some (.ref a))::Γ):=rpd.perm (by refine C' ?_ (MZ _ _ _);exact .cons _ (.swap _ _ _))
   have rpf:=kq rpe n2;obtain⟨b',ws,eb,hb,lb,rpg⟩:=aF e2 rpf;cases eb;obtain⟨y,ey⟩:=qB lb hz.2;have rph:=i7 rpg hz.2 ey;have rpi:Rp K H ((t,some (.ref a))::(q2,some y)::(t,some (.ref a))::(u,some (.ref b))::Γ):=rph.perm (by refine C' ?_ (MZ _ _ _);refine .cons _ ?_;refine C' (MZ _ _ _) ?_;exact .cons _ (MZ _ _ _))
   obtain⟨a',vs,ea,ha,la,rpj⟩:=aF e1 rpi;cases ea;obtain⟨x,ex⟩:=qB la hz.1;have rpk:=i7 rpj hz.1 ex;refine⟨⟨vs,ws,x,y,ha,hb,ex,ey⟩,fun v H' hy=>?_⟩;obtain⟨p,x',y',hp,ev,eH,h1,h2⟩:=hy;have ex':=h1 vs ha;have ey':=h2 ws hb;rw[ex]at ex';rw[ey]at ey';cases ex';cases ey';subst ev;subst eH;exact J1 rpk (bH hp _) aQ
 stop:=fun H Γ rp=>by have rp0:Rp K H ((t,some (.ref a))::(u,some (.ref b))::Γ):=rp;obtain⟨a',vs,ea,ha,la,_⟩:=aF e1 rp0;obtain⟨b',ws,eb,hb,lb,_⟩:=aF e2 rp0.tail;cases ea;cases eb;refine⟨vs,ws,ha,hb,?_⟩;rw[a_,P6,la,lb];lia
theorem y9{x1:Nat}{tp:Pos}(hg:Gl X "zip")(hm:X.mg "zip"=none)(ha:GA X [a,b] fr)(hs:QS [a,b] X.env=[(false,Q9 a X.env),(false,Q9 b X.env)]:=by rfl)(hs2:QS [b] X.env=[(false,Q9 b X.env)]:=by rfl) :
  GI X (.Tuple es x1 tp) (.Call (.Name "zip" p) [a,b] [] pos) (iZp fr):=by
 rintro pins s σ H R I ⟨env,Fr,k,rs,q,c⟩;refine Ir hg hm ha hs hs2 pins s σ H R I ⟨env,Fr,_,rs,q,fun ts env1 vs H1 q1 l rs1=>?_⟩;rcases ts with _|⟨t,_|⟨u,_|⟨t3,ts⟩⟩⟩ <;> try exact q1.elim
 obtain⟨v,w,rfl⟩:=zz2 l rfl;obtain⟨as,ea,q2⟩:=aI q1;obtain⟨bs,eb,kt⟩:=aI q2;have rs1:Rs X.K H1 env1 σ ((t,some v)::(u,some w)::Fr):=rs1;have r2:Rs X.K H1 env1 σ ((er t,some v)::(u,some w)::Fr):=.of rs1.1 (pL rs1.head);have r3:Rs X.K H1 env1 σ ((er u,some w)::(er t,some v)::Fr):=.of rs1.1 (pL (r2.perm (.swap _ _ _)).head);have r4:=r3.perm (.swap _ _ _);obtain⟨e1,_⟩:=qD ea;obtain⟨e2,_⟩:=qD eb;obtain⟨a',xs,rfl,hq,l1,_⟩:=aF e1 r4.head;obtain⟨b',ys,rfl,hq2,l2,_⟩:=aF e2 r3.head;exact⟨_,a',_,b',rfl,⟨xs,hq⟩,⟨ys,hq2⟩,c _ _ _ [(er t,_),(er u,_)] _ kt r4 (Ha e1 e2 (bu t) (bu u))⟩
end
open PySem PySem.Spec PyProof.Rows L2
noncomputable def frA(fr:List (Option Nat)):List Arg:=fr.map fun o=>match o with
 |some j=>.bor j
 |none=>.val .any
noncomputable def κc(fr:List (Option Nat))(j:Nat):Bool:=match fr[j]? with
 |some (some _)=>true
 | _=>false
theorem fH:∀(fr:List (Option Nat)) (σ:L2.St),lF (frA fr) (cu fr σ) σ
 | [],σ=>trivial
 |none::r,σ=>fH r σ
 |some j::r,σ=>by
  refine⟨?_,fH r σ⟩;by_cases h:j<σ.length
  ·refine .inl ?_;show σ[j]?=some ((σ[j]?).join);rw[c_ h]
   rfl
  exact .inr (by lia)
theorem kc:∀(fr:List (Option Nat)) (τ τ':List (Option V)) (σ:L2.St),τ'.length=τ.length->(∀j,κc fr j=true->τ'[j]?=τ[j]?)->lF (frA fr) τ σ->lF (frA fr) τ' σ
 | [],[],τ',σ,l,_,_=>by
  have:τ'=[]:=by cases τ' with|nil=>rfl|cons _ _=>cases l
  subst this
  trivial
 | [],_::_,_,_,_,_,o=>o.elim
 |none::r,[],_,_,_,_,o=>o.elim
 |some j::r,[],_,_,_,_,o=>o.elim
 |none::r,x::τ,[],σ,l,_,_=>by cases l
 |some j::r,x::τ,[],σ,l,_,_=>by cases l
 |none::r,x::τ,y::τ',σ,l,k,o=>kc r τ τ' σ (by simpa using l) (fun j hj=>by simpa using k (j+1) hj) o
 |some i::r,x::τ,y::τ',σ,l,k,o=>by
  have e:y=x:=by have:=k 0 rfl;simpa using this
  subst e;exact⟨o.1,kc r τ τ' σ (by simpa using l) (fun j hj=>by simpa using k (j+1) hj) o.2⟩
noncomputable def G0(fr:List (Option Nat))(its:List T)(g:PG')(ft:PB)(fe:PF)(env1:Ev)(k:T->Ev->Prop):Prop:=its.length<sizeLine/\∃W:Nat->List T->Ev->Prop,W 0 [] (lend (frA fr) env1).1/\
 (∀i t acc ie,W i acc ie->its[i]?=some t->g t ie fun ie2=>ft ie2 fun b ie3=>cnd b (fe ie3 fun u ie4=>W (i+1) (acc++[u]) ie4) (W (i+1) acc ie3))/\
 ∀acc ie,W its.length acc ie->k (.lst true acc) (back (frA fr) ie (lend (frA fr) env1).2)
noncomputable def zQ(fr:List (Option Nat))(fi:PIt)(g:PG')(ft:PB)(fe:PF):PF:=fun env k=>fi env fun its env1=>G0 fr its g ft fe env1 k
theorem uJ:∀fr:List (Option Nat),(frA fr).map pZ=fr.map fun _=>T.any
 | []=>rfl
 |none::r=>by show T.any::(frA r).map pZ=T.any::r.map fun _=>T.any;rw[uJ r]
 |some j::r=>by show T.any::(frA r).map pZ=T.any::r.map fun _=>T.any;rw[uJ r]
theorem yd{K:Qz}{H:Hp}{Γ:Fm}:∀(fr:List (Option Nat)) (xs:List (Option V)),Rp K H Γ->Rp K H ((fr.map fun _=>T.any).zip xs++Γ)
 | [],xs,h=>h
 | _::r,[],h=>h
 | _::r,x::xs,h=>gy (yd r xs h)
theorem Fd(fr:List (Option Nat)):(frA fr).length=fr.length:=by unfold frA;rw[a_]
theorem xk(fr:List (Option Nat))(σ:L2.St):(cu fr σ).length=fr.length:=by unfold cu;rw[a_]
variable {fe:PF}{fi:PIt}{fr:List (Option Nat)}{ft:PB}
theorem BC{g:PG'}:∀ σ H Q,wE K (zQ fr fi g ft fe) σ H Q->yH (wI K fi) fr (fun _ _ _=>wG K (κc fr) g) (fun _ _ _=>wB K ft) (fun _ _ _=>wE K fe) σ H Q:=by
 rintro σ H Q ⟨env,Fr,k,rs,q,c⟩;refine⟨env,Fr,_,rs,q,?_⟩;rintro its env1 J Fg H1 ⟨hz,W,w0,wt,we⟩ rs1 ok;intro p hp s3 H3' fp;have l0:Rs K H1 env1 σ (((frA fr).map pZ).zip (cu fr σ)++(Fg++Fr)):=⟨rs1.1,by refine Rp.perm ?_ (B_ _ _ _);rw[uJ];exact yd fr _ rs1.2⟩
 have l1:=kK (fH fr σ) l0;obtain⟨ie0,ou,e0⟩:∃ie0 ou,lend (frA fr) env1=(ie0,ou):=⟨_,_,rfl⟩;have lie:ie0.length=(cu fr σ).length:=by have:=gP (frA fr) env1;rw[e0,Fd]at this;rw[xk];exact this
 rw[e0]at l1 w0;have rp0:Rp K (upd H1 p (.lst [])) ((.lst true [],some (.ref p))::(ie0.zip (cu fr σ)++(Fg++(ou.zip σ++Fr)))):=by refine fP (ts:=[]) (vs:=[]) (l1.2.perm ?_) rfl hp (bH hp _) aQ;show Qa (ou.zip σ++(ie0.zip (cu fr σ)++(Fg++Fr))) (ie0.zip (cu fr σ)++(Fg++(ou.zip σ++Fr)));exact(B_ _ _ _).trans ((B_ _ _ _).append_left _)
 refine⟨fun i m σ' H'=>∃acc ie,W i acc ie/\Rs K H' ie σ' ((.lst true acc,some (.ref p))::(Fg++(ou.zip σ++Fr)))/\Kept (κc fr) (cu fr σ) σ'/\m+i=its.length/\acc.length<=i,⟨its.length,[],ie0,w0,.of lie rp0,.refl,rfl,b_ _⟩,?_⟩;rintro i m σ1 H2 ⟨acc,ie,w2,rs2,k2,hm,ha⟩;have rp2:Rp K H2 (Fg++((.lst true acc,some (.ref p))::(ie.zip σ1++(ou.zip σ++Fr)))):=by refine rs2.head.perm ?_;refine C' ?_ j_.symm;exact .cons _ (B_ _ _ _)
 by_cases hlt:i<its.length
 ·have ei:its[i]?=some its[i]:=c_ hlt;obtain⟨hgo,hy⟩:=ok.turn i its[i] H2 _ ei rp2;refine .inr ⟨hgo,fun x H' hx=>?_⟩;have rp3:=hy x H' hx;have rs3:Rs K H' ie σ1 ((its[i],some x)::((.lst true acc,some (.ref p))::(Fg++(ou.zip σ++Fr)))):=.of rs2.1 (rp3.perm (.cons _ (by refine j_.trans ?_;refine C' ?_ j_.symm;exact .cons _ (B_ _ _ _))))
  refine⟨its[i],ie,_,_,rs3,wt i its[i] acc ie w2 ei,fun ie3 σ3 H3 q3 rs4 k4=>?_⟩;refine⟨ie3,_,_,rs4,q3,fun b ie4 H4 q4 rs5=>e9 ⟨fun hb=>?_,fun hb=>?_⟩⟩
  ·refine⟨ie4,_,_,rs5,q4.1 hb,fun u ie5 v H5 q5 rs6=>?_⟩;have r7:=rs6.perm (.swap _ _ _);obtain⟨a',ys,ea,hys,ly,r8⟩:=fM r7.head;cases ea;refine⟨ys,hys,by rw[<-ly];exact MC ha (Oe hlt hz),m-1,by lia,acc++[u],ie5,q5,.of r7.1 ?_,k2.trans k4,by lia,by rw[d_];simp;omega⟩;refine eQ (ts:=acc++[u]) (vs:=ys++[v]) (r8.perm (.cons _ ?_)) (by rw[d_,d_,ly];rfl) Put.up;rw[jS ly,l_];refine Mc _ ?_;exact j_
  exact⟨m-1,by lia,acc,ie4,q4.2 hb,rs5,k2.trans k4,by lia,by lia⟩
 have:i=its.length:=by lia
 subst this;refine .inl ⟨ok.stop H2 _ rp2,c _ _ _ _ (we acc ie w2) ?_⟩;rw[e0];have ao:lF (frA fr) σ1 σ:=kc fr (cu fr σ) σ1 σ k2.1 k2.2 (fH fr σ);refine lI ao (env:=ou) ⟨l1.1,?_⟩;refine rp2.part.perm ?_;refine C' ?_ (B_ _ _ _);refine C' j_.symm ?_;exact Mc _ j_.symm
noncomputable def GTs(X:Cx)(ifs:List QQ)(f:PB):Prop:=PTs X ifs (wB X.K f)
noncomputable def xf:PB:=fun env k=>k true env
theorem b7{X:Cx}:GTs X [] xf:=by rintro pins s σ H Q I ⟨env,Fr,k,rs,q,c⟩;exact EO pins s σ H Q I (c _ _ _ q rs)
theorem tm{f:PB}(h:GT X c f):GTs X [c] f:=Fc h
theorem b6{X:Cx}{N ps:List Str}{esc:RC}(S:FnScope N ps esc)(N':List Str)(fr:List (Option Nat))(nd:N'.Nodup){elt target iter:QQ}{ifs:List QQ}{sc:RC}{pos:Pos}{fi:PIt}{g:PG'}{ft:PB}{fe:PF}(C:jX N esc sc N' fr=true)
  (hi:GI X target iter fi) (hg:∀s3 H3 fp,GG (κc fr) (aZ X N' sc s3 H3 fp) target g) (ht:∀s3 H3 fp,GTs (aZ X N' sc s3 H3 fp) ifs ft) (he:∀s3 H3 fp,GE (aZ X N' sc s3 H3 fp) elt fe)
  (hc:X.calm=true:=by rfl) (hN:X.N=N:=by rfl) (hS:X.env.scope=esc:=by rfl) (hs:∀x,Ry iter X.env x=pure x:=by intro _;rfl):GE X (.ListComp elt [⟨target,iter,ifs,0⟩] sc pos) (zQ fr fi g ft fe):=
 PE.imp (BA S N' fr nd C hi hg ht he hc hN hS hs) BC
abbrev PM:=T->List T->(T->T->Prop)->Prop
noncomputable def MtP(X:Cx)(id:String)(m:PM):Prop:=MtM X id (fun x xs H Q=>∃t ts Γ k,ts.length=xs.length/\Rp X.K H ((t,some x)::(zz ts xs++Γ))/\m t ts k/\∀t' r v H',k t' r->Rp X.K H' ((r,some v)::(t',some x)::Γ)->Q v H')
noncomputable def isL:T->Bool
 | .lst _ _=>true
 | _=>false
noncomputable def zW(i:Nat)(m:PM)(fr:PFs):PF:=fun env k=>got (env[i]?) fun t0=>isL t0=true/\fr env fun ts env1=>got (env1[i]?) fun t=>m t ts fun t' r=>k r (env1.set i t')
variable {xp:Pos}
section
variable{X:Cx}{e o:QQ}{es:List QQ}{fr:PFs}{fe:PF}{m:PM}{name:Str}{id:String}{apos cpos pos:Pos}
theorem Ey(h:isL t=true)(rp:Rp X.K H ((t,some v)::Γ)):tyV X.K "list" v H:=by
 cases t <;> first|cases h|skip
 obtain⟨a,vs,rfl,hq,l,_⟩:=kG rp;exact .inl ⟨rfl,vs,.inl hq⟩
theorem DN(h:isL t=true):isAny t=false:=by cases t <;> first|rfl|cases h
theorem GD:∀ σ H Q,wE X.K (zW i m fr) σ H Q->tBM X.K "list" (fun x xs H Q=>∃t ts Γ k,ts.length=xs.length/\Rp X.K H ((t,some x)::(zz ts xs++Γ))/\m t ts k/\∀t' r v H',k t' r->Rp X.K H' ((r,some v)::(t',some x)::Γ)->Q v H') (Hd i) (wA X.K fr) σ H Q:=by
 rintro σ H Q ⟨env,Fr,k,rs,q,c⟩;obtain⟨t0,e0,hl,q⟩:=aI q;obtain⟨y,ey,rs2⟩:=rs.slot e0;obtain⟨v,rfl⟩:=dM rs2 (DN hl);refine⟨v,ey,Ey hl rs2.head,env,Fr,_,rs,q,fun ts env1 vs H1 q1 l rs1=>?_⟩;obtain⟨t,et,q1⟩:=aI q1;obtain⟨y',ey',rs3⟩:=rs1.slot et;rw[ey]at ey';cases ey';have hi:i<env1.length:=(f_.mp et).1;refine⟨t,ts,(env1.set i .any).zip σ++Fr,_,l,?_,q1,fun t' r w H' kt rp=>c _ _ _ _ kt ?_⟩
 ·refine rs3.head.perm (.cons _ ?_);exact B_ _ _ _
 have r4:Rs X.K H' (env1.set i .any) σ ((t',some v)::(r,some w)::Fr):=.of rs3.1 (rp.perm (by refine C' (.swap _ _ _) ?_;exact .cons _ j_.symm))
 have r5:=Rs.o7 (i:=i) r4 (by rw[LO];exact hi) ey;rw[OU]at r5;exact r5
theorem bL(i:Nat){x:Str}(slot:W6 "list" name id)(hty:W7 (.builtin id)=pure (.type "method_descriptor"))(hm:MtP X id m)(ha:GA X (e::es) fr)(hN:X.N[i]?=some x:=by rfl)(hv:Vis X.env.scope x:=by first|exact e_ rfl|exact s_ (e_ rfl)|exact s_ (s_ rfl))(hd:(x ==("__debug__":Str))=false:=by decide)(hcd:(x ==("__classdict__":Str))=false:=by decide)
  (hbase:T9 (.Name x xp) name X.env (Q9 (.Name x xp) X.env)=Q9 (.Name x xp) X.env:=by rfl)
  (hfew:((SM cpos (QS (e::es) X.env)).all (fun x=>!x.1)&&(backToKw cpos (Xu [] X.env)).all (fun x=>x.1.isSome)&&decide ((e::es).length+([]:List Wo).length+(if([]:List Wo).isEmpty then 0 else 1)<30))=true:=by rfl)
  (hline:(apos.endLine == cpos.line)=true:=by rfl) (hs:QS (e::es) X.env=(false,Q9 e X.env)::QS es X.env:=by rfl) (hplain:(SM cpos (QS es X.env)).any (·.1)=false:=by rfl) :
  GE X (.Call (.Attribute (.Name x xp) name apos) (e::es) [] cpos) (zW i m fr):=PE.imp (Jf UA slot hty hm (fZ hN hv hd hcd) ha hbase hfew hline hs hplain) GD
theorem Bp(i:Nat){x:Str}(slot:W6 "list" name id)(hty:W7 (.builtin id)=pure (.type "method_descriptor"))(hm:MtP X id m)(hN:X.N[i]?=some x:=by rfl)(hv:Vis X.env.scope x:=by first|exact e_ rfl|exact s_ (e_ rfl)|exact s_ (s_ rfl))(hd:(x ==("__debug__":Str))=false:=by decide)(hcd:(x ==("__classdict__":Str))=false:=by decide)
  (hbase:T9 (.Name x xp) name X.env (Q9 (.Name x xp) X.env)=Q9 (.Name x xp) X.env:=by rfl) (hline:(apos.endLine == cpos.line)=true:=by rfl) :
  GE X (.Call (.Attribute (.Name x xp) name apos) [] [] cpos) (zW i m Hs):=by
 refine PE.imp (Hh UA slot hty hm (fZ hN hv hd hcd) hbase hline) fun σ H Q h=>?_;obtain⟨v,ev,ty,env,Fr,k,rs,q,c⟩:=GD σ H Q h;exact⟨v,ev,ty,c [] env [] H q rfl rs⟩
noncomputable def uz:PM
 | .lst true ts,[t],k=>ts.length<sizeLine/\k (.lst true (ts++[t])) .non
 | _,_,_=>False
noncomputable def tj:PM
 | .lst true ts,[.lst true us],k=>ts.length+us.length<=sizeLine/\k (.lst true (ts++us)) .non
 | _,_,_=>False
noncomputable def Hj:PM
 | .lst true ts,[],k=>got (ts[ts.length-1]?) fun t=>k (.lst true ts.dropLast) t
 | _,_,_=>False
theorem bh:MtP X "list.append" uz:=by
 rintro pins s σ H x xs v us Q I rx r ⟨t,ts,Γ,k,l,rp,g,c⟩;unfold uz at g;split at g
 ·rename_i k ts t;obtain⟨y,rfl⟩:=zz1 l rfl;obtain⟨a,vs,ea,ha,la,rp2⟩:=fM rp;cases ea;refine xI pins s σ H _ _ v us Q I rx r ⟨a,vs,y,rfl,rfl,ha,by rw[<-la];exact g.1,fun H' hp=>c _ _ _ _ g.2 (bO ?_ fun _=>.non)⟩;refine eQ (ts:=ts++[t]) (vs:=vs++[y]) ?_ (by rw[d_,d_,la];rfl) hp;rw[jS la,l_];exact rp2
 exact QU g
theorem jO:MtP X "list.extend" tj:=by
 rintro pins s σ H x xs v us Q I rx r ⟨t,ts,Γ,k,l,rp,g,c⟩;unfold tj at g;split at g
 ·rename_i k ts us';obtain⟨y,rfl⟩:=zz1 l rfl;obtain⟨a,vs,ea,ha,la,rp2⟩:=fM rp;cases ea;have rp3:Rp X.K H ((.lst true us',some y)::(.bare,some (.ref a))::(zz ts vs++Γ)):=rp2.perm (by refine C' (.cons _ j_) ?_;exact .swap _ _ _)
  obtain⟨b,ws,eb,hb,lb,rp4⟩:=fM rp3;cases eb;have rp5:Rp X.K H ((.bare,some (.ref a))::(zz (ts++us') (vs++ws)++Γ)):=by rw[jS la,l_];refine rp4.tail.perm ?_;refine j_.trans (.cons _ ?_);exact B_ _ _ _
  exact xH pins s σ H _ _ v us Q I rx r ⟨a,b,vs,ws,rfl,rfl,ha,hb,by rw[<-la,<-lb];exact g.1,fun H' hp=>c _ _ _ _ g.2 (bO (eQ rp5 (by rw[d_,d_,la,lb]) hp) fun _=>.non)⟩
 exact QU g
theorem Fh:∀{ts:List T}{vs:List V}{t:T}{w:V},ts.length=vs.length->ts[ts.length-1]?=some t->vs[vs.length-1]?=some w->(zz ts vs).Perm ((t,some w)::zz ts.dropLast vs.dropLast):=by
 intro ts vs t w l e f;have hts:ts=ts.dropLast++[t]:=by rw[<-OL]at e;obtain⟨ys,rfl⟩:=OM.mp e;rw[Oj]
 have hvs:vs=vs.dropLast++[w]:=by rw[<-OL]at f;obtain⟨ys,rfl⟩:=OM.mp f;rw[Oj]
 have:zz ts vs=zz (ts.dropLast++[t]) (vs.dropLast++[w]):=by rw[<-hts,<-hvs]
 rw[this,jS (by rw[M9,M9,l])];exact Mz
theorem Fz:MtP X "list.pop" Hj:=by
 rintro pins s σ H x xs v us Q I rx r ⟨t,ts,Γ,k,l,rp,g,c⟩;unfold Hj at g;split at g
 ·rename_i k ts;have:xs=[]:=by cases xs with|nil=>rfl|cons _ _=>cases l
  subst this;obtain⟨t,et,kt⟩:=aI g;obtain⟨a,vs,ea,ha,la,rp2⟩:=fM rp;cases ea;obtain⟨w,ew⟩:=qB la et;rw[la]at ew;refine HB pins s σ H _ _ v us Q I rx r ⟨a,vs,w,rfl,rfl,ha,ew,c _ _ _ _ kt ?_⟩;have rp3:Rp X.K H ((.bare,some (.ref a))::(zz ts.dropLast vs.dropLast++((t,some w)::Γ))):=rp2.perm (.cons _ (((Fh la et ew).append_right Γ).trans j_.symm));exact(eQ rp3 (by rw[M9,M9,la]) Put.up).perm (.swap _ _ _)
 exact QU g
end
noncomputable def outs(ms:List Bool)(env:Ev):List T:=ms.zipWith (fun b t=>if b then t else .any) env
noncomputable def κm(ms:List Bool)(j:Nat):Bool:=match ms[j]? with
 |some b=>b
 |none=>false
theorem lM{K:Qz}{H:Hp}{Γ:Fm}:∀{ms:List Bool}{env:Ev}{σ:L2.St}{vs:List V},ms.length=vs.length->(∀j,κm ms j=true->σ[j]?=(vs[j]?).map some)->Rp K H (env.zip σ++Γ)->Rp K H (zz (outs ms env) vs++Γ)
 | [],env,σ,vs,l,k,h=>h.part
 | _::_,_,_,[],l,_,_=>by cases l
 |m::ms,[],σ,v::vs,l,k,h=>h
 |m::ms,t::env,[],v::vs,l,k,h=>by
  have ih:=lM (ms:=ms) (env:=env) (σ:=[]) (vs:=vs) (by simpa using l) (fun j hj=>by have:=k (j+1) hj;simpa using this) (by simpa using h)
  cases m with
  |true=>have:=k 0 rfl;simp at this
  |false=>exact gy ih
 |m::ms,t::env,x::σ,v::vs,l,k,h=>by
  have h:Rp K H ((t,x)::(env.zip σ++Γ)):=h;have ks:∀j,κm ms j=true->σ[j]?=(vs[j]?).map some:=fun j hj=>by have:=k (j+1) hj;simpa using this
  cases m with
  |true=>
   have e:x=some v:=by have:=k 0 rfl;simpa using this
   subst e;have h2:Rp K H (env.zip σ++((t,some v)::Γ)):=h.perm j_.symm;exact(lM (ms:=ms) (by simpa using l) ks h2).perm j_
  |false=>exact gy (lM (ms:=ms) (by simpa using l) ks h.tail)
theorem CG(l:ts.length=vs.length)(n:Nat)(h:Rp K H (zz ts vs++Γ)):Rp K H ((ts++MX n T.any).zip (vs.map some++MX n none)++Γ):=by
 rw[P5 (by rw[a_];exact l),l_];have:∀n,Rp K H (zz ts vs++((MX n T.any).zip (MX n (none:Option V))++Γ)):=by
  intro n;induction n with
  |zero=>exact h
  |succ n ih=>
   rw[Pl,Pl];exact(gy (x:=none) ih).perm j_.symm
 exact this n
variable {N:List Str}
theorem bz{P:QL}{mg:Str->Option Qy}{base:QR}{x qual:Str}{f:QA}{fd:QW}{k:Nat}{Pr:FP}(F:Fun K x qual st f fd)(S:FnScope N ps (ax st))(ms:List Bool)(hms:ms.length=ps.length)
  (body:∀(cdv:Qy) (A:QY) (outer:List Env) (s:QB) (H:Hp) (E:XK),Room k (A.deeper (TB qual (ax st) s.heap.objs.size f cdv))->
   ∃fb,GSs (κm ms) (x5 CX0 P w K mg base N qual (ax st) f cdv A outer s H E).nox (cO st) fb/\∀ts kk,ts.length=ps.length->Pr ts kk->fb { nx:=fun env=>kk .non (outs ms env),rt:=fun t env=>kk t (outs ms env) } (ts++MX (N.length-ps.length) .any)) :
  FnOk P w K mg base CX0 (k+1) f fd ps (aG K ps.length Pr):=by
 refine F.ok S (by rintro vs H Q E ⟨ts,Fr,kk,h1,h2,_⟩;exact h2) ?_;rintro cdv A outer s H vs Q E hr ⟨ts,Fr,kk,h1,h2,rp,pr,c⟩;obtain⟨fb,hb,q⟩:=body cdv A outer s H E hr;refine⟨_,hb,ts++MX (N.length-ps.length) .any,Fr,_,?_,q ts kk (by rw[h1,h2]) pr,?_⟩
 ·unfold L2.start;rw[h2];refine⟨by simp[h1],CG h1 _ rp⟩
 have kv:∀{σ'},Kept (κm ms) (L2.start N vs) σ'->∀j,κm ms j=true->σ'[j]?=(vs[j]?).map some:=fun{σ'} kp j hj=>by
  rw[kp.2 j hj];unfold L2.start;have hj2:j<vs.length:=by
   rw[h2,<-hms];unfold κm at hj;split at hj
   ·rename_i b e;exact(f_.mp e).1
   cases hj
  rw[MM (by rw[a_];exact hj2),B']
 refine⟨fun env' σ' H' q' rs' k'=>c _ _ _ _ q' ?_,fun t env' v σ' H' q' rs' k'=>c _ _ _ _ q' ?_,fun _ _ _ z=>z.elim,fun _ _ _ z=>z.elim⟩
 ·exact bO (lM (by rw[hms,h2]) (kv k') rs'.2) fun _=>.non
 exact(lM (Γ:=(t,some v)::Fr) (by rw[hms,h2]) (kv k') rs'.2).perm j_
open PySem PySem.Spec PyProof.Rows L2
section
variable{X:Cx}{pos:Pos}
theorem Bv{te:TE}(h:PS X st (DT te (yy i))):PS X st (fun D σ H=>te σ H fun v H'=>Gr H H'/\D.nx (σ.set i (some v)) (over H H')):=by
 intro pins s σ H D I q;have key:=h pins s σ H { nx:=fun σ' H'=>Gr H H'/\D.nx σ' (over H H'),rt:=fun _ _=>False} I q;refine thn key fun f s' hs=>?_;cases f with
 |next=>
  obtain⟨σ',H',I',g,q'⟩:=hs;exact⟨σ',over H H',qN I I' g,q'⟩
 |brk=>obtain⟨_,_,_,z⟩:=hs;exact z.elim
 |cont=>obtain⟨_,_,_,z⟩:=hs;exact z.elim
 |ret u=>obtain⟨_,_,_,_,_,z⟩:=hs;exact z.elim
theorem F6{f:PF}{σ:L2.St}{Q:VK}(h:wE K (fQ f) σ H Q):wE K f σ H fun v H'=>Gr H H'/\Q v (over H H'):=by
 obtain⟨env,Fr,k,rs,q,c⟩:=h;have rv:Rs K H (erL env) σ ((Fr.map fun p=>(er p.1,p.2))++[(.kp H,some .non)]):=by refine⟨by rw[uM];exact rs.1,?_⟩;have:=uO rs.2;rw[p_,oT,l_]at this;exact this
 refine⟨erL env,_,_,rv,q,?_⟩;rintro t env' v H' ⟨n,kt⟩ rs';obtain⟨g,r2⟩:=uB rs.2 (Δ:=env'.zip σ++(Fr.map fun p=>(er p.1,p.2))) (by rw[l_];exact rs'.head) n;exact⟨g,c t env v _ kt (.of rs.1 r2)⟩
theorem pW{esc:RC}(S:FnScope N ps esc){x:Str}{pos pos':Pos}(N':List Str)(fr:List (Option Nat))(nd:N'.Nodup){elt target iter:QQ}{ifs:List QQ}{sc:RC}{pos2:Pos}{g:PG'}(C:jX N esc sc N' fr=true)
  (hi:X.N[i]?=some x) (hx:Loc X.env.scope x) (hκ:κ i=false) (hit:GI X target iter fi) (hg:∀s3 H3 fp,GG (κc fr) (aZ X N' sc s3 H3 fp) target g) (ht:∀s3 H3 fp,GTs (aZ X N' sc s3 H3 fp) ifs ft) (he:∀s3 H3 fp,GE (aZ X N' sc s3 H3 fp) elt fe)
  (hsw:Tt (.ListComp elt [⟨target,iter,ifs,0⟩] sc pos2) (some (.Name x pos')) pos.line X.env=pure true) (hf:X.fn x=true:=by rfl)
  (hc:X.calm=true:=by rfl) (hN:X.N=N:=by rfl) (hS:X.env.scope=esc:=by rfl) (hs:∀x,Ry iter X.env x=pure x:=by intro _;rfl):GS κ X (.Assign [.Name x pos'] (.ListComp elt [⟨target,iter,ifs,0⟩] sc pos2) pos) (Hv i (fQ (zQ fr fi g ft fe))):=by
 refine PS.imp (Bv (E7 S N' fr nd C hi hx hit hg ht he hsw hf hc hN hS hs)) ?_;rintro D σ H ⟨env,Fr,pe,rs,q,c⟩;exact BC σ H _ (F6 (Q:=fun v H'=>D.nx (σ.set i (some v)) H') ⟨env,Fr,_,rs,q,fun t env' v H' q1 rs1=>c.nx _ _ _ q1 rs1.put (.set hκ)⟩)
theorem dZ{x:Str}{n:String}(hg:Gl X x)(hm:X.mg x=none)(hv:R6 x=some (.type n))(hn:x≠"__name__":=by decide)(hd:(x ==("__debug__":Str))=false:=by decide):GE X (.Name x pos) (fK (.ty n)):=
 PE.imp (F9 (v:=.ty n) hg hm hv rfl hn hd) fun σ H Q ⟨env,Fr,k,rs,q,c⟩=>c _ _ _ _ q (eG rs fun _=>.ty)
noncomputable def Glb(K:Qz)(mg:Str->Option Qy)(x:Str)(t:T):Prop:=∃v u,mg x=some u/\RelV v u/\∀Hz H,RepT K Hz H t v []
theorem KL{x:Str}(G:Glb X.K X.mg x t)(hg:Gl X x)(hd:(x ==("__debug__":Str))=false:=by decide):GE X (.Name x pos) (fK t):=by obtain⟨v,u,hm,r,ht⟩:=G;exact FN hg hm r ht hd
theorem ux:GE X (.Dict [] [] pos) (fK (.dT true [])):=PE.imp C7 (by rintro σ H Q ⟨env,Fr,k,rs,q,c⟩;exact fun p hp=>c _ _ _ _ q (.of rs.1 (EE rs.2 hp (bH hp _) aQ)))
noncomputable def Ho:T->Option Ty
 | .non=>some .non
 | .bl _=>some .bl
 | .int _=>some .int
 | .str _=>some .str
 | .tup _=>some .tup
 | .cst _=>some .tup
 | .lst _ _=>some .lst
 | .dK _ _=>some .dct
 | _=>none
noncomputable def E5:String->Option Ty
 | "NoneType"=>some .non
 | "bool"=>some .bl
 | "int"=>some .int
 | "str"=>some .str
 | "list"=>some .lst
 | "tuple"=>some .tup
 | "dict"=>some .dct
 | _=>none
theorem yP{n:String}{c:Ty}(h:E5 n=some c):n=c.nm:=by unfold E5 at h;split at h <;> cases h <;> rfl
noncomputable def zt:List T->Option (List Ty)
 | []=>some []
 | .ty n::r=>match E5 n,zt r with
  |some c,some cs=>some (c::cs)
  | _,_=>none
 | _::_=>none
noncomputable def fU:P1s
 | [x,.ty n],k=>got (Ho x) fun t=>got (E5 n) fun c=>k (.bl (isA t c))
 | [x,.tup ts],k=>got (Ho x) fun t=>got (zt ts) fun cs=>k (.bl (cs.any (isA t)))
 | _,_=>False
theorem G1{n:String}(h:Rp K H ((.ty n,some y)::Γ)):y=.ty n:=by obtain⟨_,_,r,_⟩:=eC h rfl;cases r;rfl
theorem BQ{K:Qz}{H:Hp}{Γ:Fm}:∀{ts:List T}{cs:List Ty}{vs:List V},zt ts=some cs->ts.length=vs.length->Rp K H (zz ts vs++Γ)->vs=cs.map fun c=>V.ty c.nm
 | [],cs,[],e,_,_=>by cases e;rfl
 | [],_,_::_,_,l,_=>by cases l
 | _::_,_,[],_,l,_=>by cases l
 |t::ts,cs,v::vs,e,l,h=>by
  cases t <;> first|cases e|skip
  rename_i n;rw[zt]at e;split at e
  ·rename_i c r e1 e2;cases e;have h:Rp K H ((.ty n,some v)::(zz ts vs++Γ)):=h;rw[G1 h,yP e1,BQ e2 (by simpa using l) h.tail]
   rfl
  cases e
theorem D7{c:Ty}(e:Ho t=some c)(h:Rp K H ((t,some y)::Γ)):TyG K H y c:=by
 cases t with
 |non=>cases e;rw[uY h];exact .non
 |bl b=>cases e;rw[oj h];exact .bl b
 |int i=>cases e;rw[aN h];exact .int i
 |str x=>cases e;rw[kh h];exact .str x
 |tup ts=>cases e;obtain⟨a,vs,rfl,hq,_⟩:=aF rfl h;exact .tup hq
 |cst ts=>cases e;obtain⟨a,vs,rfl,hq,_⟩:=aF rfl h;exact .tup hq
 |lst o ts=>cases e;obtain⟨a,vs,rfl,hq,_⟩:=aF rfl h;exact .lst hq
 |dK o kvs=>
  cases o with
  |true=>cases e;obtain⟨a,vs,ea,hq,_⟩:=pC h;cases ea;exact .dct (.inl hq)
  |false=>
   cases e;obtain⟨Hz,L,r,g⟩:=eC h rfl;cases r;rename_i a vs hq _;exact .dct (g _ _ hq)
 | _=>cases e
theorem b9:fT X (.builtin "isinstance") fU:=by
 rintro pins s σ H xs us Q I r ⟨ts,Γ,k,l,rp,g,c⟩;unfold fU at g;split at g
 ·rename_i k x n;obtain⟨y,z,rfl⟩:=zz2 l rfl;have rp:Rp X.K H ((x,some y)::(.ty n,some z)::Γ):=rp;obtain⟨t,et,g⟩:=aI g;obtain⟨ct,ec,kt⟩:=aI g;rw[G1 rp.tail,yP ec]at r;have e1:[ct].any (isA t)=isA t ct:=by simp
  refine ox pins s σ H _ us Q I r ⟨y,_,t,[ct],rfl,D7 et rp,.inl ⟨ct,rfl,rfl⟩,?_⟩;rw[e1];exact c _ _ _ kt (bO rp.tail.tail fun _=>.bl)
 ·rename_i k x us';obtain⟨y,z,rfl⟩:=zz2 l rfl;have rp:Rp X.K H ((x,some y)::(.tup us',some z)::Γ):=rp;obtain⟨t,et,g⟩:=aI g;obtain⟨cs,ec,kt⟩:=aI g;obtain⟨a,vs,rfl,ha,la,rp2⟩:=pg rp.tail;have hv:=BQ ec la rp2;subst hv;exact ox pins s σ H _ us Q I r ⟨y,_,t,cs,rfl,D7 et rp,.inr ⟨a,rfl,ha⟩,c _ _ _ kt (bO rp.tail.tail fun _=>.bl)⟩
 exact QU g
end
section
variable{κ':Type}[DecidableEq κ']
theorem vT:∀{ts:List (κ'×T)}{vs:List (κ'×V)} (q:κ') (t:T) (w:V),ts.map (·.1)=vs.map (·.1)->(lN ts q t).map (·.1)=(putK vs q w).map (·.1):=by
 intro ts vs q t w e;have ha:(ts.any fun kv=>decide (kv.1=q))=(vs.any fun kv=>decide (kv.1=q)):=by
  have e1:(ts.any fun kv=>decide (kv.1=q))=(ts.map (·.1)).any fun k=>decide (k=q):=by rw[Qg];rfl
  have e2:(vs.any fun kv=>decide (kv.1=q))=(vs.map (·.1)).any fun k=>decide (k=q):=by rw[Qg];rfl
  rw[e1,e2,e]
 unfold lN putK;rw[ha];split
 ·rw[A',A'];have f1:((fun x:κ'×T=>x.1) ∘ fun kv=>if kv.1=q then(kv.1,t)else kv)=fun x=>x.1:=by funext kv;show(if kv.1=q then(kv.1,t)else kv).1=kv.1;split <;> rfl
  have f2:((fun x:κ'×V=>x.1) ∘ fun kv=>if kv.1=q then(kv.1,w)else kv)=fun x=>x.1:=by funext kv;show(if kv.1=q then(kv.1,w)else kv).1=kv.1;split <;> rfl
  rw[f1,f2,e]
 rw[p_,p_,e]
 rfl
theorem r9:∀{ts:List (κ'×T)}{vs:List (κ'×V)} (q:κ') (t:T) (w:V),ts.map (·.1)=vs.map (·.1)->(vs.map (·.1)).Nodup->∃r,((t,some w)::zz (ts.map (·.2)) (vs.map (·.2))).Perm (r++zz ((lN ts q t).map (·.2)) ((putK vs q w).map (·.2))):=by
 intro ts vs q t w e nd;by_cases hm:q∈vs.map (·.1)
 ·
  have ha:(vs.any fun kv=>decide (kv.1=q))=true:=by obtain⟨kv,h1,h2⟩:=r_.mp hm;exact Ni.mpr ⟨kv,h1,decide_eq_true h2⟩
  have hb:(ts.any fun kv=>decide (kv.1=q))=true:=by rw[<-e]at hm;obtain⟨kv,h1,h2⟩:=r_.mp hm;exact Ni.mpr ⟨kv,h1,decide_eq_true h2⟩
  unfold lN putK;rw[if_pos ha,if_pos hb];clear ha hb;induction ts generalizing vs with
  |nil=>
   have:vs=[]:=by cases vs with|nil=>rfl|cons _ _=>cases e
   subst this;cases hm
  |cons a ts ih=>
   cases vs with
   |nil=>cases e
   |cons b vs=>
    obtain⟨k1,t1⟩:=a;obtain⟨k2,v1⟩:=b;rw[g_,g_,MO]at e;have ek:k1=k2:=e.1;subst ek;rw[g_,G_]at nd;by_cases hk:k1=q
    ·subst hk;have n1:∀kv∈ts,kv.1≠k1:=fun kv hkv z=>nd.1 (by rw[<-e.2];exact r_.mpr ⟨kv,hkv,z⟩)
     have n2:∀kv∈vs,kv.1≠k1:=fun kv hkv z=>nd.1 (r_.mpr ⟨kv,hkv,z⟩);have m1:ts.map (fun kv=>if kv.1=k1 then(kv.1,t)else kv)=ts:=by
      conv=>rhs;rw[<-Oy ts]
      exact Mx fun kv hkv=>if_neg (n1 kv hkv)
     have m2:vs.map (fun kv=>if kv.1=k1 then(kv.1,w)else kv)=vs:=by
      conv=>rhs;rw[<-Oy vs]
      exact Mx fun kv hkv=>if_neg (n2 kv hkv)
     refine⟨[(t1,some v1)],?_⟩;simp only[g_,if_true,m1,m2];exact .swap _ _ _
    have hm':q∈vs.map (·.1):=by
     rcases m_.mp hm with z|z
     ·exact absurd z.symm hk
     exact z
    obtain⟨r,p⟩:=ih e.2 nd.2 hm';refine⟨r,?_⟩;simp only[g_,if_neg hk];show Qa ((t,some w)::(t1,some v1)::zz (ts.map (·.2)) (vs.map (·.2))) (r++((t1,some v1)::zz ((ts.map fun kv=>if kv.1=q then(kv.1,t)else kv).map (·.2)) ((vs.map fun kv=>if kv.1=q then(kv.1,w)else kv).map (·.2))));exact(MZ _ _ _).trans ((p.cons _).trans j_.symm)
 have ha:(vs.any fun kv=>decide (kv.1=q))=false:=by rw[Nv];intro z;obtain⟨kv,h1,h2⟩:=Ni.mp z;exact hm (r_.mpr ⟨kv,h1,of_decide_eq_true h2⟩)
 have hb:(ts.any fun kv=>decide (kv.1=q))=false:=by rw[Nv];intro z;obtain⟨kv,h1,h2⟩:=Ni.mp z;exact hm (by rw[<-e];exact r_.mpr ⟨kv,h1,of_decide_eq_true h2⟩)
 unfold lN putK;rw[ha,hb];refine⟨[],?_⟩;simp only[LQ,if_false,Oi];rw[p_,p_,jS (by rw[a_,a_];exact bY e)];exact(Mz (l₁:=[(t,some w)]))
end
noncomputable def wM:T->T->T->(T->Prop)->Prop
 | .lst true ts,.int i,v,k=>got (ixN ts.length i) fun j=>k (.lst true (ts.set j v))
 | .dK true kvs,y,v,k=>got (xu y) fun q=>kvs.length<sizeLine/\k (.dK true (lN kvs q v))
 | .dT true kvs,.tup ks,v,k=>got (oQ ks) fun q=>kvs.length<sizeLine/\k (.dT true (lN kvs q v))
 | _,_,_,_=>False
section
variable{X:Cx}{κ:Nat->Bool}{pos:Pos}
theorem DK{P:QL}{h:QR}{kvs:List (List Key×V)}(ok:HOk P w H h)(e:H a=some (.dT kvs)):(kvs.map (·.1)).Nodup:=by
 obtain⟨z,y,xs,r,o,es,ep,h1,h2,h3,h4,h5⟩:=ok a _ e;have:kvs.map (·.1)=xs.map (·.1):=by
  clear h4 h5 h1 z e;induction r with
  |nil=>rfl
  |cons q _ ih=>rw[g_,g_,ih,q.1]
 rw[this];exact h5
theorem CI{P:QL}{h:QR}{kvs:List (Key×V)}(ok:HOk P w H h)(e:H a=some (.dK kvs)):(kvs.map (·.1)).Nodup:=by
 obtain⟨z,y,vs,r,o,es,ep,h1,h2,h3,h4,h5,h6⟩:=ok a _ e;have:kvs.map (·.1)=vs.map (·.1):=by
  clear h6 h5 h4 h1 z e;induction r with
  |nil=>rfl
  |cons q _ ih=>rw[g_,g_,ih,q.1]
 rw[this];exact h6
theorem D5:∀{ts:List T}{vs:List V}{j:Nat}{t:T}{w:V},ts.length=vs.length->j<ts.length->∃r,((t,some w)::zz ts vs).Perm (r::zz (ts.set j t) (vs.set j w))
 | [],vs,j,t,w,l,h=>by cases h
 |a::ts,[],j,t,w,l,h=>by cases l
 |a::ts,b::vs,0,t,w,l,h=>⟨(a,some b),.swap _ _ _⟩
 |a::ts,b::vs,j+1,t,w,l,h=>by obtain⟨r,p⟩:=D5 (ts:=ts) (vs:=vs) (j:=j) (t:=t) (w:=w) (by simpa using l) (by simpa using h);exact⟨r,(MZ _ _ _).trans ((p.cons _).trans (.swap _ _ _))⟩
theorem Jg(hr:Room kr X.A):xB X (fun o i v H Q=>∃t ti tv Γ k,Rp X.K H ((t,some o)::(ti,some i)::(tv,some v)::Γ)/\wM t ti tv k/\∀t' H',k t'->Rp X.K H' ((t',some o)::Γ)->Q H'):=by
 rintro pins s σ H o i v ov iv u Q I ro ri rv ⟨t,ti,tv,Γ,k,rp,g,c⟩;cases t with
 |lst own ts=>
  cases own <;> cases ti <;> first|exact QU g|skip
  rename_i j;obtain⟨m,em,kt⟩:=aI g;rw[aN rp.tail]at ri;obtain⟨a,vs,ea,ha,la,rp2⟩:=fM rp;cases ea;have hm:m<ts.length:=by have:=(uA em).2.1;exact this
  rw[la]at em;refine A6 pins s σ H _ _ v ov iv u Q I ro ri rv ⟨a,vs,j,m,rfl,rfl,ha,em,fun H' hp=>c _ _ kt ?_⟩;obtain⟨r,p⟩:=D5 (t:=tv) (w:=v) la hm;have rp3:Rp X.K H ((.bare,some (.ref a))::(zz ts vs++((tv,some v)::Γ))):=by
   have:Rp X.K H ((.int j,some i)::((.bare,some (.ref a))::(zz ts vs++((tv,some v)::Γ)))):=rp2.perm (by refine C' (.cons _ j_) ?_;exact .swap _ _ _)
   exact this.tail
  have rp4:Rp X.K H (r::((.bare,some (.ref a))::(zz (ts.set m tv) (vs.set m v)++Γ))):=rp3.perm (by refine C' (.cons _ (j_.trans (p.append_right Γ))) ?_;exact .swap _ _ _)
  exact eQ rp4.tail (by rw[LO,LO,la]) hp
 |dK own kvs=>
  cases own <;> first|exact QU g|skip
  have g:got (xu ti) fun q=>kvs.length<sizeLine/\k (.dK true (lN kvs q tv)):=by cases ti <;> exact g
  obtain⟨q,eq,hz,kt⟩:=aI g;rw[zP eq rp.tail]at ri;obtain⟨a,vs,ea,ha,la,rp2⟩:=pC rp;cases ea;cases ro;have hl:vs.length<sizeLine:=by rw[<-bY la];exact hz
  refine nK (sE hr) I (.inl ⟨vs,q,ha,rfl,hl,rfl⟩) ri rv fun s' I'=>⟨_,I',c _ _ kt ?_⟩;obtain⟨r,p⟩:=r9 q tv v la (CI I.hok ha);have rp3:Rp X.K H ((.bare,some (.ref a))::(zz (kvs.map (·.2)) (vs.map (·.2))++((tv,some v)::Γ))):=by
   have:Rp X.K H ((ti,some i)::((.bare,some (.ref a))::(zz (kvs.map (·.2)) (vs.map (·.2))++((tv,some v)::Γ)))):=rp2.perm (by refine C' (.cons _ j_) ?_;exact .swap _ _ _)
   exact this.tail
  have rp4:Rp X.K H (r++((.bare,some (.ref a))::(zz ((lN kvs q tv).map (·.2)) ((putK vs q v).map (·.2))++Γ))):=rp3.perm (by refine C' (.cons _ (j_.trans (p.append_right Γ))) ?_;rw[l_];exact j_.symm)
  exact sW rp4.part (vT q tv v la) Put.up
 |dT own kvs=>
  cases own <;> cases ti <;> first|exact QU g|skip
  rename_i ks;obtain⟨q,eq,hz,kt⟩:=aI g;obtain⟨b,rfl,hb⟩:=yY eq rp.tail;obtain⟨a,vs,ea,ha,la,rp2⟩:=Bi rp;cases ea;cases ro;have hl:vs.length<sizeLine:=by rw[<-bY la];exact hz
  refine nK (sE hr) I (.inr ⟨vs,q,b,ha,rfl,hb,hl,rfl⟩) ri rv fun s' I'=>⟨_,I',c _ _ kt ?_⟩;obtain⟨r,p⟩:=r9 q tv v la (DK I.hok ha);have rp3:Rp X.K H ((.bare,some (.ref a))::(zz (kvs.map (·.2)) (vs.map (·.2))++((tv,some v)::Γ))):=by
   have:Rp X.K H ((.tup ks,some (.ref b))::((.bare,some (.ref a))::(zz (kvs.map (·.2)) (vs.map (·.2))++((tv,some v)::Γ)))):=rp2.perm (by refine C' (.cons _ j_) ?_;exact .swap _ _ _)
   exact this.tail
  have rp4:Rp X.K H (r++((.bare,some (.ref a))::(zz ((lN kvs q tv).map (·.2)) ((putK vs q v).map (·.2))++Γ))):=rp3.perm (by refine C' (.cons _ (j_.trans (p.append_right Γ))) ?_;rw[l_];exact j_.symm)
  exact Ak rp4.part (vT q tv v la) Put.up
 | _=>cases ti <;> exact QU g
noncomputable def Gq(i:Nat)(fi:PF):PG':=fun v env k=>got (env[i]?) fun t0=>isAny t0=false/\fi env fun ti env1=>got (env1[i]?) fun t=>wM t ti v fun t'=>k (env1.set i t')
theorem pD{x:Str}{ix:QQ}{fi:PF}(hr:Room kr X.A)(hi:GE X ix fi)(hN:X.N[i]?=some x:=by rfl)(hv:Vis X.env.scope x:=by first|exact e_ rfl|exact s_ (e_ rfl)|exact s_ (s_ rfl))(hd:(x ==("__debug__":Str))=false:=by decide)(hcd:(x ==("__classdict__":Str))=false:=by decide)
  (ha:∀v,Tg (.Subscript (.Name x xp) ix pos) X.env v=(do
   let ov <-Tu [v] (Q9 (.Name x xp) X.env)
   let iv <-Tu [v,ov] (Q9 ix X.env)
   Wl pos
   Tu [v,ov,iv] (Wk ov iv v)
   release [v,ov,iv] []):=by intro _;rfl):GG κ X (.Subscript (.Name x xp) ix pos) (Gq i fi):=by
 rintro pins s σ H v u Q I r ⟨tv,env,Fr,k,rs,q,c⟩;obtain⟨t0,e0,na,q⟩:=aI q;obtain⟨y,ey,rs2⟩:=rs.slot e0;obtain⟨w,rfl⟩:=dM rs2 na;refine Di (fZ hN hv hd hcd) hi (Jg hr) ha pins s σ H v u Q I r ⟨w,ey,env,(tv,some v)::Fr,_,rs,q,fun ti env1 iv H1 q1 rs1=>?_⟩;obtain⟨t,et,q1⟩:=aI q1;obtain⟨y',ey',rs3⟩:=rs1.slot et;rw[ey]at ey';cases ey';have hi':i<env1.length:=(f_.mp et).1;refine⟨t,ti,tv,(env1.set i .any).zip σ++Fr,_,?_,q1,fun t' H' kt rp=>c _ _ _ kt ?_ .refl⟩
 ·refine rs3.head.perm (.cons _ ?_);refine C' j_ (.cons _ ?_);exact j_
 have r4:Rs X.K H' (env1.set i .any) σ ((t',some w)::Fr):=.of rs3.1 rp;have r5:=Rs.o7 (i:=i) r4 (by rw[LO];exact hi') ey;rw[OU]at r5;exact r5
end
open PySem PySem.Spec PyProof.Rows L2
class Th (α:Type) where
 v:α
noncomputable def KI(P:FP)(ts:List T)[k:Th (T->List T->Prop)]:Prop:=P ts k.v
noncomputable def jH(b:Bool)[A:Th Prop][B:Th Prop]:Prop:=cnd b A.v B.v
noncomputable def cM(o:Option α)[k:Th (α->Prop)]:Prop:=got o k.v
noncomputable def G3(fr:List (Option Nat))(its:List T)(g:PG')(ft:PB)(fe:PF)(env:Ev)[k:Th (T->Ev->Prop)]:Prop:=G0 fr its g ft fe env k.v
theorem dB{u:α}{k:Th (α->Prop)}:cM (some u) (k:=k)=k.v u:=rfl
theorem aY{o:Option α}{u:α}{k:Th (α->Prop)}(e:o=some u)(h:k.v u):cM o (k:=k):=IQ e h
variable {A B:Th Prop}
theorem dP:jH true (A:=A) (B:=B)=A.v:=propext ⟨fun h=>h.1 rfl,fun h=>GB h⟩
theorem cL:jH false (A:=A) (B:=B)=B.v:=propext ⟨fun h=>h.2 rfl,fun h=>G5 h⟩
theorem iY:jH (!b) (A:=A) (B:=B)=jH b (A:=B) (B:=A):=by cases b <;> simp only[Pf,O9,dP,cL]
theorem nA(h1:b=true->A.v)(h2:b=false->B.v):jH b (A:=A) (B:=B):=⟨h1,h2⟩
theorem ba{p:Prop}{d:Decidable p}(h1:p->A.v)(h2:¬p->B.v):jH (decide p) (A:=A) (B:=B):=⟨fun h=>h1 (of_decide_eq_true h),fun h=>h2 (of_decide_eq_false h)⟩
theorem oR(e:b=true)(h:A.v):jH b (A:=A) (B:=B):=by rw[e];exact GB h
theorem Fv(e:b=false)(h:B.v):jH b (A:=A) (B:=B):=by rw[e];exact G5 h
variable {gt:PG'}{ko:Option Int->Ev->Prop}
section
variable{f g:PF}{env:Ev}{k:T->Ev->Prop}{kb:Bool->Ev->Prop}{tc td:PB}{pe:PEn}{u v:PSt}{fs:PFs}{fa:PAs}{ks:List T->Ev->Prop}{ka:List Arg->Ev->Prop}
theorem sM:fQ f env k=f (erL env) fun t _=>cg t=true/\k t env:=rfl
theorem nY:fQT tc env kb=tc (erL env) fun b _=>kb b env:=rfl
theorem rh:fK t env k=k t env:=rfl
theorem iP:DQ i env k=cM (env[i]?) (k:=⟨fun t=>isAny t=false/\aW t=true/\k t env⟩):=by unfold DQ;cases env[i]? <;> rfl
theorem nW:fFz i env k=cM (env[i]?) (k:=⟨fun t=>isAny t=false/\k (er t) (env.set i (er t))⟩):=by unfold fFz;cases env[i]? <;> rfl
theorem ng:fMv i env k=cM (env[i]?) (k:=⟨fun t=>isAny t=false/\k t (env.set i .any)⟩):=by unfold fMv;cases env[i]? <;> rfl
theorem jg{p:P2}:Aq p f g env k=f env fun x env1=>g env1 fun y env2=>p x y fun t=>k t env2:=rfl
theorem mB{p:T->(T->Prop)->Prop}:fUn p f env k=f env fun t env1=>p t fun u=>k u env1:=rfl
noncomputable def asB(t:T)[k:Th (Bool->Prop)]:Prop:=match t with
 | .bl b=>k.v b
 | _=>False
theorem mY{k:Th (Bool->Prop)}:asB (.bl b) (k:=k)=k.v b:=rfl
theorem i5:Et f env kb=f env fun t env1=>asB t (k:=⟨fun b=>kb b env1⟩):=rfl
theorem iq:Jz f env kb=f env fun t env1=>Ei t fun b=>kb b env1:=rfl
theorem dk{p q:P2}{h:PF}:xm p q f g h env k=f env fun x env1=>g env1 fun y env2=>aW y=true/\p x y fun z=>asB z (k:=⟨fun b=>jH b (A:=⟨h env2 fun u env3=>q y u fun t=>k t env3⟩) (B:=⟨k (.bl false) env2⟩)⟩):=rfl
theorem eK:G2 tc td env kb=tc env fun b env1=>jH b (A:=⟨td env1 kb⟩) (B:=⟨kb false env1⟩):=rfl
theorem jy:JD tc td env kb=tc env fun b env1=>jH b (A:=⟨kb true env1⟩) (B:=⟨td env1 kb⟩):=rfl
theorem fw:GC tc env kb=tc env fun b env1=>kb (!b) env1:=rfl
theorem iQ:KW f g env k=f env fun t env1=>asB t (k:=⟨fun b=>jH b (A:=⟨g env1 k⟩) (B:=⟨k (.bl false) env1⟩)⟩):=rfl
theorem i8:Kw f env k=f env fun t env1=>asB t (k:=⟨fun b=>k (.bl (!b)) env1⟩):=rfl
theorem nI:fIf tc f g env k=tc env fun b env1=>jH b (A:=⟨f env1 k⟩) (B:=⟨g env1 k⟩):=rfl
theorem iu:Hs env ks=ks [] env:=rfl
theorem fy:FO f fs env ks=f env fun t env1=>fs env1 fun ts env2=>ks (t::ts) env2:=rfl
theorem jj:KS fs env k=fs env fun ts env1=>ts.length<=sizeLine/\k (.tup ts) env1:=rfl
theorem hZ:Km fs env k=fs env fun ts env1=>ts.length<=sizeLine/\k (.lst true ts) env1:=rfl
theorem nE{p:P1s}:fCl p fs env k=fs env fun ts env1=>p ts fun t=>k t env1:=rfl
theorem jx:Jh env ka=ka [] env:=rfl
theorem jG:Jm f fa env ka=f env fun t env1=>fa env1 fun as env2=>ka (.val t::as) env2:=rfl
theorem iF:J2 i fa env ka=cM (env[i]?) (k:=⟨fun t=>isAny t=false/\fa env fun as env2=>ka (.bor i::as) env2⟩):=by
 unfold J2;cases env[i]? with
 |none=>exact propext ⟨fun h=>h.1,fun h=>h.elim⟩
 |some t=>rfl
theorem iM:Ik n P fa env k=fa env fun as env1=>as.length=n/\KI P (lend as env1).1 (k:=⟨fun t ts'=>k t (back as ts' (lend as env1).2)⟩):=rfl
theorem f9:zQ fr fi gt ft fe env k=fi env fun its env1=>G3 fr its gt ft fe env1 (k:=⟨k⟩):=rfl
theorem ff{m:PM}:zW i m fs env k=cM (env[i]?) (k:=⟨fun t0=>isL t0=true/\fs env fun ts env1=>cM (env1[i]?) (k:=⟨fun t=>m t ts fun t' r=>k r (env1.set i t')⟩)⟩):=rfl
theorem nD{fl fh:PO'}:fSl f fl fh env k=f env fun t env1=>fl env1 fun lo env2=>fh env2 fun hi env3=>slT t lo hi fun u=>k u env3:=rfl
theorem jB:Jk env ko=ko none env:=rfl
noncomputable def asI(t:T)[k:Th (Int->Prop)]:Prop:=match t with
 | .int b=>k.v b
 | _=>False
theorem j7{b:Int}{k:Th (Int->Prop)}:asI (.int b) (k:=k)=k.v b:=rfl
theorem iA:Kf f env ko=f env fun t env1=>asI t (k:=⟨fun i=>ko (some i) env1⟩):=rfl
theorem eY:G9 pe env=pe.nx env:=rfl
theorem hJ:JR u v pe env=u {pe with nx:=v pe} env:=rfl
theorem eM:Gh f pe env=f env fun _ env1=>pe.nx env1:=rfl
theorem hX:JT f pe env=f env fun t env1=>pe.rt t env1:=rfl
theorem m9:sIf tc u v pe env=tc env fun b env1=>jH b (A:=⟨u pe env1⟩) (B:=⟨v pe env1⟩):=rfl
theorem ip:Hv i f pe env=f env fun t env1=>pe.nx (env1.set i t):=rfl
theorem j8:Jj f gt pe env=f env fun t env1=>gt t env1 pe.nx:=rfl
noncomputable def asP(ts:List T)(k:T->T->Prop):Prop:=match ts with
 | [t,u]=>k t u
 | _=>False
theorem mh{u:T}{k:T->T->Prop}:asP [t,u] k=k t u:=rfl
theorem jF{p:P2}:GK i f p pe env=cM (env[i]?) (k:=⟨fun t=>isAny t=false/\aW t=true/\f env fun u env1=>p t u fun w=>pe.nx (env1.set i w)⟩):=by
 unfold GK;cases env[i]? with
 |none=>exact propext ⟨fun h=>h.1,fun h=>h.elim⟩
 |some t=>exact propext ⟨fun⟨⟨a,b⟩,c⟩=>⟨a,b,c⟩,fun⟨a,b,c⟩=>⟨⟨a,b⟩,c⟩⟩
theorem d0:Dp tc u pe env=xq tc u pe env:=rfl
theorem jd:Jr fi gt u pe env=fi env fun its env1=>forL its gt u pe env1:=rfl
variable{t:T}{ke:Ev->Prop}{ts:List T}{gt:PG'}{gts:tf}
theorem rF:gN i t env ke=ke (env.set i t):=rfl
theorem gY:Gx [] env ke=ke env:=propext ⟨fun h=>h.2,fun h=>⟨rfl,h⟩⟩
theorem eR:CC gt gts (t::ts) env ke=gt t env fun env1=>gts ts env1 ke:=rfl
theorem iR:gTp n gts (.tup ts) env ke=(ts.length=n/\gts ts env ke):=rfl
theorem fk{fi:PF}:Gq i fi t env ke=cM (env[i]?) (k:=⟨fun t0=>isAny t0=false/\fi env fun ti env1=>cM (env1[i]?) (k:=⟨fun t1=>wM t1 ti t fun t'=>ke (env1.set i t')⟩)⟩):=rfl
variable{ki:List T->Ev->Prop}
theorem jv:KQ f env ki=f env fun t env1=>cM (items t) (k:=⟨fun ts=>ki (erL ts) env1⟩):=rfl
noncomputable def as1(ts:List T)(k:Int->Prop):Prop:=match ts with
 | [.int j]=>k j
 | _=>False
noncomputable def as2(ts:List T)(k:Int->Int->Prop):Prop:=match ts with
 | [.int i,.int j]=>k i j
 | _=>False
theorem mP{j:Int}{k:Int->Prop}:as1 [.int j] k=k j:=rfl
theorem lR{i j:Int}{k:Int->Int->Prop}:as2 [.int i,.int j] k=k i j:=rfl
theorem lU:iR1 fs env ki=fs env fun ts env1=>as1 ts fun j=>(-(2 ^ 62)<=j/\j<2 ^ 62)/\ki (jI 0 j.toNat) env1:=rfl
theorem nL:iR2 fs env ki=fs env fun ts env1=>as2 ts fun i j=>(-(2 ^ 62)<=i/\i<2 ^ 62/\-(2 ^ 62)<=j/\j<2 ^ 62)/\ki (jI i (j-i).toNat) env1:=rfl
theorem mH:iZp fs env ki=fs env fun ts env1=>asP ts fun t u=>cM (items t) (k:=⟨fun as=>cM (items u) (k:=⟨fun bs=>ki (((erL as).zip (erL bs)).map fun p=>.tup [p.1,p.2]) env1⟩)⟩):=rfl
end
variable {hi lo:Option Int}{kb:Bool->Prop}{kvs:List (List Key×T)}
section
variable{k:T->Prop}{i j l:Int}{x y:Str}{ts us:List T}{o o' b c:Bool}{t:T}
theorem iK:IM (.int i) (.int j) k=k (.int (i+j)):=rfl
theorem jq:IM (.lst o ts) (.lst o' us) k=(ts.length+us.length<=sizeLine/\k (.lst true (ts++us))):=rfl
theorem jf:JE (.int i) (.int j) k=k (.int (i-j)):=rfl
theorem iU:KZ (.int i) (.int j) k=(wD i j/\k (.int (i*j))):=rfl
theorem ij:Ji (.int i) (.int j) k=(Au i j/\k (.int (i/j))):=rfl
theorem eO:Gu (.int i) (.int j) k=k (.int (i+j)):=rfl
theorem mQ:ltT (.int i) (.int j) k=k (.bl (decide (i<j))):=rfl
theorem mS:leT (.int i) (.int j) k=k (.bl (decide (i<=j))):=rfl
theorem nF:gtT (.int i) (.int j) k=k (.bl (decide (j<i))):=rfl
theorem lX:geT (.int i) (.int j) k=k (.bl (decide (j<=i))):=rfl
theorem m5:JF (.int i) k=k (.int (-i)):=rfl
theorem mV:eqT (.int i) (.int j) k=k (.bl (decide (i=j))):=by
 unfold eqT;refine propext ⟨fun h=>?_,fun h=>⟨rfl,rfl,show(0:Nat)<190 by decide,?_⟩⟩
 ·have:=h.2.2.2;rw[dt,dt,eqD]at this;rw[MA]at this;exact this
 rw[dt,dt,eqD,MA];exact h
theorem lT:neT (.int i) (.int j) k=k (.bl (!decide (i=j))):=by
 unfold neT;refine propext ⟨fun h=>?_,fun h=>⟨rfl,rfl,show(0:Nat)<190 by decide,?_⟩⟩
 ·have:=h.2.2.2;rw[dt,dt,eqD,MA]at this;exact this
 rw[dt,dt,eqD,MA];exact h
theorem lO:eqT (.str x) (.str y) k=k (.bl (decide (x=y))):=by
 unfold eqT;refine propext ⟨fun h=>?_,fun h=>⟨rfl,rfl,show(0:Nat)<190 by decide,?_⟩⟩
 ·have:=h.2.2.2;rw[dt,dt,eqD,MA]at this;exact this
 rw[dt,dt,eqD,MA];exact h
theorem mN:neT (.bl b) (.bl c) k=k (.bl (!(b == c))):=by
 unfold neT;refine propext ⟨fun h=>?_,fun h=>⟨rfl,rfl,show(0:Nat)<190 by decide,?_⟩⟩
 ·have:=h.2.2.2;rw[dt,dt,eqD]at this;exact this
 rw[dt,dt,eqD];exact h
noncomputable def iT(ns:List Int):T:=.tup (ns.map T.int)
theorem k9{a b c d:Int}:eqT (.tup [.int a,.int b]) (.tup [.int c,.int d]) k=k (.bl (decide (a=c/\b=d))):=by
 have e:eqD (dt (.tup [.int a,.int b])) (dt (.tup [.int c,.int d]))=decide (a=c/\b=d):=by simp only[dt,dtL,eqD,eqL,MA,Pg,Bool.decide_and]
 unfold eqT;rw[e];exact propext ⟨fun h=>h.2.2.2,fun h=>⟨rfl,rfl,(by simp[dt,dtL,dpt,fX]),h⟩⟩
theorem iC:Ke t .non k=(isV t=true/\k (.bl (ql t))):=by cases t <;> rfl
theorem iH:ixT (.tup ts) (.int i) k=cM (atI ts i) (k:=⟨k⟩):=rfl
theorem iZ:ixT (.cst ts) (.int i) k=cM (atI ts i) (k:=⟨k⟩):=rfl
theorem jm:ixT (.lst o ts) (.int i) k=cM (atI ts i) (k:=⟨k⟩):=rfl
theorem fE:oQ []=some []:=rfl
theorem eS:oQ (.int i::ts)=(oQ ts).map fun ks=>Uj i::ks:=by rw[oQ];cases oQ ts <;> rfl
theorem sk(a:α)(l:List α):atI (a::l) 0=some a:=cA (j:=0) rfl
theorem sO(a b:α)(l:List α):atI (a::b::l) 1=some b:=cA (j:=1) rfl
theorem sC(a b c:α)(l:List α):atI (a::b::c::l) 2=some c:=cA (j:=2) rfl
theorem rb(a b c d:α)(l:List α):atI (a::b::c::d::l) 3=some d:=cA (j:=3) rfl
theorem rJ(a b c d e:α)(l:List α):atI (a::b::c::d::e::l) 4=some e:=cA (j:=4) rfl
theorem rR(a b c d e f:α)(l:List α):atI (a::b::c::d::e::f::l) 5=some f:=cA (j:=5) rfl
theorem rj(a b c d e f g:α)(l:List α):atI (a::b::c::d::e::f::g::l) 6=some g:=cA (j:=6) rfl
theorem rq(a b c d e f g h:α)(l:List α):atI (a::b::c::d::e::f::g::h::l) 7=some h:=cA (j:=7) rfl
theorem eZ:B3 [.lst o ts] k=k (.int ts.length):=rfl
theorem fG:B3 [.tup ts] k=k (.int ts.length):=rfl
theorem fC:B3 [.cst ts] k=k (.int ts.length):=rfl
theorem iw:B3 [.dT o kvs] k=k (.int kvs.length):=rfl
theorem mU:Kq [.int i] k=k (.int i.natAbs):=rfl
theorem md:BM [.int i,.int j] k=k (.int (max i j)):=rfl
theorem mW:BM [.int i,.int j,.int l] k=k (.int (max (max i j) l)):=rfl
theorem nk:Bn [.int i,.int j] k=k (.int (min i j)):=rfl
theorem mJ:Bn [.int i,.int j,.int l] k=k (.int (min (min i j) l)):=rfl
theorem ny:BM [.lst o ts] k=cM (intsOf ts) (k:=⟨fun ns=>ns≠[]/\∀r,fV ns r->k (.int r)⟩):=rfl
theorem nP:Bn [.lst o ts] k=cM (intsOf ts) (k:=⟨fun ns=>ns≠[]/\∀r,fW ns r->k (.int r)⟩):=rfl
theorem fA:qc [.lst o ts] k=k (.tup ts):=rfl
theorem o8:IE [.lst o ts] k=cM (boolsOf ts) (k:=⟨fun bs=>k (.bl (bs.all id))⟩):=rfl
theorem rA:slT (.lst o ts) lo hi k=k (.lst true (kM ts lo hi)):=rfl
theorem Ju:slT (.tup ts) lo hi k=(¬(HT.sIx ts.length 0 lo=0/\HT.sIx ts.length ts.length hi=ts.length)/\k (.tup (kM ts lo hi))):=rfl
theorem nX:Ei (.bl b) kb=kb b:=rfl
theorem lQ:Ei (.lst o ts) kb=kb (!ts.isEmpty):=rfl
variable{km:T->T->Prop}
theorem cJ:uz (.lst true ts) [t] km=(ts.length<sizeLine/\km (.lst true (ts++[t])) .non):=rfl
theorem cI:tj (.lst true ts) [.lst true us] km=(ts.length+us.length<=sizeLine/\km (.lst true (ts++us)) .non):=rfl
theorem gS:Hj (.lst true ts) [] km=cM (ts[ts.length-1]?) (k:=⟨fun t=>km (.lst true ts.dropLast) t⟩):=rfl
theorem nZ{ti:T}:wM (.lst true ts) (.int i) t k=cM (ixN ts.length i) (k:=⟨fun j=>k (.lst true (ts.set j t))⟩):=rfl
theorem gX:wM (.dT true kvs) (.tup ts) t k=cM (oQ ts) (k:=⟨fun q=>kvs.length<sizeLine/\k (.dT true (lN kvs q t))⟩):=rfl
end
theorem cq(g:α->T)(l:List α):bF (l.map g)=l.all fun x=>aW (g x):=by rw[qO,Ng];rfl
theorem bQ(g:α->T)(l:List α):cT (l.map g)=l.all fun x=>cg (g x):=by rw[sL,Ng];rfl
theorem fJ(l:List α):(l.all fun _=>true)=true:=by induction l with|nil=>rfl|cons _ _ ih=>rw[OE,ih];rfl
theorem d4:isAny (.non)=false:=rfl
theorem gR:isV (.non)=true:=rfl
theorem dc:ql (.non)=true:=rfl
theorem fv:isAny (.bl b)=false:=rfl
theorem d5{i:Int}:isAny (.int i)=false:=rfl
theorem ik{i:Int}:isV (.int i)=true:=rfl
theorem dw{i:Int}:ql (.int i)=false:=rfl
theorem d9:isAny (.tup ts)=false:=rfl
theorem iV:isV (.tup ts)=true:=rfl
theorem dJ:ql (.tup ts)=false:=rfl
theorem dC:isAny (.cst ts)=false:=rfl
theorem dF:isAny (.lst o ts)=false:=rfl
theorem hC:isV (.lst o ts)=true:=rfl
theorem dD:ql (.lst o ts)=false:=rfl
theorem fB:isAny (.dT o kvs)=false:=rfl
theorem ig:isL (.lst o ts)=true:=rfl
theorem dg:items (.tup ts)=some ts:=rfl
theorem cY:items (.lst o ts)=some ts:=rfl
variable {its:List T}
theorem aS{g:PG'}(W:Nat->Ev->Prop)(h0:W 0 env)(ht:∀i t env,W i env->its[i]?=some t->g t env fun env2=>fb {pe with nx:=W (i+1),ct:=W (i+1),bk:=pe.nx} env2)(he:∀env,W its.length env->pe.nx env):forL its g fb pe env:=⟨W,h0,ht,he⟩
theorem AN(W:Nat->Ev->Prop)(m:Nat)(h0:W m env)(ht:∀m env,W m env->tc env fun b env1=>jH b (A:=⟨fb {pe with nx:=fun e=>∃m',m'<m/\W m' e,ct:=fun e=>∃m',m'<m/\W m' e,bk:=pe.nx} env1⟩) (B:=⟨pe.nx env1⟩)):xq tc fb pe env:=⟨W,⟨m,h0⟩,ht⟩
theorem aL{g:PG'}{k:Th (T->Ev->Prop)}(hz:its.length<sizeLine)(W:Nat->List T->Ev->Prop)(h0:W 0 [] (lend (frA fr) env).1)(ht:∀i t acc ie,W i acc ie->its[i]?=some t->g t ie fun ie2=>ft ie2 fun b ie3=>jH b (A:=⟨fe ie3 fun u ie4=>W (i+1) (acc++[u]) ie4⟩) (B:=⟨W (i+1) acc ie3⟩))
  (he:∀acc ie,W its.length acc ie->k.v (.lst true acc) (back (frA fr) ie (lend (frA fr) env).2)):G3 fr its g ft fe env (k:=k):=⟨hz,W,h0,ht,he⟩
noncomputable def sq(b:Bool)(ts:List T):T:=match b with
 |true=>.tup ts
 |false=>.lst false ts
abbrev pt(x y:Int):T:=.tup [.int x,.int y]
end PL
namespace ZG
open PySem
open Sem (wp)
theorem AV{prog:QL}{w:QP}{A:QY}(hh:A.handled=none)(it d:QA)(hne:d≠it)(o:Obj)(es:Array SD)(ep:Nat)(hd:o.data=.dict es ep) :
  XE prog w A it [it,d] [it] es.size (fun i v=>∃e,es[i]?=some e/\v=e.key) (fun i h=>h.IsKeyIter it d i es.size ep/\h.get? d=some o) where
 sub:=fun b hb=>by simp at hb;simp[hb]
 frame:=fun _ _ _ st hk=>⟨st.1.at fun o e=>hk it (by simp) o e,hk d (by simp) o st.2⟩
 item:=fun i s Q E hi st hQ=>by have hx:es[i]?=some es[i]:=i_ hi;refine G4 st.1 st.2 hd hx fun h' hit' hs'=>?_;exact hQ _ h' s.toks ⟨_,hx,rfl⟩ ⟨hit',hs'.extBut d o hne st.2⟩ fun b o hb e=>hs'.extBut b o (fun z=>hb (by simp[z])) e
 done:=fun s Q E st hQ=>JV hh st.1 st.2 hd (Mw (b_ _)) fun h' he'=>hQ h' s.toks fun b o hb e=>he' b o (fun z=>hb (by simp[z])) e
 self:=fun _ _ _ _ st hQ=>U_ st.1 hQ
theorem EZ{prog:QL}{w:QP}{d:QA}{o:Obj}{es:Array SD}{ep:Nat}(lo:(d == Rv)=false)(hc:o.ExactDict)(hd:o.data=.dict es ep) :
  PySem.W.KdlSrc prog w "dict" d d es.size (fun i v=>∃e,es[i]?=some e/\v=e.key) (fun h=>h.get? d=some o) where
 type:=fun _ hm=>⟨o,hm,hc.1⟩
 there:=fun _ hm=>⟨QK hm,QK hm⟩
 keep:=fun _ _ hm hk=>hk d (.inl rfl) o hm
 notList:=by decide
 notTuple:=by decide
 hint:=fun _ _ _ _ hm hq=>PySem.W.kdl_hint_dict ⟨o,hm,hc.1⟩ hq
 iter:=fun _ _ hh hm=>⟨_,_,(fun _ _ hq=>Gb lo hm hc hd hq),AV hh _ d (v_ (QK hm)) o es ep hd,⟨⟨_,QH _ rfl,rfl,rfl⟩,QD _ hm⟩⟩
end ZG
namespace L2
open PySem PySem.Spec PyProof.Rows
section
variable{X:Cx}
theorem xT(hc:X.calm=true):bG X (.type "list") (fun xs H Q=>∃d kvs,xs=[.ref d]/\Rd H d (.dT kvs)/\∀bs:List QA,SQ (fun(b:QA) (p:List Key×V)=>H b=some (.tup (p.1.map kV))) bs kvs->(kvs.map (·.1)).Nodup->New (.lst (bs.map V.ref)) H Q):=by
 intro pins s σ H xs us Q I r h;obtain⟨d,kvs,rfl,hd,q⟩:=h;obtain⟨u,rfl,ru⟩:=vals1 r;cases ru;obtain⟨z,lo,xs,kt,o,es,ep,g1,g2,g3,g4,g5⟩:=(show bg X.prog X.w H s.heap d (.dT kvs)from hd.ok I.hok);have hes:es.size=kvs.length:=by rw[<-gV,g4,a_];exact(RX kt).symm
 refine PySem.W.kdl_call (ZG.EZ lo g2 g3) (I.ok.hd hc) g1 (by lia) fun h' tk acc c kp e it=>?_
 have hacc:acc.toList=(xs.map fun x=>x.2.1).map Rc:=by
  refine Pz fun j=>?_;rw[f',B',B'];by_cases hj:j<es.size
  ·have hx:j<xs.length:=by rw[<-gV,g4,a_]at hj;exact hj
   have hja:j<acc.size:=by rw[it.1];exact hj
   have ha:acc[j]?=some acc[j]:=i_ hja;obtain⟨en,e1,e2⟩:=it.2 j _ ha;rw[ha,e2,c_ hx];rw[<-f',g4,B',c_ hx]at e1;cases e1
   rfl
  have hx:¬j<xs.length:=by rw[<-gV,g4,a_]at hj;exact hj
  rw[Mw (by rw[it.1];lia),NB (by lia)]
  rfl
 have rel:∀(l:List QA),Vals (l.map V.ref) (l.map Rc):=fun l=>by
  induction l with
  |nil=>exact .nil
  |cons a t ih=>exact .cons rfl ih
 have hq:∀{kvs':List (List Key×V)}{xs':List (List Key×QA×Qy)},KT H kvs' xs'->SQ (fun(b:QA) (p:List Key×V)=>H b=some (.tup (p.1.map kV))) (xs'.map fun x=>x.2.1) kvs':=fun{kvs' xs'} k=>by
  induction k with
  |nil=>exact .nil
  |cons h t ih=>exact .cons h.2.1 ih
 have ek:∀{kvs':List (List Key×V)}{xs':List (List Key×QA×Qy)},KT H kvs' xs'->kvs'.map (·.1)=xs'.map fun x=>x.1:=fun{kvs' xs'} k=>by
  induction k with
  |nil=>rfl
  |cons h t ih=>rw[g_,g_,ih,h.1]
 have e':h'.get? s.heap.objs.size=some { cls:=.type "list",dict:=none,data:=.seq ((xs.map fun x=>x.2.1).map Rc).toArray c,slots:=#[] }:=by rw[<-hacc];exact e
 exact⟨.ref s.heap.objs.size,_,I.laid (t':=tk) kp (b_ _) (show bg X.prog X.w _ h' _ (.lst ((xs.map fun x=>x.2.1).map V.ref))from⟨by rw[a_,a_,<-RX kt];omega,_,c,rel _,e'⟩),rfl,(q _ (hq kt) (by rw[ek kt];exact g5)).at (I.hok.fresh (b_ _))⟩
abbrev l8(K:Qz)(H:Hp):List V->List (List Int)->Prop:=SQ fun v k=>k≠[]/\∃b,v=.ref b/\SqT K H b (k.map V.int)
theorem vQ{pins:List (QA×Obj)}{σ:St}{H:Hp}{s:QB}(I:Inv X pins σ H s):∀{ys:List V}{its:List Qy}{ks:List (List Int)},Vals ys its->l8 X.K H ys ks->(∀v∈its,ZS.E8 s.heap v/\∃b,v=.ref b/\ZS.jJ s.heap v≠[]/\SqT X.K H b ((ZS.jJ s.heap v).map V.int))/\its.map (ZS.jJ s.heap)=ks:=by
 intro ys its ks x;induction x generalizing ks with
 |nil=>intro r;cases r;exact⟨fun v hv=>(nomatch hv),rfl⟩
 | @cons v _ _ its hv tv ih=>
  intro r;rcases r with _|⟨hk,tk⟩;rename_i k ks;obtain⟨hne,b,rfl,hb⟩:=hk;cases hv;obtain⟨j1,j2⟩:=ih tk;obtain⟨its',r',⟨o,ho,hc,n,hd⟩,hz⟩:=I.tuple hb;obtain⟨ps,e1,e2⟩:=cF r';have kv:ZS.jJ s.heap (.ref b)=k:=by
   rw[ZS.tD ho hd];show its'.map ZS.fO=k;rw[e1,A',<-e2]
   rfl
  refine⟨fun w hw=>?_,by rw[g_,kv,j2]⟩;rcases m_.mp hw with e|e
  ·subst e;refine⟨⟨b,o,_,n,rfl,ho,hc,hd,fun v hv=>?_,?_⟩,b,rfl,by rw[kv];exact hne,by rw[kv];exact hb⟩
   ·have hv:v∈its':=hv;rw[e1]at hv;obtain⟨p,_,e⟩:=r_.mp hv;exact⟨p.1,p.2,e.symm⟩
   rw[q_,e1,a_,<-a_ (f:=(·.1)),e2];exact Pj.mpr hne
  exact j1 w e
theorem rK:∀{ys:List V}{us:List Qy}{u:Qy}{b:QA},Vals ys us->u∈us->u=.ref b->V.ref b∈ys:=by
 intro ys us u b x;induction x with
 |nil=>intro h _;cases h
 | @cons y _ _ _ r t ih=>
  intro h e;rcases m_.mp h with z|h
  ·subst z;subst e;have:y=.ref b:=RelV.inj r (show RelV (.ref b) (.ref b)from rfl);rw[this];exact o_
  exact k_ _ (ih h e)
theorem tI:bG X (.builtin "sorted") (fun xs H Q=>∃p ys ks,xs=[.ref p]/\SqL X.K H p ys/\l8 X.K H ys ks/\∀zs ls,l8 X.K H zs ls->(∀v∈zs,v∈ys)->ls.Perm ks->ls.Pairwise (fun x y=>ZS.ltL y x=false)->New (.lst zs) H Q):=by
 intro pins s σ H xs us Q I r h;obtain⟨p,ys,ks,rfl,hq,hr,q⟩:=h;obtain⟨u,rfl,ru⟩:=vals1 r;cases ru;obtain⟨its,rv,pl,hz⟩:=I.list hq;have hlen:=rv.length;obtain⟨f1,f2⟩:=vQ I rv hr;refine ZS.xj (kd:=Wt true) (rk:=fun x=>ZS.rnk ZS.ltL ks (ZS.jJ s.heap x.1)) (S:=fun x=>x.1∈its) pl.isList (by lia) (fun v hv=>hv) (fun h' kp {Q}{E} hne q=>ZS.wu (h0:=s.heap) (fun v hv=>(f1 v hv).1) (fun b o e _=>kp b o e) hne q)
  (fun h' E kp=>ZS.wc (h0:=s.heap) (ks:=ks) (fun x hx=>⟨(f1 _ hx).1,by rw[<-f2];exact Mk hx⟩) fun b o e _=>kp b o e) fun o a c h' op os ha kp e=>?_
 have mem:∀v∈o,v∈its:=fun v hv=>op.mem_iff.mp hv;have mk:∀(l:List Qy),(∀v∈l,v∈its)->∃zs,Vals zs l/\l8 X.K H zs (l.map (ZS.jJ s.heap))/\zs.length=l.length/\∀v∈zs,v∈ys:=by
  intro l;induction l with
  |nil=>exact fun _=>⟨[],.nil,.nil,rfl,fun v hv=>(by cases hv)⟩
  |cons v t ih=>
   intro hl;obtain⟨zs,k1,k2,k3,k6⟩:=ih fun v hv=>hl v (.tail _ hv);obtain⟨_,b,e,k4,k5⟩:=f1 v (hl v (.head _));refine⟨.ref b::zs,.cons e k1,.cons ⟨k4,b,rfl,k5⟩ k2,by rw[h_,h_,k3],fun w hw=>?_⟩;rcases m_.mp hw with rfl|hw
   ·exact rK rv (hl v (.head _)) e
   exact k6 w hw
 obtain⟨zs,k1,k2,k3,k6⟩:=mk o mem;refine⟨.ref a,_,I.laid (t':=s.toks) kp ha (show bg X.prog X.w _ h' _ (.lst zs)from⟨by rw[k3,op.length_eq];lia,o,c,k1,e⟩),rfl,(q zs _ k2 k6 ?_ ?_).at (I.hok.fresh ha)⟩
 ·rw[<-f2];exact op.map _
 rw[K_];refine MD (fun{x y} hx hy hxy=>?_) os;cases z:ZS.ltL (ZS.jJ s.heap y) (ZS.jJ s.heap x)
 ·rfl
 have:=ZS.uo ZS.Ca (ks:=ks) (by rw[<-f2];exact Mk (mem y hy)) z;exact absurd this (Pc.mpr hxy)
abbrev C6(H:Hp):List V->List (List Int)->Prop:=SQ fun v k=>k≠[]/\∃b,v=.ref b/\H b=some (.tup (k.map V.int))
end
end L2
namespace ZS
open PySem PyProof.Rows
noncomputable def ltI(a b:Int):Bool:=decide (a<b)
theorem JZ:Tot ltI:=⟨fun a=>decide_eq_false (Int.lt_irrefl a),fun a b c h g=>decide_eq_true (Int.lt_trans (of_decide_eq_true h) (of_decide_eq_true g)),fun a b h g=>by have h:=of_decide_eq_false h;have g:=of_decide_eq_false g;lia⟩
variable {ns:List Int}
section
variable{prog:QL}{w:QP}{A:QY}{E:Qy->QB->Prop}{s:QB}
theorem CZ{S:QE->Prop}(hS:∀x,S x->∃i t,x.1=.int i t/\i∈ns):cE (QM prog w) A E s VU (fun x=>rnk ltI ns (fO x.1)) S:=by intro x y st Q sx sy kd q;obtain⟨i,t,ex,mi⟩:=hS x sx;obtain⟨j,u,ey,mj⟩:=hS y sy;rw[lt'_eq];refine QI (S0 ?_);rw[kd,ex,ey,keyLt'_oneType];refine QI (Uu (RP (oneLt_int ⟨rfl,?_⟩)));refine QO ?_;dsimp only at q;rw[yk JZ (show fO x.1∈ns by rw[ex];exact mi),ex,ey]at q;exact q
theorem CJ{M:SH}{v1:Qy}{vs:List Qy}{Q:RA->QB->Prop}(hI:RL (v1::vs) ns)(q:Q VU s):QG M A (T1 (v1::vs).toArray) Q E s:=by
 have e:T1 (v1::vs).toArray=pure VU:=by
  rw[keyKind'_eq,PC,mapM_first_ints hI];simp only[map_pure,pure_bind];rw[if_neg (by simp),if_neg (by simp),oneTypeOnly'_eq,PC,mapM_typeOf_ints hI];simp only[map_pure,pure_bind];have hal:((G' (fun _=>RB "int") (v1::vs)).toArray.all fun x=>x == RB "int")=true:=by simp only[List.all_toArray,Ng,Nf];exact fun _ _=>rfl
  have hz:(G' (fun _=>RB "int") (v1::vs)).toArray[0]?=some (RB "int"):=by simp
  rw[hz];simp only[hal,if_true,pure_bind,Pn]
 rw[e];exact QC q
end
end ZS
namespace PL
open PySem PySem.Spec PyProof.Rows L2
section
variable{κ:Type}{lt:κ->κ->Bool}
noncomputable def Aj(lt:κ->κ->Bool)(x:κ):List κ->List κ
 | []=>[x]
 |y::r=>if lt y x=true then y::Aj lt x r else x::y::r
noncomputable def y6(lt:κ->κ->Bool):List κ->List κ
 | []=>[]
 |x::r=>Aj lt x (y6 lt r)
theorem mn(x:κ):∀l:List κ,(Aj lt x l).Perm (x::l)
 | []=>.refl _
 |y::r=>by
  rw[Aj];split
  ·exact((mn x r).cons y).trans (.swap _ _ _)
  exact .refl _
theorem mD:∀l:List κ,(y6 lt l).Perm l
 | []=>.refl _
 |x::r=>(mn x _).trans ((mD r).cons x)
theorem oD(T:ZS.Tot lt)(x:κ):∀{l:List κ},l.Pairwise (fun a b=>lt b a=false)->(Aj lt x l).Pairwise (fun a b=>lt b a=false)
 | [],_=>N0 _ _
 |y::r,h=>by
  rw[Mn]at h;rw[Aj];split
  ·rename_i hy;rw[Mn];refine⟨fun b hb=>?_,oD T x h.2⟩;rcases m_.mp ((mn x r).mem_iff.mp hb)with rfl|hb
   ·cases z:lt b y
    ·rfl
    have:=T.tr _ _ _ z hy;rw[T.irr]at this;cases this
   exact h.1 b hb
  rename_i hy;have hy:lt y x=false:=Nv.mpr hy;rw[Mn];refine⟨fun b hb=>?_,Mn.mpr h⟩;rcases m_.mp hb with rfl|hb
  ·exact hy
  cases z:lt b x
  ·rfl
  have h1:=h.1 b hb;cases w:lt y b
  ·have:=T.tot _ _ h1 w;subst this;rw[z]at hy;cases hy
  have:=T.tr _ _ _ w z;rw[hy]at this;cases this
theorem gI(T:ZS.Tot lt):∀l:List κ,(y6 lt l).Pairwise (fun a b=>lt b a=false)
 | []=>N1
 |x::r=>oD T x (gI T r)
theorem o9(T:ZS.Tot lt):∀{l m:List κ},l.Perm m->l.Pairwise (fun a b=>lt b a=false)->m.Pairwise (fun a b=>lt b a=false)->l=m
 | [],m,p,_,_=>(List.Perm.nil_eq p)
 |a::l,[],p,_,_=>(List.Perm.eq_nil p)
 |a::l,b::m,p,h,g=>by
  rw[Mn]at h g;have e:a=b:=by
   have ha:a∈b::m:=p.mem_iff.mp o_;have hb:b∈a::l:=p.mem_iff.mpr o_;rcases m_.mp ha with e|ha
   ·exact e
   rcases m_.mp hb with e|hb
   ·exact e.symm
   exact T.tot _ _ (g.1 a ha) (h.1 b hb)
  subst e;rw[o9 T (List.Perm.cons_inv p) h.2 g.2]
theorem F7(T:ZS.Tot lt){l m:List κ}(p:l.Perm m)(h:l.Pairwise (fun a b=>lt b a=false)):l=y6 lt m:=
 o9 T (p.trans (mD m).symm) h (gI T m)
end
abbrev uC(ks:List (List Int)):List (List Int):=y6 ZS.ltL ks
abbrev Lz(ks:List Int):List Int:=y6 ZS.ltI ks
noncomputable def rowOf:T->Option (List Int)
 | .tup ts=>match intsOf ts with
  |some (n::r)=>some (n::r)
  | _=>none
 | _=>none
noncomputable def rowsOf:List T->Option (List (List Int))
 | []=>some []
 |t::r=>match rowOf t,rowsOf r with
  |some k,some ks=>some (k::ks)
  | _,_=>none
theorem DI{t:T}{k:List Int}(h:rowOf t=some k):t=iT k/\k≠[]:=by
 cases t <;> first|cases h|skip
 rename_i ts;rw[rowOf]at h;split at h
 ·rename_i n r e;cases h;exact⟨by rw[cZ e];rfl,by simp⟩
 cases h
theorem Bw{k:List Int}(h:k≠[]):rowOf (iT k)=some k:=by
 cases k with
 |nil=>exact absurd rfl h
 |cons n r=>
  show(match intsOf ((n::r).map T.int)with|some (n::r)=>some (n::r) | _=>none)=_;rw[xv]
theorem n9:∀{ts:List T}{ks:List (List Int)},rowsOf ts=some ks->ts=ks.map iT/\∀k∈ks,k≠[]
 | [],ks,h=>by cases h;exact⟨rfl,fun k hk=>by cases hk⟩
 |t::ts,ks,h=>by
  rw[rowsOf]at h;split at h
  ·rename_i k r e1 e2;cases h;obtain⟨h1,h2⟩:=DI e1;obtain⟨h3,h4⟩:=n9 e2;refine⟨by rw[h1,h3];rfl,fun q hq=>?_⟩;rcases m_.mp hq with rfl|hq
   ·exact h2
   exact h4 q hq
  cases h
theorem xy{ks:List (List Int)}(h:∀k∈ks,k≠[]):rowsOf (ks.map iT)=some ks:=by
 induction ks with
 |nil=>rfl
 |cons k r ih=>
  rw[g_,rowsOf,Bw (h k o_),ih fun q hq=>h q (k_ _ hq)]
theorem oF{α:Type}(g:α->T)(f:α->List Int)(h:∀x,g x=iT (f x))(n:∀x,f x≠[])(l:List α):rowsOf (l.map g)=some (l.map f):=by
 have:l.map g=(l.map f).map iT:=by rw[A'];exact Mx fun x _=>h x
 rw[this];exact xy fun k hk=>by obtain⟨x,_,rfl⟩:=r_.mp hk;exact n x
noncomputable def L0:P1s
 | [.lst _ ts],k=>match intsOf ts with
  |some ns=>k (.lst true ((Lz ns).map T.int))
  |none=>got (rowsOf ts) fun ks=>k (.lst true ((uC ks).map iT))
 | [.dT _ kvs],k=>∃ks,kvs.map (·.1)=ks.map kI/\(∀q∈ks,q≠[])/\(ks.Nodup->k (.lst true ((uC ks).map iT)))
 | _,_=>False
variable {H:Hp}{lo:Int}{n:Nat}
section
variable{X:Cx}
theorem qH{K:Qz}{H:Hp}{Γ:Fm}:∀{ks:List (List Int)}{vs:List V},(∀k∈ks,k≠[])->(ks.map iT).length=vs.length->Rp K H (zz (ks.map iT) vs++Γ)->l8 K H vs ks/\∀v∈vs,∃(b:QA) (k:List Int),v=.ref b/\H b=some (.tup (k.map V.int))
 | [],[],_,_,_=>⟨.nil,fun v hv=>by cases hv⟩
 | [],_::_,_,l,_=>by cases l
 | _::_,[],_,l,_=>by cases l
 |k::ks,v::vs,n,l,h=>by
  have h:Rp K H ((iT k,some v)::(zz (ks.map iT) vs++Γ)):=h;obtain⟨a,us,rfl,ha,la,h2⟩:=pg h;have eu:=dW la h2;subst eu;obtain⟨r1,r2⟩:=qH (fun q hq=>n q (k_ _ hq)) (by simpa using l) h.tail;refine⟨.cons ⟨n k o_,a,rfl,SqT.of ha⟩ r1,fun w hw=>?_⟩;rcases m_.mp hw with rfl|hw
  ·exact⟨a,k,rfl,ha⟩
  exact r2 w hw
theorem lD{K:Qz}{H:Hp}{Γ:Fm}:∀{ks:List (List Int)}{vs:List V},C6 H vs ks->Rp K H Γ->Rp K H (zz (ks.map iT) vs++Γ)/\(ks.map iT).length=vs.length
 | [],_,r,h=>by cases r;exact⟨h,rfl⟩
 |k::ks,_,r,h=>by rcases r with _|⟨hd,t⟩;rename_i v vs;obtain⟨_,b,e,hb⟩:=hd;obtain⟨h1,l1⟩:=lD t h;subst e;refine⟨?_,by simp at l1 ⊢;exact l1⟩;show Rp K H ((iT k,some (.ref b))::(zz (ks.map iT) vs++Γ));exact eE (ts:=k.map T.int) (vs:=k.map V.int) (rp_intsP k h1) (by rw[a_,a_]) .cc hb
where
 rp_intsP {Γ:Fm}:∀(ns:List Int),Rp K H Γ->Rp K H (zz (ns.map T.int) (ns.map V.int)++Γ)
 | [],h=>h
 | _::r,h=>bO (rp_intsP r h) fun _=>.int
theorem t6{K:Qz}{H:Hp}{Γ:Fm}:∀(ns:List Int),Rp K H Γ->Rp K H (zz (ns.map T.int) (ns.map V.int)++Γ)
 | [],h=>h
 | _::r,h=>bO (t6 r h) fun _=>.int
theorem zb{K:Qz}:∀{zs:List V}{ls:List (List Int)},(∀v∈zs,∀b,v=.ref b->∀xs,SqT K H b xs->H b=some (.tup xs))->l8 K H zs ls->C6 H zs ls:=by
 intro zs ls h r;induction r with
 |nil=>exact .nil
 |cons hk t ih=>
  obtain⟨n,b,e,hb⟩:=hk;exact .cons ⟨n,b,e,h _ o_ b e _ hb⟩ (ih fun v hv=>h v (k_ _ hv))
theorem qX{acc:Array Qy}(h:Wv (fun(i:Nat) (v:Qy)=>∃t:Tok,v=R5 (lo+i*1) t) acc n):Vals (((A_ n).map fun(i:Nat)=>lo+(i:Int)).map V.int) acc.toList:=by
 have gen:∀(m:Nat) (l:List Qy),l.length=m->(∀(j:Nat) (v:Qy),l[j]?=some v->∃t:Tok,v=R5 (lo+(j:Int)) t)->Vals (((A_ m).map fun(i:Nat)=>lo+(i:Int)).map V.int) l:=by
  intro m;induction m with
  |zero=>intro l hl _;have:l=[]:=List.length_eq_zero_iff.mp hl;subst this;exact .nil
  |succ m ih=>
   intro l hl hv;have hne:l≠[]:=by intro z;subst z;simp at hl
   obtain⟨l',v,rfl⟩:∃l' v,l=l'++[v]:=⟨l.dropLast,l.getLast hne,(List.dropLast_concat_getLast hne).symm⟩;have hl':l'.length=m:=by simpa using hl
   rw[NR,p_,p_];refine Vals.append (ih l' hl' fun j w e=>hv j w ?_) ?_
   ·rw[MM (f_.mp e).1];exact e
   obtain⟨t,e⟩:=hv m v (by rw[LV (by lia),hl',Nh];rfl);exact .cons ⟨t,e⟩ .nil
 refine gen n _ (by rw[gV];exact h.1) fun j v e=>?_
 rw[f']at e;obtain⟨t,q⟩:=h.2 j v e;exact⟨t,by rw[q,PJ]⟩
theorem oM{pins:List (QA×Obj)}{σ:L2.St}{s:QB}{hi:Int}{t u v:Tok}{tk:Nat}{Q:VK}(I:Inv X pins σ H s)(hc:X.calm=true)(h1:-(2 ^ 62)<=lo)(h2:lo<2 ^ 62)(h3:-(2 ^ 62)<=hi)(h4:hi<2 ^ 62)(hz:(hi-lo).toNat<=2 ^ 24)
  (q:New (.lst (((A_ (hi-lo).toNat).map fun(i:Nat)=>lo+(i:Int)).map V.int)) H Q):QG (QM X.prog X.w) X.A (call (.type "list") [.ref s.heap.objs.size]) (EP X pins σ Q) X.xe {s with heap:=s.heap.push { cls:=.type "range",data:=.fields #[.int lo t,.int hi u,.int 1 v] },toks:=tk}:=by
 refine call_list_range (n:=(hi-lo).toNat) (I.ok.hd hc) (Xt ..) (small_one h1 h2 h3 h4) (rangeSize_nat _ _) hz fun h' tk' acc c hk e it=>?_;have esz:(s.heap.push { cls:=.type "range",data:=.fields #[.int lo t,.int hi u,.int 1 v] }).objs.size=s.heap.objs.size+1:=by simp[Tv]
 dsimp only at hk e ⊢;rw[esz]at e ⊢;have hfr:H (s.heap.objs.size+1)=none:=I.hok.fresh (Nt _);have rv:=qX it;refine⟨.ref (s.heap.objs.size+1),_,I.laid (t':=tk') (h':=h') (fun b o z=>hk b o (QD _ z)) (Nt _) (show bg X.prog X.w _ h' _ (.lst _)from⟨?_,acc.toList,c,rv,by simpa using e⟩),rfl,q _ _ hfr (bH hfr _) aQ⟩;rw[a_,a_,Ml,sizeLine_eq];exact hz
variable{e a b:QQ}{fr:PFs}{p1 p2 pos1 pos2:Pos}
end
section
variable{b:Bool}{ts us:List T}{k:T->Prop}{i:Int}{t u:T}{env:Ev}{ke:T->Ev->Prop}
theorem AH(ts:List T)(n:Nat):kM ts (some (n:Int)) none=ts.drop n:=by
 unfold kM;rw[HT.yu,HT.wq];by_cases h:n<=ts.length
 ·rw[Of h,Ma];rw[H_];lia
 rw[N7 (by lia),O5 (by lia),O5 (by lia),List.take_nil]
theorem B9(ts:List T)(n:Nat):kM ts none (some (n:Int))=ts.take n:=by
 unfold kM;rw[HT.yu,HT.wq,Na,Qf];by_cases h:n<=ts.length
 ·rw[Of h]
 rw[N7 (by lia),Ma (by lia),Ma (by lia)]
theorem cj(lo:Int)(n:Nat):(jI lo n).length=n:=by rw[jI,a_,Ml]
theorem eI{i:Nat}{t:T}(h:(jI lo n)[i]?=some t):i<n:=by have:=(f_.mp h).1;rwa[cj]at this
theorem qM{i:Nat}{t:T}(h:(jI lo n)[i]?=some t):t=.int (lo+(i:Int)):=by
 have hi:=eI h;rw[jI,B',Ov hi]at h;cases h
 rfl
theorem aK{α:Type}{g:α->T}{l:List α}{i:Nat}{t:T}(h:(l.map g)[i]?=some t):∃x,l[i]?=some x/\t=g x:=by
 rw[B']at h;cases e:l[i]? with
 |none=>rw[e]at h;cases h
 |some x=>rw[e]at h;cases h;exact⟨x,rfl,rfl⟩
end
noncomputable def JL(f g:PSt):PSt:=fun pe env=>∃W:Ev->Prop,f {pe with nx:=W} env/\∀e,W e->g pe e
theorem dX{X:Cx}{κ:Nat->Bool}{st:Q6}{rest:List Q6}{f g:PSt}(h1:GS κ X st f)(h2:GSs κ X rest g):GSs κ X (st::rest) (JL f g):=by refine PSs.imp (bN h1 h2) ?_;rintro D σ H ⟨env,Fr,pe,rs,⟨W,q,w⟩,c⟩;refine⟨env,Fr,_,rs,q,⟨fun env' σ' H' q1 rs1 k1=>⟨env',Fr,pe,rs1,w _ q1,c.later k1⟩,c.rt,c.bk,c.ct⟩⟩
theorem gC{f g:PSt}{pe:PEn}{env:Ev}(W:Ev->Prop)(h1:f {pe with nx:=W} env)(h2:∀e,W e->g pe e):JL f g pe env:=⟨W,h1,h2⟩
open PySem L2
noncomputable def xQ:P1s
 | [.dT _ kvs],k=>∃ks:List (List Int),kvs.map (·.1)=ks.map kI/\(∀q∈ks,q≠[])/\(ks.Nodup->k (.lst true (ks.map iT)))
 | _,_=>False
section
variable{X:Cx}
theorem Ai:∀{bs:List QA}{kvs:List (List Key×V)}{ks:List (List Int)},SQ (fun(b:QA) (p:List Key×V)=>H b=some (.tup (p.1.map kV))) bs kvs->kvs.map (·.1)=ks.map kI->(∀k∈ks,k≠[])->C6 H (bs.map V.ref) ks:=by
 intro bs kvs ks h;induction h generalizing ks with
 |nil=>
  intro e _;cases ks with
  |nil=>exact .nil
  |cons a b=>simp at e
 |cons h t ih=>
  intro e hn;cases ks with
  |nil=>simp at e
  |cons a b=>
   rw[g_,g_,MO]at e;refine .cons ⟨hn a o_,_,rfl,?_⟩ (ih e.2 fun k hk=>hn k (k_ _ hk));rw[h,e.1,LL]
theorem vZ(hc:X.calm=true):fT X (.type "list") xQ:=by
 rintro pins s σ H xs us Q I r ⟨ts,Γ,k,l,rp,g,c⟩;unfold xQ at g;split at g
 ·rename_i k o kvs;obtain⟨x,rfl⟩:=zz1 l rfl;have rp:Rp X.K H ((.dT o kvs,some x)::Γ):=rp;obtain⟨a,vs,rfl,hq,ek,rp2⟩:=tP rp;obtain⟨ks,e1,e2,kt⟩:=g;refine xT hc pins s σ H _ us Q I r ⟨a,vs,rfl,hq,fun bs pr nd p H' hp g' e'=>?_⟩;have nd':ks.Nodup:=by rw[<-ek,e1]at nd;exact(K_.mp nd).imp fun{a b} h z=>h (by rw[z])
  refine c _ _ _ (kt nd') ?_;obtain⟨rp3,l3⟩:=lD (Ai pr (by rw[<-ek];exact e1) e2) rp.tail;exact fP rp3 l3 hp g' e'
 exact QU g
end
theorem BO{o:Bool}{kvs:List (List Key×T)}{k:T->Prop}:xQ [.dT o kvs] k=∃ks:List (List Int),kvs.map (·.1)=ks.map kI/\(∀q∈ks,q≠[])/\(ks.Nodup->k (.lst true (ks.map iT))):=rfl
end PL
namespace L2
open PySem PySem.Spec PyProof.Rows
section
variable{X:Cx}
theorem AG(hc:X.calm=true):bG X (.builtin "sum") (fun xs H Q=>∃(a:QA) (ns:List Int),xs=[.ref a]/\SqL X.K H a (ns.map V.int)/\Q (.int ns.sum) H):=by
 intro pins s σ H xs us Q I r h;obtain⟨a,ns,rfl,hq,q⟩:=h;obtain⟨u,rfl,ru⟩:=vals1 r;cases ru;obtain⟨its,rv,p,z⟩:=I.list hq;obtain⟨ps,e1,e2⟩:=cF rv;subst e1;have hl:s.heap.IsList a (Rj ps.toArray):=by
  have e:Rj ps.toArray=(ps.map fun p=>R5 p.1 p.2).toArray:=by simp[Rj]
  rw[e];exact p.isList
 have hlen:ps.length=ns.length:=by rw[<-e2];simp
 have k:∀i,i<=ns.length->preSum (Ss ps.toArray) i=(ns.take i).sum:=fun i=>by
  induction i with
  |zero=>exact fun _=>rfl
  |succ i ih=>
   intro hi;show preSum (Ss ps.toArray) i+Ss ps.toArray i=_;rw[ih (by lia),cx e2 hi,LP,c_ hi,List.sum_append_int];simp
 refine sum_intListG (I.ok.hd hc) hl fun h' tk t' hk=>?_;rw[q_,hlen,k _ (b_ _),u_];exact⟨.int _,H,I.kept (t':=tk) hk,⟨t',rfl⟩,q⟩
end
end L2
namespace PL
open PySem L2
noncomputable def IJ:P1s
 | [.lst _ ts],k=>got (intsOf ts) fun ns=>k (.int ns.sum)
 | _,_=>False
section
variable{X:Cx}
theorem AX(hc:X.calm=true):fT X (.builtin "sum") IJ:=by
 rintro pins s σ H xs us Q I r ⟨ts,Γ,k,l,rp,g,c⟩;unfold IJ at g;split at g
 ·rename_i k o ts;obtain⟨x,rfl⟩:=zz1 l rfl;have rp:Rp X.K H ((.lst o ts,some x)::Γ):=rp;obtain⟨a,vs,rfl,hq,l2,rp2⟩:=kG rp;obtain⟨ns,en,kt⟩:=aI g;have:=cZ en;subst this;have:=dW l2 rp2;subst this;exact AG hc pins s σ H _ us Q I r ⟨a,ns,rfl,.inl hq,c _ _ _ kt (bO rp.tail fun _=>.int)⟩
 exact QU g
end
theorem mZ{o:Bool}{ts:List T}{k:T->Prop}:IJ [.lst o ts] k=cM (intsOf ts) (k:=⟨fun ns=>k (.int ns.sum)⟩):=rfl
end PL
namespace L2
open PySem PySem.Spec PyProof.Rows
noncomputable def Itf(o:Obj)(d:QA):It:=
  ⟨fun i H=>∃kvs,Rd H d (.frz o (.dT kvs))/\i<kvs.length,
   fun i H v H'=>H'=H/\∀kvs,Rd H d (.frz o (.dT kvs))->∃k x b,kvs[i]?=some (k,x)/\v=.ref b/\H b=some (.tup (k.map kV)),
   fun i H=>∃kvs,Rd H d (.frz o (.dT kvs))/\kvs.length<=i⟩
theorem EI{H:Hp}{d:QA}{o:Obj}{a b:List (List Key×V)}(h:Rd H d (.frz o (.dT a)))(g:Rd H d (.frz o (.dT b))):a=b:=by rcases h with h|⟨o1,h⟩ <;> rcases g with g|⟨o2,g⟩ <;> rw[h]at g <;> cases g <;> rfl
theorem ve{X:Cx}{pins:List (QA×Obj)}{σ:St}{H:Hp}{s:QB}{o:Obj}{d:QA}{kvs:List (List Key×V)}(I:Inv X pins σ H s)(e:Rd H d (.frz o (.dT kvs))) :
  s.heap.get? d=some o/\(d == Rv)=false/\∃xs es ep,KT H kvs xs/\o.ExactDict/\o.data=.dict es ep/\es.toList=xs.map (U1 (S5 (bo X.prog X.w)))/\es.size=kvs.length:=by
 obtain⟨h0,h1,h2,xs,kt,o',es,ep,g1,g2,g3,g4,g5⟩:=(show bg X.prog X.w H s.heap d (.frz o (.dT kvs))from e.ok I.hok);rw[h0]at g1;cases g1;refine⟨h0,h2,xs,es,ep,kt,g2,g3,g4,?_⟩;rw[<-gV,g4,a_];exact(RX kt).symm
theorem xU{P:QL}{w:QP}{K:Qz}{tg:QQ}(o:Obj)(d it:QA)(es:Array SD)(ep:Nat)(hdat:o.data=.dict es ep):Turn P w K tg (Itf o d) [it] it (fun i h=>h.IsKeyIter it d i es.size ep) where
 mem:=by simp
 obj:=fun i h st b hb=>by
  have e:b=it:=by simpa using hb
  subst e;obtain⟨oi,q1,q2,q3⟩:=st;exact⟨oi,q1,fun v z=>by rw[q3]at z;cases z⟩
 keep:=fun i h h' st k=>st.at fun oo e=>k it (by simp) oo e
 item:=by
  intro X hP hw hK hc i pins s σ H E I hf st hg;subst hP hw hK;obtain⟨kvs,hq,hx⟩:=hg;obtain⟨h0,h1,xs,es',ep',kt,g2,g3,g4,g5⟩:=ve I hq;rw[hdat]at g3;cases g3;obtain⟨f0,f1,f2,f3,f4,f5⟩:=hf it (by simp);have hi:i<es.size:=by lia
  have hxs:i<xs.length:=by rw[<-gV,g4,a_]at hi;exact hi
  have he:es[i]?=some (U1 (S5 (bo X.prog X.w)) xs[i]):=by
   rw[<-f',g4,B',c_ hxs]
   rfl
  refine ZG.G4 st h0 hdat he fun h' st' sb=>?_;have I1:Inv X pins σ H {s with heap:=h'}:=I.turned (t':=s.toks) (fun b ob hb e=>(sb.2 b hb).trans e) f0 f1 f3 f4 f5;obtain⟨oi,q1,q2,q3⟩:=id st';refine⟨_,rfl,yJ (s:={s with heap:=h'}) q1 q2 q3 (by decide) ⟨.ref xs[i].2.1,H,I1,rfl,⟨rfl,fun kvs' hk'=>?_⟩,st',fun b hb=>(hf b hb).1⟩⟩;cases EI hq hk';obtain⟨p,p1,p2,p3,p4⟩:=pI kt (c_ hxs);exact⟨p.1,p.2,_,p1,rfl,p3⟩
 done:=by intro X hP hw hK hc i pins s σ H E I hf st hg;subst hP hw hK;obtain⟨kvs,hq,hx⟩:=hg;obtain⟨h0,h1,xs,es',ep',kt,g2,g3,g4,g5⟩:=ve I hq;rw[hdat]at g3;cases g3;obtain⟨f0,f1,f2,f3,f4,f5⟩:=hf it (by simp);exact ZG.JV (I.ok.hd hc) st h0 hdat (by rw[Mw];lia) fun h' eb=>⟨rfl,I.turned (t':=s.toks) (fun b ob hb e=>eb b ob hb e) f0 f1 f3 f4 f5⟩
 self:=fun _ _ _ _ _ st h=>U_ st h
noncomputable def Jy(te:TE):TI:=fun σ H R=>te σ H fun x H1=>∃d kvs,x=.ref d/\((H1 d=some (.dT kvs)/\∀o H2,Put H1 d (.frz o (.dT kvs)) H2->R (Itf o d) H2)\/∃o,H1 d=some (.frz o (.dT kvs))/\R (Itf o d) H1)
theorem Cp{X:Cx}{tg l:QQ}{tl:TE}(hl:PE X l tl):PI X tg l (Jy tl):=by
 intro pins s σ H R I h;refine thn (hl pins s σ H _ I h) ?_;rintro v s1 ⟨x,H1,I1,r1,q1⟩;obtain⟨d,kvs,e,q1⟩:=q1;subst e;cases r1;have key:∀(o:Obj) (H2:Hp),Inv X pins σ H2 s1->H2 d=some (.frz o (.dT kvs))->R (Itf o d) H2->QG (QM X.prog X.w) X.A (Tz (.ref d)) (PIE X pins σ tg R) X.xe s1:=fun o H2 I2 e2 q2=>by
  obtain⟨h0,h1,xs,es,ep,kt,g2,g3,g4,g5⟩:=EJ I2 e2;refine ZG.Gb h1 h0 g2 g3 ⟨s1.heap.objs.size,[s1.heap.objs.size],_,_,H2,rfl,I2.kept (t':=s1.toks) fun b ob z=>QD _ z,xU o d _ es ep g3,⟨_,QH _ rfl,rfl,rfl⟩,fun b hb=>?_,q2⟩;have e:b=s1.heap.objs.size:=by simpa using hb
  subst e;exact I2.x8 (b_ _) (I2.hok.fresh (b_ _))
 rcases q1 with⟨e1,q⟩|⟨o,e1,q⟩
 ·obtain⟨z,hd,xs,kt,o,es,ep,g1,g2,g3,g4,g5⟩:=(show bg X.prog X.w H1 s1.heap d (.dT kvs)from I1.hok d _ e1);refine key o (upd H1 d (.frz o (.dT kvs))) ?_ aQ (q o _ Put.up);refine p9 (h':=s1.heap) (t':=s1.toks) (ob:=.frz o (.dT kvs)) I1 (by rw[e1];exact R4) ⟨rfl,fun _ _=>rfl⟩ ⟨o,g1⟩ ⟨g1,z,hd,xs,KT.keeps kt fun c zs ec=>?_,o,es,ep,g1,g2,g3,g4,g5⟩;rw[aP (Cf ec e1 (fun z=>nomatch z))];exact ec
 exact key o H1 I1 e1 q
end L2
namespace PL
open PySem PySem.Spec PyProof.Rows L2
noncomputable def kyI:Key->T
 | .inl i=>.int i
 | .inr (some s)=>.str s
 | .inr none=>.non
noncomputable def kyT(k:List Key):T:=.tup (k.map kyI)
noncomputable def kpG(o:Obj)(d:QA)(vs:List (List Key×V)):Hp:=fun b=>if b=d then some (.frz o (.dT vs))else none
variable {vs:List (List Key×V)}
section
variable{K:Qz}
theorem yi{H H2:Hp}{d:QA}{o:Obj}{ts:List (List Key×T)}{Γ:Fm}(h:Rp K H ((.dT false ts,some (.ref d))::Γ))(h1:H d=some (.dT vs)\/H d=some (.frz o (.dT vs)))(h2:H2 d=some (.frz o (.dT vs)))(h3:∀b,b≠d->H2 b=H b):Rp K H2 ((.kp (kpG o d vs),some .non)::(.dT false ts,some (.ref d))::Γ):=by
 obtain⟨Hz,N,h,nd,g,dj⟩:=h;have hz:∃w,Hz d=some w:=by
  cases h with
  |cons e h c=>
   rcases h with⟨z,_⟩|⟨v,ev,h⟩
   ·cases z
   cases ev;cases h with
   |dTZ r _=>exact Rd.some r
 let Z:Hp:=fun b=>if b=d then some (.frz o (.dT vs))else Hz b
 have zd:Z d=some (.frz o (.dT vs)):=if_pos rfl;have ze:∀b,b≠d->Z b=Hz b:=fun b hb=>if_neg hb;have gz:Gr Hz Z:=fun b u r=>by
  by_cases e:b=d
  ·subst e;rcases g b u r with q|⟨o',q⟩ <;> rcases h1 with h1|h1 <;> rw[h1]at q <;> cases q
   ·exact .inr ⟨o,zd⟩
   ·exact .inl zd
   exact .inr ⟨o,zd⟩
  unfold Rd at *;rw[ze b e];exact r
 have gh:Gr Z H2:=fun b u r=>by
  by_cases e:b=d
  ·subst e;unfold Rd at *;rw[zd]at r;rw[h2];exact r
  unfold Rd at r;rw[ze b e]at r;have:=g b u r;unfold Rd at *;rw[h3 b e];exact this
 have hd:∀b∈N,b≠d:=fun b m z=>by obtain⟨w,e⟩:=hz;rw[<-z,dj b m]at e;cases e
 refine⟨Z,[]++N,.cons rfl (.inr ⟨_,rfl,.kp fun b u r=>?_⟩) (h.move (fun b xs e=>?_) gz fun b m u e=>?_),nd,gh,fun b m=>?_⟩
 ·by_cases e:b=d
  ·subst e;unfold Rd kpG at r;rw[if_pos rfl]at r;unfold Rd;rw[zd];exact r
  unfold Rd kpG at r;rw[if_neg e]at r;rcases r with r|⟨_,r⟩ <;> cases r
 ·by_cases z:b=d
  ·subst z;rcases h1 with h1|h1 <;> rw[h1]at e <;> cases e
  rw[h3 b z];exact e
 ·rw[h3 b (hd b m)];exact⟨e,fun n=>n⟩
 have m:b∈N:=m;rw[ze b (hd b m)];exact dj b m
theorem uL{H:Hp}{Γ:Fm}:∀(k:List Key),Rp K H Γ->Rp K H (zz (k.map kyI) (k.map kV)++Γ)
 | [],h=>h
 | .inl _::r,h=>bO (uL r h) fun _=>.int
 | .inr (some _)::r,h=>bO (uL r h) fun _=>.str
 | .inr none::r,h=>bO (uL r h) fun _=>.non
theorem BB{o:Obj}{d:QA}:ItOk K (Itf o d) (vs.map fun p=>kyT p.1) [(.kp (kpG o d vs),some .non)] where
 turn:=fun i t H Γ ei rp=>by
  have rd:Rd H d (.frz o (.dT vs)):=by
   obtain⟨Hz,N,h,_,g,_⟩:=rp;cases h with
   |cons e h c=>
    rcases h with⟨z,_⟩|⟨v,ev,h⟩
    ·cases z
    cases h with
    |kp gr=>exact g _ _ (gr d _ (.inl (if_pos rfl)))
  rw[B']at ei;cases e:vs[i]? with
  |none=>rw[e]at ei;cases ei
  |some p=>
   rw[e]at ei;cases ei;refine⟨⟨vs,rd,(f_.mp e).1⟩,fun x H' hy=>?_⟩;obtain⟨rfl,hy⟩:=hy;obtain⟨k,w,b,e1,rfl,hb⟩:=hy vs rd;rw[e]at e1;cases e1;exact eE (ts:=k.map kyI) (vs:=k.map kV) (uL k rp) (by rw[a_,a_]) .cc hb
 stop:=fun H Γ rp=>by
  have rd:Rd H d (.frz o (.dT vs)):=by
   obtain⟨Hz,N,h,_,g,_⟩:=rp;cases h with
   |cons e h c=>
    rcases h with⟨z,_⟩|⟨v,ev,h⟩
    ·cases z
    cases h with
    |kp gr=>exact g _ _ (gr d _ (.inl (if_pos rfl)))
  exact⟨vs,rd,by rw[a_];exact b_ _⟩
end
noncomputable def HA(fe:PF):PIt:=fun env k=>fe env fun t env1=>match t with
 | .dT _ kvs=>k (kvs.map fun p=>kyT p.1) env1
 | _=>False
section
variable{X:Cx}{pos:Pos}{e tg:QQ}{fe:PF}
theorem zJ(h:GE X e fe):GI X tg e (HA fe):=by
 rintro pins s σ H R I ⟨env,Fr,k,rs,q,c⟩;refine Cp h pins s σ H R I ⟨env,Fr,_,rs,q,fun t env1 v H1 q1 rs1=>?_⟩;cases t <;> first|exact q1.elim|skip
 rename_i o ts;have rf:Rp X.K H1 ((.dT false (erT ts),some v)::(env1.zip σ++Fr)):=pL rs1.head;obtain⟨d,vs,rfl,hq,ek,rp2⟩:=tP rf;have ek2:ts.map (·.1)=vs.map (·.1):=by
  rw[<-ek];clear ek rf q1 rs1 rp2;induction ts with
  |nil=>rfl
  |cons a l ih=>rw[erT,g_,g_,ih]
 have e3:(ts.map fun p=>kyT p.1)=vs.map fun p=>kyT p.1:=by have:=congrArg (G' kyT) ek2;rw[A',A']at this;exact this
 have q1:k (ts.map fun p=>kyT p.1) env1:=q1;rw[e3]at q1;refine⟨d,vs,rfl,?_⟩;rcases hq with hq|⟨ob,hq⟩
 ·refine .inl ⟨hq,fun ob H2 p=>c _ _ _ [(.kp (kpG ob d vs),some .non)] _ q1 ?_ BB⟩;have r:=yi (o:=ob) (H2:=H2) rf (.inl hq) p.at_ fun b hb=>p.else_ b hb;exact .of rs1.1 (r.perm (.swap _ _ _)).tail
 refine .inr ⟨ob,hq,c _ _ _ [(.kp (kpG ob d vs),some .non)] _ q1 ?_ BB⟩;have r:=yi (o:=ob) (H2:=H1) rf (.inr hq) hq fun b hb=>rfl;exact .of rs1.1 (r.perm (.swap _ _ _)).tail
end
noncomputable def asD(t:T)[k:Th (List (List Key×T)->Prop)]:Prop:=match t with
 | .dT _ kvs=>k.v kvs
 | _=>False
theorem sF{o:Bool}{kvs:List (List Key×T)}{k:Th (List (List Key×T)->Prop)}:asD (.dT o kvs) (k:=k)=k.v kvs:=rfl
theorem iX{env:Ev}{fe:PF}{ki:List T->Ev->Prop}:HA fe env ki=fe env fun t env1=>asD t (k:=⟨fun kvs=>ki (kvs.map fun p=>kyT p.1) env1⟩):=by unfold HA asD;refine congrArg (fe env) (funext fun t=>funext fun env1=>?_);cases t <;> rfl
end PL
namespace ZT
open PySem
abbrev Up(l:List Nat):Prop:=l.Pairwise (·<·)
variable {i j:Nat}
theorem yX{l:List Nat}(h:Up l){x y:Nat}(hi:l[i]?=some x)(hj:l[j]?=some y)(hij:i<j):x<y:=by obtain⟨a,rfl⟩:=f_.mp hi;obtain⟨b,rfl⟩:=f_.mp hj;exact M'.mp h i j a b hij
theorem tq{xs:Array Nat}{j:Nat}(hu:Up xs.toList):∀(f lo hi:Nat),lo<=hi->hi<=xs.size->hi-lo<=f->(∀k x,k<lo->xs[k]?=some x->x<j)->(∀k x,hi<=k->xs[k]?=some x->j<=x)->
  Tf xs j f lo hi<=xs.size/\(∀k x,k<Tf xs j f lo hi->xs[k]?=some x->x<j)/\∀k x,Tf xs j f lo hi<=k->xs[k]?=some x->j<=x
 |0,lo,hi,h1,h2,h3,a,b=>by
  have e:lo=hi:=by omega
  subst e;exact⟨h2,a,b⟩
 |f+1,lo,hi,h1,h2,h3,a,b=>by
  unfold Tf;by_cases hl:lo<hi
  ·rw[if_pos hl];have hm:(lo+hi)/2<xs.size:=by omega
   have e:xs.getD ((lo+hi)/2) j=xs[(lo+hi)/2]:=by rw[M5,i_ hm];rfl
   have em:xs.toList[(lo+hi)/2]?=some xs[(lo+hi)/2]:=by rw[f'];exact i_ hm
   dsimp only;rw[e];by_cases hx:xs[(lo+hi)/2]<j
   ·rw[if_pos hx];refine tq hu f _ _ (by omega) h2 (by omega) (fun k x hk ek=>?_) b;by_cases hk2:k=(lo+hi)/2
    ·subst hk2;rw[i_ hm]at ek;cases ek;exact hx
    exact Oe (yX hu (by rw[f'];exact ek) em (by omega)) hx
   rw[if_neg hx];refine tq hu f _ _ (by omega) (by omega) (by omega) a fun k x hk ek=>?_
   by_cases hk2:k=(lo+hi)/2
   ·subst hk2;rw[i_ hm]at ek;cases ek;exact LX hx
   have:=yX hu em (by rw[f'];exact ek) (by omega);omega
  rw[if_neg hl];have e:lo=hi:=by omega
  subst e;exact⟨h2,a,b⟩
variable {xs:Array Nat}
theorem jT(j:Nat)(hu:Up xs.toList):Q8 xs j<=xs.size/\(∀k x,k<Q8 xs j->xs[k]?=some x->x<j)/\∀k x,Q8 xs j<=k->xs[k]?=some x->j<=x:=
 tq hu _ _ _ (D' _) (b_ _) (by omega) (fun k x hk=>by omega) fun k x hk ek=>by rw[Mw hk]at ek;cases ek
theorem below_at(hu:Up xs.toList){x:Nat}(hi:xs[i]?=some x):Q8 xs (x+1)=i+1:=by
 obtain⟨h1,h2,h3⟩:=jT (x+1) hu;have hlt:i<xs.size:=(NJ.mp hi).1;have a:i<Q8 xs (x+1):=OP fun z=>by have:=h3 i x z hi;omega
 by_cases c:i+1<Q8 xs (x+1)
 ·have hn:i+1<xs.size:=by omega
  have:=h2 (i+1) _ c (i_ hn);have g:=yX hu (by rw[f'];exact hi) (by rw[f'];exact i_ hn) (Nj i);omega
 omega
theorem EG(hu:Up xs.toList):Q8 xs 0=0:=by
 obtain⟨h1,h2,h3⟩:=jT 0 hu;refine Nat.eq_zero_of_not_pos fun z=>?_;have hn:0<xs.size:=by omega
 have:=h2 0 _ z (i_ hn);omega
theorem AB(hu:Up xs.toList)(hj:xs[Q8 xs j]?≠some j):Up (X0 xs (Q8 xs j) j).toList:=by
 obtain⟨h1,h2,h3⟩:=jT j hu;rw[Xd];have sp:xs.toList=xs.toList.take (Q8 xs j)++xs.toList.drop (Q8 xs j):=(F' _ _).symm;have hu':=hu;rw[sp]at hu';obtain⟨p,q,r⟩:=C_.mp hu';have lt:∀x∈xs.toList.take (Q8 xs j),x<j:=fun x hx=>by obtain⟨k,hk,e⟩:=L'.mp hx;rw[D_]at hk;rw[List.getElem_take]at e;exact h2 k x (by omega) (by rw[<-f',f_];exact⟨by omega,e⟩)
 have gt:∀x∈xs.toList.drop (Q8 xs j),j<x:=fun x hx=>by
  obtain⟨k,hk,e⟩:=L'.mp hx;rw[H_]at hk;rw[List.getElem_drop]at e;have e2:xs[Q8 xs j+k]?=some x:=by rw[<-f',f_];exact⟨by omega,e⟩
  refine Np (h3 _ x (by omega) e2) fun z=>?_
  subst z;by_cases k0:k=0
  ·subst k0;exact hj e2
  have hb:Q8 xs j<xs.size:=by rw[gV]at hk;omega
  have g:=yX hu (i:=Q8 xs j) (j:=Q8 xs j+k) (by rw[f'];exact i_ hb) (by rw[f'];exact e2) (by omega);have:=h3 _ _ (b_ _) (i_ hb);omega
 exact C_.mpr ⟨p,Mn.mpr ⟨gt,q⟩,fun a ha b hb=>by
  rcases m_.mp hb with e|hb
  ·rw[e];exact lt a ha
  exact r a ha b hb⟩
structure Gd (bt:Bool) (t:Rq):Prop where
 up:Up t.place.toList
 no:t.dummies=#[]
 led:bt=false->t.led=true
theorem CF(bt:Bool)(f m:Nat):Gd bt (.fresh f m (!bt)):=⟨.nil,rfl,fun e=>by rw[e];rfl⟩
variable {t:Rq}
theorem lG{bt:Bool}(h:Gd bt t)(n:Nat):Gd bt (t.standIn n):=⟨by show Up (Array.range n).toList;rw[Array.toList_range];exact N6,rfl,h.led⟩
theorem Jc{bt:Bool}(h:Gd bt t)(n:Nat):Gd bt (t.orStandIn n):=by
 unfold XX;split
 ·exact h
 exact lG h n
theorem E9(j:Nat):Xe #[] j=false:=rfl
theorem xa{bt:Bool}(h:Gd bt t)(e:t.slot j=.empty):t.place[Q8 t.place j]?≠some j:=fun z=>by unfold WR at e;dsimp only at e;rw[z,if_pos (beq_self_eq_true _)]at e;cases e
theorem oH{t:Rq}(hd:t.dummies=#[]){H:Nat->Int}{h:Int}:∀(f:Nat) (p:Yd) (j:Nat) (d:Option Nat),p.dummy=none->VB t H h f p=some (.empty j d)->t.slot j=.empty/\d=none
 |0,p,j,d,_,e=>by cases e
 |f+1,p,j,d,hp,e=>by
  unfold VB at e;split at e
  ·rename_i z;cases e;exact⟨z,hp⟩
  ·rename_i z;unfold WR at z;dsimp only at z;rw[hd,E9]at z;split at z <;> first|cases z|(rename_i q;split at z <;> cases z)
  have ad:(t.advance p).dummy=none:=by unfold X7;split <;> exact hp
  split at e
  ·cases e
  exact oH hd f _ j d ad e
theorem ID{bt:Bool}(h:Gd bt t)(e:t.slot j=.empty):Gd bt (t.put j).1:=by
 refine⟨AB h.up (xa h e),?_,h.led⟩;show(if Xe t.dummies j then _ else t.dummies)=#[];rw[h.no]
 rfl
theorem Ii{bt:Bool}(h:Gd bt t)(es:Array (Int×Qy))(k:Int)(x:Qy):Gd bt (layNew t es k x).2.1:=by
 unfold layNew;split
 ·rename_i slot wd e;have hs:t.slot slot=.empty:=by
   unfold X1 at e;split at e
   ·rename_i j d q;cases e;obtain⟨a,b⟩:=oH h.no _ _ _ _ rfl q;rw[b];exact a
   cases e
  exact Jc (ID h hs) _
 exact lG h _
theorem Dq{bt:Bool}(h:Gd bt t)(es:Array (Int×Qy))(n:Nat):Gd bt (Uv t es n).2.1:=by
 unfold Uv;split
 ·rename_i t' order e;dsimp only;split
  ·unfold Ya Yf at e;cases q:X2 (Vu n-1) (es.map fun x=>x.1)with
   |none=>rw[q]at e;cases e
   |some ow=>
    rw[q]at e;cases e;refine⟨?_,rfl,h.led⟩;show List.Pairwise (fun x y=>x<y) (G' (fun x=>x.1) (List.filterMap (fun j=>(ow.getD j none).map fun y=>(j,y)) (A_ (Vu n-1+1))));rw[K_,List.pairwise_filterMap];refine PD (fun{a b} hab c hc d hd=>?_) N6;obtain⟨_,_,ec⟩:=N5.mp hc;obtain⟨_,_,ed⟩:=N5.mp hd;rw[<-ec,<-ed];exact hab
  exact lG h _
 exact lG h _
open PySem PyProof.Rows
variable {S:Int->Prop}{a:QA}{ep m:Nat}{es:Array (Int×Qy)}{h:QR}{ns:List Int}{o:Obj}{vs:List Qy}
section
variable{prog:QL}{w:QP}{A:QY}{E:Qy->QB->Prop}{s:QB}
abbrev bt(w:QP):Bool:=w.params.followText "set-order"
structure SI (prog:QL) (w:QP) (o:Obj) (ks:List Int) (es:Array (Int×Qy)) (ep:Nat) (t:Rq):Prop where
 ex:o.ExactSet
 dat:o.data=.set es ep t
 el:ElemsOf (Sv prog w) es.toList
 rd:RL (es.toList.map (·.2)) ks
 nd:ks.Nodup
 sm:es.size<scanBound
 ft:t.fits es.size=true
 gd:Gd (bt w) t
noncomputable def SG(prog:QL)(w:QP)(h:QR)(a:QA)(S:Int->Prop)(n:Nat):Prop:=∃o ks es ep t,h.get? a=some o/\SI prog w o ks es ep t/\(∀z,z∈ks↔S z)/\ks.length<=n
theorem kU:∀{vs:List Qy}{ns:List Int},RL vs ns->vs.length=ns.length
 | _,_,.nil=>rfl
 | _,_,.cons n t h=>by rw[h_,h_,kU h]
theorem HE{k i:Int}{t:Tok}:(Sv prog w).is k (.int i t)=decide (k=i):=KeyKind.is_eq_decide (U' prog w i t) k
theorem qq:∀{es:List (Int×Qy)}{ks:List Int},RL (es.map (·.2)) ks->∀k,k∈ks↔∃e∈es,(Sv prog w).is k e.2=true
 | [],_,.nil,k=>⟨fun h=>(nomatch h),fun⟨e,h,_⟩=>(nomatch h)⟩
 | (h0,_)::es,_,.cons n t h,k=>by
  rw[m_,qq h k];constructor
  ·rintro(rfl|⟨e,m,q⟩)
   ·exact⟨_,.head _,U' _ _ _ _⟩
   exact⟨e,.tail _ m,q⟩
  rintro⟨e,m,q⟩;rcases m_.mp m with rfl|m
  ·exact .inl (of_decide_eq_true (by rw[<-HE (prog:=prog) (w:=w) (t:=t)];exact q))
  exact .inr ⟨e,m,q⟩
theorem h9:∀{us vs:List Qy},us.Perm vs->∀{ns:List Int},RL us ns->∃ms,RL vs ms/\ns.Perm ms:=by
 intro us vs p;induction p with
 |nil=>exact fun h=>⟨_,h,.refl _⟩
 |cons x p ih=>
  intro ns h;cases h with
  |cons n t h=>
   obtain⟨ms,a,b⟩:=ih h;exact⟨n::ms,.cons n t a,.cons n b⟩
 |swap x y l=>
  intro ns h;cases h with
  |cons n t h=>
   cases h with
   |cons m u h=>exact⟨_,.cons m u (.cons n t h),.swap _ _ _⟩
 |trans p q ih jh=>
  intro ns h;obtain⟨ms,a,b⟩:=ih h;obtain⟨ls,c,d⟩:=jh a;exact⟨ls,c,b.trans d⟩
theorem AQ{n:Int}{t:Tok}(h:RL vs ns):RL (vs++[.int n t]) (ns++[n]):=by
 induction h with
 |nil=>exact .cons n t .nil
 |cons m u h ih=>exact .cons m u ih
theorem stored{es':Array (Int×Qy)}{t':Rq}(ho:h.get? a=some o)(hd:o.data=.set es ep t) :
  (h.update a (We es' t')).get? a=some {o with data:=.set es' (ep+1) t'}:=by
 have e:=Rk (We es' t') ho (by rw[putSet_of es' t' hd];rfl);rw[putSet_of es' t' hd]at e;exact e
theorem wa{g:Bool->Sem Unit}(hg:∀(b:Bool) (s₁:QB) (Q':Unit->QB->Prop),Q' () s₁->QG (QM prog w) A (g b) Q' E s₁)
  {a:QA}{o:Obj}{es es1:Array (Int×Qy)}{ep:Nat}{t t2:Rq}{ks:List Int} (ho:s.heap.get? a=some o) (hd:o.data=.set es ep t)
  (hI:SI prog w {o with data:=.set es1 (ep+1) t2} ks es1 (ep+1) t2) {wd:Bool} {R:Option Bool->QB->Prop}
  (h:∀h' o' es' ep' t' ks',Rt a s.heap h'->h'.get? a=some o'->SI prog w o' ks' es' ep' t'->ks'.Perm ks->R (some true) {s with heap:=h'}) :
  QG (QM prog w) A (storeSet a es1 t2 >>= fun _=>if(!wd&&t2.tooFull)=true then g (Uv t2 es1 (Sj es1.size)).2.2 >>= fun _=>storeSet a (Uv t2 es1 (Sj es1.size)).1 (Uv t2 es1 (Sj es1.size)).2.1 >>= fun _=>pure (some true)else pure (some true)) R E s:=by
 refine Qx (VC ho hd ?_ (SK hI.sm));have e1:=stored (es':=es1) (t':=t2) ho hd;have b1:=Rg s.heap a (We es1 t2);split
 ·have hp:=relayAll_perm t2 es1 (Sj es1.size);have hf:=relayAll_fits t2 es1 (Sj es1.size);have hG:=Dq hI.gd es1 (Sj es1.size);generalize Uv t2 es1 (Sj es1.size)=Rl at hp hf hG ⊢;obtain⟨es2,t3,gave⟩:=Rl;dsimp only at hp hf hG ⊢;have sz:es2.size=es1.size:=by rw[<-gV,hp.length_eq,gV]
  have sm2:es2.size<scanBound:=by rw[sz];exact hI.sm
  obtain⟨ks2,rd2,kp⟩:=h9 (hp.symm.map (·.2)) hI.rd;refine Qx (hg _ _ _ (Qx (VC e1 rfl ?_ (SK sm2))));have e2:=stored (es':=es2) (t':=t3) e1 rfl;exact QC (h _ _ es2 _ t3 ks2 (b1.trans (Rg _ a _)) e2 ⟨hI.ex,rfl,hI.el.perm hp,rd2,kp.nodup_iff.mp hI.nd,sm2,hf,hG⟩ kp.symm)
 exact QC (h _ _ es1 _ t2 ks b1 e1 hI (.refl _))
theorem add_int{n:Int}{tk:Tok}{Q:Bool->QB->Prop}(hS:SG prog w s.heap a S m)(hm:m+1<scanBound)
  (h:∀b h',Rt a s.heap h'->SG prog w h' a (fun z=>S z\/z=n) (m+1)->Q b {s with heap:=h'}) :
  QG (QM prog w) A (Xf a (.int n tk) ((Sv prog w).hash n)) Q E s:=by
 obtain⟨o,ks,es,ep,t,ho,I,mem,kl⟩:=hS;have kn:es.size=ks.length:=by rw[<-kU I.rd,a_,gV]
 have hk:=U' prog w n tk;unfold Xf setAddHashedIn;refine Q2 (Qx (Se ho I.dat I.ft ?_));dsimp only;rw[byScan_of rfl I.sm I.el,if_pos rfl];unfold setAddByScan;refine Qx (Qx (Sh (Qx (wpAny_setScan_of hk ho I.dat I.ft I.el ?_))));cases hr:List.findIdx? (fun e=>(Sv prog w).is n e.2) es.toList with
 |some j=>
  dsimp only;obtain⟨hj,pj,_⟩:=List.findIdx?_eq_some_iff_getElem.mp hr;have hn:n∈ks:=(qq (prog:=prog) (w:=w) I.rd n).mpr ⟨_,Mo hj,pj⟩;refine QC (QC ?_);exact h _ s.heap (X3 a s.heap) ⟨o,ks,es,ep,t,ho,I,fun z=>by rw[mem z];exact⟨.inl,fun q=>q.elim id fun e=>by rw[e];exact(mem n).mp hn⟩,by omega⟩
 |none=>
  dsimp only;have hn:n ∉ ks:=fun z=>by obtain⟨e,me,q⟩:=(qq (prog:=prog) (w:=w) I.rd n).mp z;have:=List.findIdx?_eq_none_iff.mp hr e me;rw[q]at this;cases this
  have pm:=layNew_perm t es ((Sv prog w).hash n) (.int n tk);have ft:=layNew_fits t es ((Sv prog w).hash n) (.int n tk);have gd:=Ii I.gd es ((Sv prog w).hash n) (.int n tk);generalize layNew t es ((Sv prog w).hash n) (.int n tk)=L at pm ft gd ⊢;obtain⟨es1,t1,wd,gave⟩:=L;dsimp only at pm ft gd ⊢;rw[MQ]at pm;have s1:es1.size=es.size+1:=by rw[<-gV,pm.length_eq,d_,gV];rfl
  have el1:ElemsOf (Sv prog w) es1.toList:=(I.el.push hk rfl).perm pm;have rdp:RL (G' (·.2) (es.toList++[((Sv prog w).hash n,R5 n tk)])) (ks++[n]):=by rw[p_];exact AQ I.rd
  obtain⟨ks1,rd1,kp⟩:=h9 (pm.symm.map (·.2)) rdp;have nd1:ks1.Nodup:=kp.nodup_iff.mp (MT.mpr ⟨I.nd,G_.mpr ⟨(nomatch ·),MY⟩,fun x hx y hy e=>by rw[w_.mp hy]at e;exact hn (e▸hx)⟩);have fin:∀h' o' es' ep' t' ks',Rt a s.heap h'->h'.get? a=some o'->SI prog w o' ks' es' ep' t'->ks'.Perm ks1->Q true {s with heap:=h'}:=fun h' o' es' ep' t' ks' b g I' p=>by
   refine h _ h' b ⟨o',ks',es',ep',t',g,I',fun z=>?_,?_⟩
   ·rw[p.mem_iff,<-kp.mem_iff,x_,mem z,w_]
   rw[p.length_eq,<-kp.length_eq,d_];exact OV kl
  have gw:∀(b:Bool) (s₁:QB) (Q':Unit->QB->Prop),Q' () s₁->QG (QM prog w) A (match b with|true=>rule "set.scan.the-table-gave-way" |false=>pure ()) Q' E s₁:=fun b s₁ Q' q=>by cases b <;> first|exact QC q|exact Sh q
  refine Qx (?_:QG _ _ (match gave with|true=>_|false=>_) _ _ _);have sm1:es1.size<scanBound:=by omega
  refine gw gave s _ ?_;split
  ·refine Qx ?_;rw[hashByValue_scannable 8 (x:=.int n tk) rfl];refine QC ?_;refine wa (ks:=ks1) gw ho I.dat ⟨I.ex,rfl,el1,rd1,nd1,sm1,?_,?_⟩ fun h' o' es' ep' t' ks' b g I' p=>QC (fin h' o' es' ep' t' ks' b g I' p)
   ·exact ft
   exact gd
  refine Qx (QC ?_);rw[if_pos rfl];exact wa (ks:=ks1) gw ho I.dat ⟨I.ex,rfl,el1,rd1,nd1,sm1,ft,gd⟩ fun h' o' es' ep' t' ks' b g I' p=>QC (fin h' o' es' ep' t' ks' b g I' p)
end
open PySem PyProof.Rows
theorem DW:Xg table "set.__iter__"=some RM.«frozenset.__iter__»:=Ww (id':="frozenset.__iter__") (by kernel_rfl) rfl (by decide +kernel) (by kernel_rfl)
theorem dY:W6 "set_iterator" "__next__" "set_iterator.__next__":=
 .of (owner:="set_iterator") (n:="__next__") (by rw[Wf,UZ];kernel_rfl) (by decide +kernel) (by decide +kernel) (by decide +kernel) (by first|exact .inl (by decide +kernel)|exact .inr (by decide +kernel)) (by rw[U0];kernel_rfl)
theorem ym:W6 "set_iterator" "__iter__" "set_iterator.__iter__":=
 .of (owner:="set_iterator") (n:="__iter__") (by rw[Wf,UZ];kernel_rfl) (by decide +kernel) (by decide +kernel) (by decide +kernel) (by first|exact .inl (by decide +kernel)|exact .inr (by decide +kernel)) (by rw[U0];kernel_rfl)
theorem DX:Xg table "set_iterator.__iter__"=some RM.«dict_keyiterator.__iter__»:=Ww (id':="dict_keyiterator.__iter__") (by kernel_rfl) rfl (by decide +kernel) (by kernel_rfl)
theorem yW:Xg table "set_iterator.__next__"=some RM.«set_iterator.__next__»:=entryFor_of_tree (by kernel_rfl)
theorem Gv:Yb.lookup (String.ofList ['r','o','t','a','r','e','t','i','_','t','e','s'].reverse)=some WZ:=by kernel_rfl
theorem zV(a:Qy):Xh "set_iterator.__next__" ⟨[a],[]⟩:=by unfold Xh;rw[WS (id:="set_iterator.__next__") (n:=['_','_','t','x','e','n','_','_']) (o:=['r','o','t','a','r','e','t','i','_','t','e','s']) (by kernel_rfl) Gv];kernel_rfl
theorem FE(a:Qy):Xh "set_iterator.__iter__" ⟨[a],[]⟩:=by unfold Xh;rw[WS (id:="set_iterator.__iter__") (n:=['_','_','r','e','t','i','_','_']) (o:=['r','o','t','a','r','e','t','i','_','t','e','s']) (by kernel_rfl) Gv];kernel_rfl
theorem uv{α:Type}:∀{l:List α}{i:Nat} (h:i<l.length),(l[i]::l.eraseIdx i).Perm l
 |x::l,0,_=>.refl _
 |x::l,i+1,h=>by have g:i<l.length:=Nat.lt_of_succ_lt_succ h;show(l[i]::x::l.eraseIdx i).Perm (x::l);exact(MZ ..).trans (.cons x (uv g))
theorem sV{α:Type}{next:Nat->Nat}:∀(f k:Nat) (l:List α) (out:Array α),l.length=f->(Xi next f k l out).toList.Perm (out.toList++l)
 |0,k,l,out,h=>by rw[L_ h,E_];exact .refl _
 |f+1,k,l,out,h=>by
  unfold Xi;have lt:next k%l.length<l.length:=Qv _ (by omega)
  rw[c_ lt];refine(sV f _ _ _ (by rw[OH lt];omega)).trans ?_;rw[MQ,l_];refine Mc _ ?_;exact uv lt
variable {Q:Qy->QB->Prop}{f:Qy}{it:QA}{n:Nat}{sl:Nat->Nat}
section
variable{prog:QL}{w:QP}{A:QY}{E:Qy->QB->Prop}{s:QB}
theorem wp_choose{src:Source}{Q:Nat->QB->Prop}(hn:n≠0)(h:∀i d,i<n->Q i {s with drawn:=d}):QG (QM prog w) A (choose src n) Q E s:=
 fun _ _ _=>⟨hn,h _ _ (Qv _ (Mg hn))⟩
theorem yh{α:Type}:∀(n:Nat) (xs:List α) {s:QB}{Q:List α->QB->Prop},xs.length=n->(∀ys d,ys.Perm xs->Q ys {s with drawn:=d})->QG (QM prog w) A (drawOrder n xs) Q E s
 |0,xs,s,Q,hl,h=>by rw[L_ hl]at h ⊢;exact QC (h [] s.drawn (.refl _))
 |n+1,[],s,Q,hl,h=>by cases hl
 |n+1,x::xs,s,Q,hl,h=>by unfold drawOrder;refine Qx (wp_choose (by simp) fun i d hi=>?_);rw[c_ hi];dsimp only;refine Qx (yh n _ (by rw[OH hi,hl];rfl) fun ys d' p=>QC (h _ d' ?_));exact(Ow _ p).trans (uv hi)
noncomputable def Itr(h:QR)(it:QA)(first:Qy)(i:Nat)(a:QA)(n ep:Nat):Prop:=∃o,h.get? it=some o/\o.cls=.type "set_iterator"/\o.data=.fields #[first,.int i 0,.ref a,.int n 0,.int ep 0]
theorem Itr.ty (x:Itr s.heap it f i a n ep):s.TypeIs (.ref it) "set_iterator":=let ⟨o,ho,hc,_⟩:=x;⟨o,ho,hc⟩
theorem Itr.at {h':QR}(x:Itr h it f i a n ep)(e:∀o,h.get? it=some o->h'.get? it=some o):Itr h' it f i a n ep:=let ⟨o,ho,r⟩:=x;⟨o,e _ ho,r⟩
theorem yE(x:Itr s.heap it f i a n ep)(h:Q (.ref it) s):QG (QM prog w) A (Tz (.ref it)) Q E s:=by refine Ud x.ty ym (Rh ym x.ty DX ?_ (FE _));show QG _ _ (ret (.ref it)) _ _ s;exact QC ⟨_,rfl,"set_iterator",_,x.ty,dY.lookup,h⟩
noncomputable def Nx(prog:QL)(w:QP)(a:QA)(o:Obj)(ep:Nat)(vs:List Qy)(sl:Nat->Nat):Prop:=∀(A:QY) (E:Qy->QB->Prop) (s:QB) (i:Nat) (Q:Option (Qy×Nat)->QB->Prop),s.heap.get? a=some o->i<=vs.length->Q (vs[i]?.map fun v=>(v,sl (i+1))) s->QG (QM prog w) A (Wx a (sl i) i ep) Q E s
theorem zk{Q:Option Qy->QB->Prop}(x:Itr s.heap it (.int (sl i) 0) i a es.size ep)(ho:s.heap.get? a=some o)(hd:o.data=.set es ep t)(hf:t.fits es.size=true)(N:Nx prog w a o ep vs sl)(hi:i<=vs.length)(hh:A.handled=none)
  (h1:∀v h',vs[i]?=some v->Itr h' it (.int (sl (i+1)) 0) (i+1) a es.size ep->Rt it s.heap h'->Q (some v) {s with heap:=h'}) (h2:∀h',vs[i]?=none->SX it s.heap h'->Q none {s with heap:=h'}):QG (QM prog w) A (Sd (.ref it)) Q E s:=by
 obtain⟨oi,hoi,hc,hdi⟩:=id x;unfold Sd;refine Qx (RP (Rf (name:=Rw "__next__") x.ty dY (Rh dY x.ty yW ?_ (zV _))));unfold RM.«set_iterator.__next__»;refine Qx (QC (Qx (TY hoi hdi ?_)));show QG _ _ (setEntries a >>= _) _ _ s;refine Qx (TN ho hd hf ?_);rw[if_neg (show ¬_ by simp)];show QG _ _ (Wx a _ _ _ >>= _) _ _ s;refine Qx ?_;rw[Md,Md,Md];refine N _ _ _ i _ ho hi ?_;cases e:vs[i]? with
 |some v=>
  dsimp only[NI];refine Qx (RG hoi hdi (by simp) ?_);have e1:=Rk (SU (·.setIfInBounds 0 (RD (sl (i+1))))) hoi (RT (Q_ hdi _));refine Qx (RG e1 (Q_ hdi _) (by simp) ?_);have e2:=Rk (SU (·.setIfInBounds 1 (RD ((i:Int)+1)))) e1 (RT (Q_ (Q_ hdi _) _));refine QC ⟨_,rfl,QC (h1 v _ e ⟨_,e2,((SJ ..).trans (SJ ..)).trans hc,?_⟩ ((Rg ..).trans (Rg ..)))⟩;rw[Q_ (Q_ hdi _)];simp[RD]
 |none=>
  dsimp only[NI];refine Qx (RG hoi hdi (by simp) (show QG _ _ (Us (.type "StopIteration") [] >>= _) _ _ _ from Qx ?_));simp only[Us,VM];refine Qx (Q1 (Qx (m:=R1 _ _) (SY (a:=Ra) (by first|rfl|(simp only[R1];rfl)) (Q1 ?_ (by size_fits)))) (by size_fits));simp only[VN];refine Qx (T_ ?_);rw[show A.in1.handled=none from hh];refine Qx (QC (UN ?_));refine Qx (SO (T:="StopIteration") (b:=true) (by exact⟨_,QH _ rfl,rfl⟩) TV (QC ?_));exact h2 _ e (((Rg ..).extBut.push _).push _)
theorem CM(hne:a≠it)(hd:o.data=.set es ep t)(hf:t.fits es.size=true)(N:Nx prog w a o ep vs sl)(hh:A.handled=none) :
  XE prog w A it [it,a] [it] vs.length (fun i v=>vs[i]?=some v) (fun i h=>i<=vs.length/\Itr h it (.int (sl i) 0) i a es.size ep/\h.get? a=some o) where
 sub:=fun b hb=>by simp at hb;simp[hb]
 frame:=fun _ _ _ st hk=>⟨st.1,st.2.1.at fun o e=>hk it (by simp) o e,hk a (by simp) o st.2.2⟩
 item:=fun i s Q E hi st hQ=>zk st.2.1 st.2.2 hd hf N st.1 hh (fun v h' e x sb=>hQ v h' s.toks e ⟨hi,x,sb.extBut a o hne st.2.2⟩ fun b o hb e=>sb.extBut b o (fun z=>hb (by simp[z])) e) fun h' e=>by rw[c_ hi]at e;cases e
 done:=fun s Q E st hQ=>zk st.2.1 st.2.2 hd hf N st.1 hh (fun v h' e=>by rw[NB (b_ _)]at e;cases e) fun h' _ eb=>hQ h' s.toks fun b o hb e=>eb b o (fun z=>hb (by simp[z])) e
 self:=fun _ _ _ _ st hQ=>yE st.2.1 hQ
end
open PySem PyProof.Rows
variable {ks:List Int}{ps:List Nat}
section
variable{prog:QL}{w:QP}{A:QY}{E:Qy->QB->Prop}{s:QB}
theorem wp_text{Q:Bool->QB->Prop}(h:Q (bt w) s):QG (QM prog w) A setsByText Q E s:=Qx (Uw (QC h))
theorem BX:(es.toList.map (·.2))[i]?=es[i]?.map (·.2):=by rw[B',f']
theorem EA(I:SI prog w o ks es ep t)(hb:bt w=true) :
  Nx prog w a o ep ((pickOrder (w.params.setOrder a ep) es).toList.map (·.2)) (fun _=>0):=by
 intro A E s i Q ho hi h;unfold Wx;refine Qx (Se ho I.dat I.ft (Qx (wp_text ?_)));rw[hb,if_pos rfl];dsimp only;rw[if_neg (by simp)];refine Qx ?_;unfold setWalk;refine Qx (Se ho I.dat I.ft (Qx (wp_text ?_)));rw[hb,if_pos rfl];refine Qx (Uw (QC (QC ?_)));rw[BX,Option.map_map]at h;exact h
noncomputable def slP(t:Rq):Nat->Nat
 |0=>0
 |i+1=>t.place.getD i 0+1
theorem Ck(I:SI prog w o ks es ep t)(hb:bt w=false)(hdr:(!t.plain&&decide (es.size > 1))=false) :
  Nx prog w a o ep (es.toList.map (·.2)) (slP t):=by
 intro A E s i Q ho hi h;have hz:t.place.size=es.size:=by have:=I.ft;unfold Yg at this;simp at this;exact this.1
 unfold Wx;refine Qx (Se ho I.dat I.ft (Qx (wp_text ?_)));rw[hb,if_neg (by simp)];dsimp only;refine SE (fun z=>absurd (show(!t.plain&&decide (es.size > 1))=true from z) (by rw[hdr];simp)) fun _=>Qx ?_
 show QG _ _ (if(!t.led&&!es.isEmpty)=true then _ else _) _ _ _;rw[I.gd.led hb,if_neg (by simp)];refine QC ?_;have eb:Q8 t.place (slP t i)=i:=by
  match i,hi with
  |0,_=>exact EG I.gd.up
  |i+1,hi=>
   have hi:i<t.place.size:=by rw[a_,gV]at hi;omega
   have e:t.place[i]?=some (t.place.getD i 0):=by rw[i_ hi,M5,i_ hi];rfl
   exact below_at I.gd.up e
 rw[eb];refine QC ?_;rw[BX]at h;by_cases c:i<es.size
 ·rw[i_ c,i_ (show i<t.place.size by omega)];rw[i_ c]at h;have e:slP t (i+1)=t.place[i]+1:=by show t.place.getD i 0+1=_;rw[M5,i_ (by omega)];rfl
  dsimp only[NI]at h;rw[e]at h;exact h
 rw[Mw (by omega)];rw[Mw (by omega)]at h;exact h
theorem A3{tp:QA}{ot:Obj}{c:Nat}{Q:Option Qy->QB->Prop}(x:Itr s.heap it (.ref tp) i a es.size ep)(ho:s.heap.get? a=some o)(hd:o.data=.set es ep t)(hf:t.fits es.size=true)(hot:s.heap.get? tp=some ot)(hdt:ot.data=.seq (ps.map fun(j:Nat)=>RD j).toArray c)(hps:∀p∈ps,p<es.size)(hh:A.handled=none)
  (h1:∀p v h',ps[i]?=some p->(es[p]?.map (·.2))=some v->Itr h' it (.ref tp) (i+1) a es.size ep->Rt it s.heap h'->Q (some v) {s with heap:=h'}) (h2:∀h',ps[i]?=none->SX it s.heap h'->Q none {s with heap:=h'}):QG (QM prog w) A (Sd (.ref it)) Q E s:=by
 obtain⟨oi,hoi,hc,hdi⟩:=id x;unfold Sd;refine Qx (RP (Rf (name:=Rw "__next__") x.ty dY (Rh dY x.ty yW ?_ (zV _))));unfold RM.«set_iterator.__next__»;refine Qx (QC (Qx (TY hoi hdi ?_)));show QG _ _ (setEntries a >>= _) _ _ s;refine Qx (TN ho hd hf ?_);rw[if_neg (show ¬_ by simp)];show QG _ _ (Vq (.ref tp) >>= _) _ _ s;unfold Vq;refine Qx (Qx (V0 hot ?_));rw[hdt];refine QC ?_;dsimp only;rw[Md,Md];have ea:((ps.map fun(j:Nat)=>RD j).toArray)[i]?=ps[i]?.map fun(j:Nat)=>RD j:=by rw[List.getElem?_toArray,B']
 rw[ea];cases e:ps[i]? with
 |some p=>
  have hp:=hps p (F_ e);dsimp only[NI,RD];unfold setNextDrawn;refine Qx (Qx (Se ho hd hf ?_));dsimp only;rw[if_neg (by simp),Md,i_ hp];refine QC (Qx (RG hoi hdi (by simp) ?_));have e1:=Rk (SU (·.setIfInBounds 1 (RD ((i:Int)+1)))) hoi (RT (Q_ hdi _));refine QC ⟨_,rfl,QC (h1 p _ _ e (by rw[i_ hp];rfl) ⟨_,e1,(SJ ..).trans hc,?_⟩ (Rg ..))⟩;rw[Q_ hdi _];simp[RD]
 |none=>
  dsimp only[NI];refine Qx (RG hoi hdi (by simp) ?_);have e1:=Rk (SU (·.setIfInBounds 0 (RD 0))) hoi (RT (Q_ hdi _));refine Qx (RG e1 (Q_ hdi _) (by simp) (show QG _ _ (Us (.type "StopIteration") [] >>= _) _ _ _ from Qx ?_));simp only[Us,VM];refine Qx (Q1 (Qx (m:=R1 _ _) (SY (a:=Ra) (by first|rfl|(simp only[R1];rfl)) (Q1 ?_ (by size_fits)))) (by size_fits));simp only[VN];refine Qx (T_ ?_);rw[show A.in1.handled=none from hh];refine Qx (QC (UN ?_));refine Qx (SO (T:="StopIteration") (b:=true) (by exact⟨_,QH _ rfl,rfl⟩) TV (QC ?_));exact h2 _ e ((((Rg ..).trans (Rg ..)).extBut.push _).push _)
theorem Dd{tp:QA}(hne:a≠it)(hnt:tp≠it){ot:Obj}{c:Nat}(hd:o.data=.set es ep t)(hf:t.fits es.size=true)(hdt:ot.data=.seq (ps.map fun(j:Nat)=>RD j).toArray c)(hps:∀p∈ps,p<es.size)(hh:A.handled=none) :
  XE prog w A it [it,a,tp] [it] ps.length (fun i v=>∃p,ps[i]?=some p/\es[p]?.map (·.2)=some v) (fun i h=>Itr h it (.ref tp) i a es.size ep/\h.get? a=some o/\h.get? tp=some ot) where
 sub:=fun b hb=>by simp at hb;simp[hb]
 frame:=fun _ _ _ st hk=>⟨st.1.at fun o e=>hk it (by simp) o e,hk a (by simp) o st.2.1,hk tp (by simp) ot st.2.2⟩
 item:=fun i s Q E hi st hQ=>A3 st.1 st.2.1 hd hf st.2.2 hdt hps hh (fun p v h' e1 e2 x sb=>hQ v h' s.toks ⟨p,e1,e2⟩ ⟨x,sb.extBut a o hne st.2.1,sb.extBut tp ot hnt st.2.2⟩ fun b o hb e=>sb.extBut b o (fun z=>hb (by simp[z])) e) fun h' e=>by rw[c_ hi]at e;cases e
 done:=fun s Q E st hQ=>A3 st.1 st.2.1 hd hf st.2.2 hdt hps hh (fun p v h' e=>by rw[NB (b_ _)]at e;cases e) fun h' _ eb=>hQ h' s.toks fun b o hb e=>eb b o (fun z=>hb (by simp[z])) e
 self:=fun _ _ _ _ st hQ=>yE st.1 hQ
end
open PySem PyProof.Rows
variable {acc:Array Qy}
section
variable{prog:QL}{w:QP}{A:QY}{E:Qy->QB->Prop}{s:QB}
theorem Cb(h:Wv (fun i v=>vs[i]?=some v) acc vs.length):acc.toList=vs:=by
 refine Pz fun j=>?_;rw[f'];by_cases hj:j<vs.length
 ·have hja:j<acc.size:=by rw[h.1];exact hj
  have e:=i_ hja;rw[e];exact(h.2 j _ e).symm
 rw[Mw (by rw[h.1];omega),NB (by omega)]
theorem Ds(hp:ps.Perm (A_ es.size))(h:Wv (fun i v=>∃p,ps[i]?=some p/\es[p]?.map (·.2)=some v) acc ps.length):acc.toList.Perm (es.toList.map (·.2)):=by
 have e:acc.toList=ps.filterMap fun p=>es[p]?.map fun(x:Int×Qy)=>x.2:=by
  have g:∀(qs:List Nat) (vs:List Qy),vs.length=qs.length->(∀(j:Nat) v,vs[j]?=some v->∃p:Nat,qs[j]?=some p/\es[p]?.map (fun(x:Int×Qy)=>x.2)=some v)->vs=qs.filterMap fun p=>es[p]?.map fun(x:Int×Qy)=>x.2:=by
   intro qs;induction qs with
   |nil=>exact fun vs l _=>L_ l
   |cons q qs ih=>
    intro vs l k
    match vs,l,k with
    |v::vs,l,k=>
     obtain⟨p,e1,e2⟩:=k 0 v rfl;cases e1;rw[List.filterMap_cons_some (f:=fun p=>NI (fun(x:Int×Qy)=>x.2) es[p]?) e2,<-ih vs (MG l) fun j v e=>k (j+1) v e]
  exact g ps acc.toList (by rw[gV];exact h.1) fun j v e=>h.2 j v (by rw[<-f'];exact e)
 rw[e];refine(hp.filterMap _).trans ?_;have e2:(A_ es.size).filterMap (fun p=>es[p]?.map (·.2))=((A_ es.size).filterMap fun p=>es[p]?).map (·.2):=by rw[List.map_filterMap]
 rw[e2,filterMap_getElem?_range]
theorem Bt(ho:s.heap.get? a=some o)(I:SI prog w o ks es ep t)(hh:A.handled=none)
  (h:∀(h1:QR) d (it:QA) (fp:List QA) (P:Nat->Qy->Prop) (St:Nat->QR->Prop),s.heap.objs.size<=it->it<h1.objs.size->(∀b u,s.heap.get? b=some u->h1.get? b=some u)->(∀b∈fp,b=a\/s.heap.objs.size<=b)->XE prog w A it fp [it] es.size P St->St 0 h1->(∀acc,Wv P acc es.size->acc.toList.Perm (es.toList.map (·.2)))->Q (.ref it) {s with heap:=h1,drawn:=d}) :
  QG (QM prog w) A (Tz (.ref a)) Q E s:=by
 have hT:s.TypeIs (.ref a) "set":=⟨o,ho,I.ex.1⟩;have lt:=QK ho;have hz:es.size<=sizeLine:=SK I.sm;refine Ud hT Wg (Rh Wg hT DW ?_ (F.args_set_iter_1 _));unfold RM.«frozenset.__iter__»;refine Qx ?_;unfold Xm;refine Qx (QC (QC (Qx ?_)));unfold Xj;refine Qx (TN ho I.dat I.ft (QC (Qx ?_)));unfold setDrawn;refine Qx (Se ho I.dat I.ft (Qx (wp_text (QC ?_))));have plain:∀(vs:List Qy) (sl:Nat->Nat),sl 0=0->vs.Perm (es.toList.map (·.2))->Nx prog w a o ep vs sl->Q (.ref s.heap.objs.size) {s with heap:=s.heap.push { cls:=.type "set_iterator",data:=.fields #[.int 0 0,.int 0 0,.ref a,.int es.size 0,.int ep 0] } }:=fun vs sl h0 pm N=>by
  have ln:vs.length=es.size:=by rw[pm.length_eq,a_,gV]
  have W:=CM (A:=A) (it:=s.heap.objs.size) (v_ lt) I.dat I.ft N hh;rw[ln]at W;refine h _ s.drawn _ _ _ _ (b_ _) (by rw[Rr];exact Nj _) (fun b u e=>QD _ e) (fun b hb=>?_) W ⟨D' _,⟨_,QH _ rfl,rfl,?_⟩,QD _ ho⟩ fun acc it=>?_
  ·rcases m_.mp hb with e|hb
   ·exact .inr (NS e.symm)
   exact .inl (w_.mp hb)
  ·rw[h0]
   rfl
  rw[<-ln]at it;rw[Cb it];exact pm
 cases hb:bt w with
 |true=>
  refine Qx ?_;refine QC ?_;refine Qx (Ue ho I.dat I.ft ?_);refine Qx (Q1 ?_);refine QC ⟨_,rfl,"set_iterator",_,⟨_,QH _ rfl,rfl⟩,dY.lookup,?_⟩;exact plain _ _ rfl ((sV _ _ _ _ (by rw[gV])).map _) (EA I hb)
 |false=>
  cases hdr:(!t.plain&&decide (es.size > 1))with
  |false=>
   refine SE (fun z=>absurd (show(!false&&(!t.plain&&decide (es.size > 1)))=true from z) (by rw[hdr];simp)) fun _=>Qx (QC ?_)
   refine Qx (Ue ho I.dat I.ft ?_);refine Qx (Q1 ?_);refine QC ⟨_,rfl,"set_iterator",_,⟨_,QH _ rfl,rfl⟩,dY.lookup,?_⟩;exact plain _ _ rfl (.refl _) (Ck I hb hdr)
  |true=>
   refine SE (fun _=>?_) fun z=>absurd (show(!false&&(!t.plain&&decide (es.size > 1)))=true by rw[hdr];rfl) z
   refine Qx (yh _ _ (by rw[Ml]) fun ys d pm=>?_);refine Qx (Q1 ?_ ?_);refine Qx (Ue (QD _ ho) I.dat I.ft ?_);refine Qx (Q1 ?_);refine QC ⟨_,rfl,"set_iterator",_,⟨_,QH _ rfl,rfl⟩,dY.lookup,?_⟩
   ·have yl:ys.length=es.size:=by rw[pm.length_eq,Ml]
    have hz2:∀x:Obj,(s.heap.push x).objs.size=s.heap.objs.size+1:=fun x=>Rr ..;have W:=Dd (prog:=prog) (w:=w) (A:=A) (it:=s.heap.objs.size+1) (a:=a) (tp:=s.heap.objs.size) (v_ (MR lt)) (v_ (Nj _)) (ot:={ cls:=.type "tuple",data:=.seq (ys.map fun(j:Nat)=>RD j).toArray}) I.dat I.ft rfl (fun p hp=>Kk.mp (pm.mem_iff.mp hp)) hh;rw[yl]at W;have e2:∀x y:Obj,y.isFreed=false->((s.heap.push x).push y).get? (s.heap.objs.size+1)=some y:=fun x y q=>by rw[<-hz2 x];exact QH _ q
    have r:=h ((s.heap.push { cls:=.type "tuple",data:=.seq (ys.map fun(j:Nat)=>RD j).toArray}).push { cls:=.type "set_iterator",data:=.fields #[.ref s.heap.objs.size,.int 0 0,.ref a,.int es.size 0,.int ep 0] }) d (s.heap.objs.size+1) _ _ _ (Nt _) (by rw[Rr,Rr];exact Nj _) (fun b u e=>QD _ (QD _ e)) (fun b hb=>?_) W ⟨⟨_,e2 _ _ rfl,rfl,rfl⟩,QD _ (QD _ ho),QD _ (QH _ rfl)⟩ fun acc it=>Ds pm (by rw[yl];exact it)
    ·rw[<-hz2]at r;exact r
    simp only[m_,Ms,or_false]at hb;rcases hb with e|e|e
    ·exact .inr (by rw[e];exact Nt _)
    ·exact .inl e
    exact .inr (NS e.symm)
   show _<=_;rw[q_,a_,pm.length_eq,Ml];exact hz
end
open PySem PyProof.Rows
section
variable{prog:QL}{w:QP}{A:QY}{E:Qy->QB->Prop}{s:QB}
theorem BG{Q:Bool->QB->Prop}(hT:s.TypeIs (.ref a) "set")(h:Q false s):QG (QM prog w) A (T5 (.ref a)) Q E s:=by
 unfold T5;refine Qx (UD hT F.slot_set_len.lookup ?_);generalize hid:("set.__len__":String)=id0
 wp_delta
 rw[show splitId id0=some ("set","__len__")from by subst hid;decide +kernel];subst hid;refine Qx (SO (T:="set") (b:=true) hT (by rw[U0];kernel_rfl) ?_);refine SE (fun z=>absurd z (by decide)) fun _=>SE (fun _=>Qx (Vm hT (QC h))) fun z=>absurd (by decide +kernel) z
theorem FC{R:W4->QB->Prop}(ho:s.heap.get? a=some o)(I:SI prog w o ks es ep t)(hh:A.handled=none)(S:QA)(hSa:S≠a)(res:Qy)(c₀:Nat)(hS:s.heap.get? S=some { cls:=.type "list",data:=.seq #[] c₀ })
  (hR:∀h' tk d acc c,(∀b u,b≠S->s.heap.get? b=some u->h'.get? b=some u)->h'.get? S=some { cls:=.type "list",dict:=none,data:=.seq acc c,slots:=#[] }->acc.toList.Perm (es.toList.map (·.2))->R (.ok (.ret res)) {s with heap:=h',drawn:=d,toks:=tk}) :
  QG (QM prog w) A.in1 (T6 (.ref S) (.ref a) res) (fun fin s'=>match fin with | .done f=>R (.ok f) s' | .again c'=>c'.quiet=true/\Sx (QM prog w) A c' R s') (fun e s'=>R (.error e) s') s:=by
 have hz:es.size<=sizeLine:=SK I.sm;have lS:=QK hS;unfold T6;refine Qx (Vm (T:="set") ⟨o,ho,I.ex.1⟩ ?_);have h1:Ux (.ref S) (.ref a)=false:=by simp[Ux,hSa]
 have h2:(RB "set" == RB "list")=false:=by decide
 have h3:(RB "set" == RB "tuple")=false:=by decide
 simp only[h1,h2,h3,Qb,LQ,if_false];refine Qx (Bt ho I hh fun h1 d it fp P St hit hlt kp hfp W st pm=>?_);have hSf:S ∉ fp:=fun z=>(hfp S z).elim hSa fun z=>N_ z lS;have hSi:S≠it:=fun z=>by rw[z]at lS;exact N_ hit lS
 have key:∀(h:QR) (c₁:Nat) (tk:Nat),St 0 h->(∀b u,b≠S->h1.get? b=some u->h.get? b=some u)->h.get? S=some { cls:=.type "list",data:=.seq #[] c₁ }->Sx (QM prog w) A (.builtin "list.extend.loop" ⟨[.ref S,.ref it,res],[]⟩) R {s with heap:=h,drawn:=d,toks:=tk}:=by
  intro h c₁ tk hst hk hS₁;refine codeAny_extend_loopS W.toS hz S hSf res es.size 0 _ #[] c₁ rfl (D' _) hst hS₁ (ItemsOf.nil _) fun s' acc' c' hm hS' hacc=>?_;rw[Moved.eq_with hm];refine hR s'.heap s'.toks d acc' c' (fun b u hb e=>hm.heap b u (fun z=>?_) (hk b u hb (kp b u e))) hS' (pm _ hacc);rcases m_.mp z with z|z
  ·exact hb z
  have:=QK e;rw[w_.mp z]at this;exact N_ hit this
 have hS₁:=kp _ _ hS;refine Qx (Q2 (BG ⟨o,kp _ _ ho,I.ex.1⟩ ?_));refine SE (fun _=>?_) (fun _=>QC ⟨Tr Ui _,key _ c₀ _ st (fun b u _ e=>e) hS₁⟩);refine Qx (Sh ?_);refine Qx ?_;show QG _ _ (updateSeq S (·.push .none) >>= fun _=>updateSeq S (·.pop)) _ _ _;refine Qx (Wh hS₁ rfl ?_);have hS₂:=Rk (Q0 (·.push Ra)) hS₁ rfl;refine Wh (hz:=by seq_fits) hS₂ rfl ?_;have hS₃:=Rk (Q0 (·.pop)) hS₂ rfl;refine QC ⟨Tr Ui _,key _ _ _ ?_ (fun b u hb e=>?_) hS₃⟩
 ·refine W.frame 0 _ _ st fun b hb u e=>?_;have hbS:b≠S:=fun z=>hSf (z▸hb);exact(RN _ _ (Sw hbS)).trans ((RN _ _ (Sw hbS)).trans e)
 exact(RN _ _ (Sw hb)).trans ((RN _ _ (Sw hb)).trans e)
theorem w9{Q:List Qy->QB->Prop}(ho:s.heap.get? a=some o)(I:SI prog w o ks es ep t)(hh:A.handled=none)
  (h:∀h' tk d (vs:List Qy),s.heap.objs.size<=h'.objs.size->(∀b u,s.heap.get? b=some u->h'.get? b=some u)->vs.Perm (es.toList.map (·.2))->Q vs {s with heap:=h',drawn:=d,toks:=tk}):QG (QM prog w) A (collect (.ref a)) Q E s:=by
 unfold collect;refine Qx (Wy (SF F.entry_proto_collect ?_));rw[Si F.plain_proto_collect _];show QG _ A.in1 (newList [] >>= fun l=>again (.builtin "list.__iadd__" ⟨[l,.ref a],[]⟩)) _ _ s;refine Qx (Q1 ?_);refine QC ⟨Tr VD _,SF F.entry_list_iadd ?_⟩;rw[Si VD _];have hS:(s.heap.push { cls:=.type "list",data:=.seq ([]:List Qy).toArray}).get? s.heap.objs.size=some { cls:=.type "list",data:=.seq ([]:List Qy).toArray}:=QH _ rfl;have hne:s.heap.objs.size≠a:=Nz (QK ho);have fin:∀(s':QB) (h':QR) (tk:Nat) (d:WV) (acc:Array Qy) (c:Nat),s'={s with heap:=h',drawn:=d,toks:=tk}->(∀b u,s.heap.get? b=some u->h'.get? b=some u)->h'.get? s.heap.objs.size=some { cls:=.type "list",dict:=none,data:=.seq acc c,slots:=#[] }->acc.toList.Perm (es.toList.map (·.2))->
   QG (QM prog w) A (load s.heap.objs.size >>= fun o=>match o.data with
    | .seq xs _=>pure xs.toList
    | _=>unsupported "internal:collect") Q E s':=fun s' h' tk d acc c es' kp e it=>by
  subst es';refine Qx (V0 e ?_);exact QC (h h' tk d _ (J_ (QK e)) kp it)
 refine Q7 (FC (s:={s with heap:=s.heap.push { cls:=.type "list",data:=.seq ([]:List Qy).toArray} }) (R:=fun r s'=>∃(h':QR) (tk:Nat) (d:WV) (acc:Array Qy) (c:Nat),r=.ok (.ret (.ref s.heap.objs.size))/\s'={s with heap:=h',drawn:=d,toks:=tk}/\(∀b u,s.heap.get? b=some u->h'.get? b=some u)/\h'.get? s.heap.objs.size=some { cls:=.type "list",dict:=none,data:=.seq acc c,slots:=#[] }/\acc.toList.Perm (es.toList.map (·.2)))
  (QD _ ho) I hh s.heap.objs.size hne (.ref s.heap.objs.size) 0 hS (fun h' tk d acc c kp e it=>⟨h',tk,d,acc,c,rfl,rfl,fun b u eb=>kp b u (v_ (QK eb)) (QD _ eb),e,it⟩)) (fun fn s' hf=>?_) (fun e s' hf=>?_)
 ·cases fn with
  |done f=>
   obtain⟨h',tk,d,acc,c,ef,es',kp,e,it⟩:=hf;cases ef;exact fin s' h' tk d acc c es' kp e it
  |again c'=>
   refine⟨hf.1,Sl hf.2 fun r s'' hr=>?_⟩;obtain⟨h',tk,d,acc,c,er,es',kp,e,it⟩:=hr;subst er;exact fin s'' h' tk d acc c es' kp e it
 obtain⟨_,_,_,_,_,ef,_⟩:=hf;cases ef
end
open PySem PyProof.Rows
section
variable{prog:QL}{w:QP}{A:QY}{R:W4->QB->Prop}{I:QA}{fp wr:List QA}{G:Array VI->Array VI->Prop}{n:Nat}{P:Nat->Qy->Prop}{St:Nat->QB->Prop}
theorem SG.at {h':QR}(x:SG prog w h a S m)(k:∀o,h.get? a=some o->h'.get? a=some o):SG prog w h' a S m:=by obtain⟨o,ks,es,ep,t,e,r⟩:=x;exact⟨o,ks,es,ep,t,k _ e,r⟩
theorem SG.congr {S':Int->Prop}(x:SG prog w h a S m)(k:∀z,S z↔S' z):SG prog w h a S' m:=by obtain⟨o,ks,es,ep,t,e,r,q⟩:=x;exact⟨o,ks,es,ep,t,e,r,fun z=>(q.1 z).trans (k z),q.2⟩
theorem C0(W:WalksS prog w A.in1 I fp wr G n P St)(S:QA)(hSf:S ∉ fp)(val:Nat->Int)(hval:∀i v,P i v->∃t,v=.int (val i) t)(hb:n+1<scanBound) :
  ∀(k i:Nat) (s:QB),n-i=k->i<=n->St i s->SG prog w s.heap S (fun z=>∃j,j<i/\val j=z) i->(∀s',Moved (S::wr) G s s'->SG prog w s'.heap S (fun z=>∃j,j<n/\val j=z) n->R (.ok (.ret .none)) s')->Sx (QM prog w) A (.builtin "set.update.loop" ⟨[.ref S,.ref I],[]⟩) R s:=by
 have hSw:S ∉ wr:=fun h=>hSf (W.sub _ h);have hsub:∀b∈wr,b∈S::wr:=fun b hb=>k_ _ hb;intro k;induction k with
 |zero=>
  intro i s hk hi hst hS hR;obtain rfl:i=n:=by omega
  refine SF UB ?_;rw[Si Tc _];show QG _ A.in1 (Sd (.ref I) >>= _) _ _ s;refine Qx (W.done s _ _ hst fun s' hm=>?_);show QG _ A.in1 (ret Ra) _ _ s';exact QC (hR s' (hm.mono hsub) (hS.at fun o e=>hm.heap S _ hSw e))
 |succ k ih=>
  intro i s hk hi hst hS hR;have hlt:i<n:=by omega
  refine SF UB ?_;rw[Si Tc _];show QG _ A.in1 (Sd (.ref I) >>= _) _ _ s;refine Qx (W.item i s _ _ hlt hst fun v s' hP hst' hm=>?_);obtain⟨t,rfl⟩:=hval i v hP;have hS':=hS.at (h':=s'.heap) fun o e=>hm.heap S _ hSw e;show QG _ A.in1 (Tu [R5 (val i) t] (setAdd S (.int (val i) t)) >>= _) _ _ s';refine Qx (Q2 ?_);unfold setAdd;refine Q2 (Qx ((Sv prog w).pyHash (k:=val i) (U' _ _ _ _) ?_));refine add_int (s:={s' with toks:=s'.toks+1}) hS' (by omega) fun _ h' sb hS2=>?_
  have hSi:SG prog w h' S (fun z=>∃j,j<i+1/\val j=z) (i+1):=hS2.congr fun z=>⟨fun q=>q.elim (fun⟨j,a,b⟩=>⟨j,by omega,b⟩) fun e=>⟨i,by omega,e.symm⟩,fun⟨j,a,b⟩=>by
   by_cases c:j=i
   ·exact .inr (by rw[<-b,c])
   exact .inl ⟨j,by omega,b⟩⟩
  refine QC ⟨Tr Tc _,ih (i+1) _ (by omega) hlt (W.frame _ s' _ _ hst' (Nt _) fun b hb o e=>?_) hSi fun s'' hm'' hS''=>?_⟩
  ·rw[sb.2 b (fun h:b=S=>hSf (by rw[<-h];exact hb))];exact e
  refine hR s'' (Moved.trans W.gtrans ((hm.mono hsub).then_heap (Nt _) fun b o hb e=>?_) hm'') hS'';rw[sb.2 b (fun h:b=S=>hb (by rw[h];exact o_))];exact e
end
section
variable{prog:QL}{w:QP}{A:QY}{E:Qy->QB->Prop}{s:QB}
abbrev nob(w:QP):Obj:={ cls:=.type "set",dict:=none,data:=.set #[] 0 (.fresh 0 0 (!bt w)) }
theorem DZ(a:Qy)(h:Q (.ref s.heap.objs.size) {s with heap:=s.heap.push (nob w) }):Sx (QM prog w) A (.call (.builtin "set.__new__") ⟨[.type "set",a],[]⟩) (wants Q E) s:=by
 refine Wi ?_;show QG _ A.in1 (checkBuiltinCall "set.__new__" ⟨[.type "set",a],[]⟩ >>= fun _=>again (.builtin "set.__new__" ⟨[.type "set",a],[]⟩)) _ _ s;refine Qx (SY (F.newCall_set_1 a) (QC ⟨Tr Wj _,SF F.entry_set_new ?_⟩));rw[Si Wj _];unfold RM.«set.__new__» WT;have hsub:=sub_set_self;obtain⟨hp,g,d,tk,os⟩:=s;dsimp only
 wp_walk
 refine Uw (QC ?_);dsimp only;simp only[newObj];refine Qx (wpAny_alloc (QC ?_));exact QC h
theorem IZ:SG prog w (h.push (nob w)) h.objs.size (fun _=>False) 0:=
 ⟨_,[],#[],0,_,QH _ rfl,⟨⟨rfl,rfl,rfl⟩,rfl,fun e he=>(nomatch he),.nil,MY,by decide,rfl,CF _ _ _⟩,fun z=>⟨(nomatch ·),QU⟩,b_ _⟩
set_option maxHeartbeats 3200000 in
theorem D8{l:QA}{items:Array Qy}(hh:A.handled=none)(hl:s.heap.IsList l items)(hi:RL items.toList ns)(hb:items.size+1<scanBound)
  (h:∀(h':QR) (tk:Nat),SG prog w h' s.heap.objs.size (fun z=>z∈ns) items.size->(∀b o,b<s.heap.objs.size->s.heap.get? b=some o->h'.get? b=some o)->Q (.ref s.heap.objs.size) {s with heap:=h',toks:=tk}) :
  QG (QM prog w) A (call (.type "set") [.ref l]) Q E s:=by
 obtain⟨c,tl,hmro⟩:=Sr.mro;have hmade:=Sr.made;have hsub:=Sr.sub;refine wpAny_call (Wi ?_);show QG _ _ (callAny (.type "set") _) _ _ _;refine QC ⟨Code.quiet_builtin _ (by decide +kernel),SF F.entry_type_call ?_⟩;rw[Around.under_plain (weight_type_call_type "set" [.ref l] []) rfl];have h1:=Sr.notType;have h2:=Sr.canCreate;have hct:=F.typeCall_set_1 (.ref l)
 repeat (any_goals (first|assumption|wp_step))
 refine Sl (DZ (.ref l) (E:=E) (Q:=fun obj s₁=>obj=.ref s.heap.objs.size/\s₁={s with heap:=s.heap.push (nob w) }) ⟨rfl,rfl⟩) fun r s₁ hr=>?_;cases r with
 |error e=>exact hr
 |ok fl=>
  cases fl with
  |ret obj=>
   obtain⟨rfl,rfl⟩:=hr;have hS:(s.heap.push (nob w)).get? s.heap.objs.size=some (nob w):=QH _ rfl;have hT:Shared.TypeIs {s with heap:=s.heap.push (nob w) } (.ref s.heap.objs.size) "set":=⟨_,hS,rfl⟩;have hli:=Sr.init.lookup;have hbi:=Sr.init.bind (.ref s.heap.objs.size)
   repeat (any_goals (first|assumption|wp_step))
   refine Sl (codeAny_call_builtin (R:=wants (fun r s₂=>r=.none/\∃h' tk,s₂={s with heap:=h',toks:=tk}/\SG prog w h' s.heap.objs.size (fun z=>z∈ns) items.size/\(∀b o,b<s.heap.objs.size->s.heap.get? b=some o->h'.get? b=some o)) E) Sr.init.plain F.entry_set_init (check_set_init_1 hT ?_)) fun r₂ s₂ hr₂=>?_
   ·obtain⟨ol,hol,hcl,nl,hdl⟩:=hl;obtain⟨ocls,odict,odata,oslots⟩:=ol;simp only at hcl hdl;subst hcl;subst hdl;have hol':(s.heap.push (nob w)).get? l=some { cls:=.type "list",dict:=odict,data:=.seq items nl,slots:=oslots}:=QD _ hol;have hsls:=F.sub_list_set;have hslf:=F.sub_list_frozenset;have hne:(RB "list" == RB "dict")=false:=by decide
    have hl1:(s.heap.push (nob w)).IsList l items:=⟨_,hol',rfl,nl,rfl⟩;unfold RM.«set.__init__» noKeywords Wz;generalize hPI:Tz=PI
    wp_walk
    subst hPI;refine RW hl1 ?_;refine Qx (Wy ?_);have hlS:l<s.heap.objs.size:=QK hol;have hh3:A.in1.in1.in1.handled=none:=by simp[hh]
    have hneI:l≠(s.heap.push (nob w)).objs.size:=by rw[Rr];exact v_ (MR hlS)
    have hSf:s.heap.objs.size ∉ [(s.heap.push (nob w)).objs.size,l]:=by rw[Rr];simp only[m_,w_,Ms,or_false,not_or];exact⟨v_ (Nj _),Nz hlS⟩
    have hval:∀(i:Nat) (v:Qy),items[i]?=some v->∃t,v=.int ((fun i=>ns.getD i 0) i) t:=fun i v hv=>IntsAre.int_at hi i v (by rw[f'];exact hv)
    refine C0 ((XC hh3 _ l hneI items).toS) s.heap.objs.size hSf (fun i=>ns.getD i 0) hval hb (items.size-0) 0 _ (by omega) (D' _) ⟨⟨_,QH _ rfl,rfl,rfl⟩,(hl1.push _)⟩ ?hS0 ?hR
    case hS0=>exact(IZ.at fun o e=>QD _ e).congr fun z=>⟨QU,fun⟨j,a,_⟩=>absurd a (by omega)⟩
    case hR=>
     intro s' hm hS';obtain⟨h',g',d',tk',os'⟩:=s';have eg:g'=s.gens:=hm.gens;have ed:d'=s.drawn:=hm.drawn;have eo:os'=s.os:=hm.os;subst eg;subst ed;subst eo;refine QC ?_;show QG _ _ (ret Ra) _ _ _;have nl:items.size=ns.length:=by rw[<-kU hi,gV]
     refine QC ⟨rfl,h',tk',rfl,hS'.congr fun z=>⟨fun⟨j,a,b⟩=>?_,fun q=>?_⟩,fun b o hb e=>?_⟩
     ·rw[<-b,LY,c_ (by omega)];exact Mo _
     ·obtain⟨j,a,b⟩:=L'.mp q;exact⟨j,by omega,by rw[LY,c_ a];exact b⟩
     refine hm.heap b o ?_ (QD _ (QD _ e));rw[Rr];simp only[m_,w_,Ms,or_false,not_or];exact⟨v_ hb,v_ (MR hb)⟩
   ·cases r₂ with
    |error e=>exact hr₂
    |ok fl₂=>
     cases fl₂ with
     |ret r=>
      obtain⟨rfl,h',tk,rfl,hS',hk'⟩:=hr₂
      repeat (any_goals (first|assumption|wp_step))
      exact h _ _ hS' hk'
     | _=>exact hr₂.elim
  | _=>exact hr.elim
end
open PySem PyProof.Rows
section
variable{prog:QL}{w:QP}{A:QY}{E:Qy->QB->Prop}{s:QB}
theorem mR:∀{vs:List Qy}{ns:List Int},RL vs ns->vs.map ZS.fO=ns/\∀v∈vs,∃i t,v=.int i t/\i∈ns
 | _,_,.nil=>⟨rfl,fun v h=>(nomatch h)⟩
 | _,_,.cons n t h=>by
  obtain⟨a,b⟩:=mR h;refine⟨by rw[g_,a];rfl,fun v hv=>?_⟩;rcases m_.mp hv with e|hv
  ·exact⟨n,t,e,.head _⟩
  obtain⟨i,u,e,m⟩:=b v hv;exact⟨i,u,e,.tail _ m⟩
theorem xA(ho:s.heap.get? a=some o)(I:SI prog w o ks es ep t)(hh:A.handled=none)
  (h:∀(out:List Qy) (ms:List Int) p c h' tk d,RL out ms->ms.Perm ks->ms.Pairwise (·<=·)->s.heap.objs.size<=p->(∀b u,s.heap.get? b=some u->h'.get? b=some u)->h'.get? p=some (QZ "list" out.toArray c)->Q (.ref p) {s with heap:=h',drawn:=d,toks:=tk}) :
  QG (QM prog w) A (call (.builtin "sorted") [.ref a]) Q E s:=by
 refine S4 VG Vs Vt (Xb _) ?_;unfold RM.«sorted»;refine Qx (m:=Wd "sorted" 1 1 _) (QC ?_);refine Qx (w9 ho I hh fun h0 tk d vs le k0 pm=>?_);obtain⟨ns,hI,kp⟩:=h9 pm.symm I.rd;obtain⟨keys,each⟩:=mR hI;have hz:vs.length<=sizeLine:=by rw[pm.length_eq,a_,gV];exact SK I.sm
 refine Qx (Sy ?_ hz);have hoL:(h0.push (QZ "list" vs.toArray 0)).get? h0.objs.size=some (QZ "list" vs.toArray 0):=QH _ rfl;have keep:∀b o,s.heap.get? b=some o->(h0.push (QZ "list" vs.toArray 0)).get? b=some o:=fun b o q=>QD _ (k0 b o q);show QG _ _ _ _ _ {s with heap:=h0.push (QZ "list" vs.toArray 0),drawn:=d,toks:=tk};have ne:∀b o,s.heap.get? b=some o->b≠h0.objs.size:=fun b o e=>v_ (QK (k0 b o e));generalize h0.push (QZ "list" vs.toArray 0)=h1 at hoL keep ⊢;refine Qx (Q2 (Rh UX ⟨_,hoL,rfl⟩ UI ?body (Wu _)))
 case body=>
  refine ZS.rB (s:={s with heap:=h1,drawn:=d,toks:=tk}) (kd:=VU) (rk:=fun x=>ZS.rnk ZS.ltI ns (ZS.fO x.1)) (S:=fun x=>x.1∈vs) hoL hz (fun v hv=>hv) (fun h' k {Q} hne q=>?_) (fun h' k=>ZS.CZ fun x hx=>each _ hx) fun out c h' g1 g2 g3 g4=>?_
  ·obtain⟨v1,vs',ev⟩:=List.exists_cons_of_ne_nil hne;rw[ev]at hI ⊢;exact ZS.CJ hI q
  obtain⟨ms,om,mp⟩:=h9 g1.symm hI;have eo:=(mR om).1;refine⟨_,rfl,QC ⟨_,rfl,h out ms _ c h' tk d om (mp.symm.trans kp.symm) ?_ le (fun b u e=>g3 b u (ne b u e) (keep b u e)) g4⟩⟩;rw[<-eo,K_];refine MD (fun{x y} hx hy hxy=>?_) g2;by_cases z:ZS.fO x<=ZS.fO y
  ·exact z
  have:=ZS.uo ZS.JZ (ks:=ns) (a:=ZS.fO y) (b:=ZS.fO x) (by rw[<-keys];exact Mk (g1.mem_iff.mp hy)) (decide_eq_true (by omega));exact absurd this (Pc.mpr hxy)
end
end ZT
namespace L2
open PySem PySem.Spec PyProof.Rows
section
variable{X:Cx}
theorem Inv.drw {pins:List (QA×Obj)}{s:QB}{σ:St}{H:Hp}{d:WV}(I:Inv X pins σ H s):Inv X pins σ H {s with drawn:=d}:=⟨I.ok,I.os,I.bare,I.base,I.loc,I.cell,I.free,I.freeC,I.pin,I.hok,I.len⟩
theorem C2:∀{vs:List Qy}{ns:List Int},RL vs ns->Vals (ns.map V.int) vs
 | _,_,.nil=>.nil
 | _,_,.cons n t h=>.cons ⟨t,rfl⟩ (C2 h)
theorem AD{e:QQ}{te:TE}{p1 p2 pos1 pos2:Pos}(hc:X.calm=true)(hg1:Gl X "sorted")(hm1:X.mg "sorted"=none)(hg2:Gl X "set")(hm2:X.mg "set"=none)(he:PE X e te)
  (hs1:QS [e] X.env=[(false,Q9 e X.env)]:=by rfl) (hs2:QS [.Call (.Name "set" p2) [e] [] pos2] X.env=[(false,Q9 (.Call (.Name "set" p2) [e] [] pos2) X.env)]:=by rfl) :
  PE X (.Call (.Name "sorted" p1) [.Call (.Name "set" p2) [e] [] pos2] [] pos1) (fun σ H Q=>te σ H fun x H1=>∃l,∃ns:List Int,x=.ref l/\SqL X.K H1 l (ns.map V.int)/\ns.length<4095/\∀ms:List Int,ms.Pairwise (·<·)->(∀z,z∈ms↔z∈ns)->New (.lst (ms.map V.int)) H1 Q):=by
 intro pins s σ H Q I h;refine RE (dN I hg1 hm1 XA (callWith_builtin1 ?_ (by rw[hs2];rfl) rfl));rw[hs2];refine Sz ?_;refine RE (dN I hg2 hm2 boot_set (callWith_type1 ?_ (by rw[hs1];rfl) rfl));rw[hs1];refine Sz (thn (he pins s σ H _ I h) ?_);rintro u s1 ⟨x,H1,I1,r1,l,ns,ex,hl,hz,q⟩;subst ex;cases r1;obtain⟨its,rv,pl,_⟩:=I1.list hl;have hI:=intsAre_of rv;have ln:=ZT.kU hI;refine QC (ZT.D8 (items:=its.toArray) (ns:=ns) (I1.ok.hd hc) pl.isList hI (by unfold scanBound;rw[q_];omega) fun h' tk SG kp=>?_);have k1:∀b o,s1.heap.get? b=some o->h'.get? b=some o:=fun b o e=>kp b o (QK e) e;have I2:Inv X pins σ H1 {s1 with heap:=h',toks:=tk}:=I1.kept (t':=tk) k1;obtain⟨o,ks,es,ep,t,ho,SI,mem,_⟩:=SG;refine QC (ZT.xA ho SI (I2.ok.hd hc) fun out ms p c h2 tk2 d om pm so le k2 e2=>?_);have hz2:ms.length<=16777216:=by have a:=SI.sm;have b:=ZT.kU SI.rd;rw[a_,gV]at b;rw[pm.length_eq];unfold scanBound at a;omega
 have I3:=(I2.drw (d:=d)).laid (a:=p) (o:=.lst (ms.map V.int)) (t':=tk2) k2 le (show bg X.prog X.w _ h2 _ (.lst (ms.map V.int))from⟨by rw[a_];exact hz2,out,c,C2 om,e2⟩);refine⟨.ref p,_,I3,rfl,(q ms ?_ fun z=>?_).at (I2.hok.fresh le)⟩
 ·have nd:=pm.nodup_iff.mpr SI.nd;exact(List.Pairwise.and so nd).imp fun⟨a,b⟩=>by omega
 rw[pm.mem_iff];exact mem z
end
end L2
namespace ZS
open PySem PyProof.Rows
variable {S:QE->Prop}{rk:QE->Nat}{vs:List Qy}
section
variable{prog:QL}{w:QP}{A:QY}{E:Qy->QB->Prop}{s:QB}
theorem AS{a:QA}{n:Nat}{kd:RA}{P:XW->QB->Prop}(ho:s.heap.get? a=some (QZ "list" vs.toArray n))(hz:vs.length<=sizeLine)(hS:∀v∈vs,S (v,v))
  (kind:∀h',(∀b o,b≠a->s.heap.get? b=some o->h'.get? b=some o)->∀{Q:RA->QB->Prop},vs≠[]->Q kd {s with heap:=h'}->QG (QM prog w) A (T1 vs.toArray) Q E {s with heap:=h'})
  (lt:∀h',(∀b o,b≠a->s.heap.get? b=some o->h'.get? b=some o)->cE (QM prog w) A E {s with heap:=h'} kd rk S)
  (h:∀(o:List Qy) c h',o.Perm vs->o.Pairwise (fun x y=>rk (y,y)<=rk (x,x))->(∀b u,b≠a->s.heap.get? b=some u->h'.get? b=some u)->h'.get? a=some (QZ "list" o.toArray c)->P (.done (.ret .none)) {s with heap:=h'}) :
  QG (QM prog w) A (RM.«list.sort» ⟨[.ref a],[(Rw "reverse",.bool true)]⟩) P E s:=by
 rw[list_sort_rev];have ha:a<s.heap.objs.size:=QK ho;refine Qx (Xa ho rfl ?_);refine Qx (Ub ho rfl ?_ (by rw[q_];exact hz) (D' _));obtain⟨e1,ho1⟩:∃e1,(s.heap.update a (Q0 fun _=>(#[]:Array Qy))).get? a=some (QZ "list" #[] e1):=⟨_,TL ho fun _=>#[]⟩;refine Qx (UQ ho1 rfl ?_);refine Qx (UT ?_ hz);refine Qx (Sy ?_ (D' _));refine Q2 ?_;have k2:∀b u,(s.heap.update a (Q0 fun _=>(#[]:Array Qy))).get? b=some u->(((s.heap.update a (Q0 fun _=>(#[]:Array Qy))).push (QZ "tuple" vs.toArray 0)).push (QZ "list" #[] 0)).get? b=some u:=fun b u e=>QD _ (QD _ e);have k3:∀b u,b≠a->s.heap.get? b=some u->(((s.heap.update a (Q0 fun _=>(#[]:Array Qy))).push (QZ "tuple" vs.toArray 0)).push (QZ "list" #[] 0)).get? b=some u:=fun b u hb e=>k2 b u (by rw[RZ _ _ _ _ hb];exact e)
 have ho6:=k2 _ _ ho1;show QG (QM prog w) A _ P E {s with heap:=((s.heap.update a (Q0 fun _=>(#[]:Array Qy))).push (QZ "tuple" vs.toArray 0)).push (QZ "list" #[] 0) };generalize ((s.heap.update a (Q0 fun _=>(#[]:Array Qy))).push (QZ "tuple" vs.toArray 0)).push (QZ "list" #[] 0)=h1 at k3 ho6 ⊢;dsimp only;have fin:∀st':QJ,(QF st').Perm (vs.toArray.zip vs.toArray)->Srt rk (QF st').toList->Ri st'=none->QG (QM prog w) A (do
   let touched:=(<-seqEpoch a) != e1
   Uz (.ref a) fun _=>((QF st').map (·.2)).reverse
   if let some e:=Ri st' then rule "list.sort.comparison-raised";throw e
   if touched then rule "list.sort.modified";raiseError "ValueError" "list modified during sort"
   ret .none) P E {s with heap:=h1}:=fun st' hp hs hf=>by
  have lp:(QF st').toList.Perm (vs.map fun v=>(v,v)):=by have:=Mv.mp hp;rw[gq]at this;exact this
  have op:((QF st').toList.map (·.2)).Perm vs:=by have:=lp.map (·.2);rw[A',show((fun x:QE=>x.2) ∘ fun v:Qy=>(v,v))=id from rfl,Oy]at this;exact this
  have tw:∀p∈(QF st').toList,p=(p.2,p.2):=fun p hp=>by obtain⟨v,_,e⟩:=r_.mp (lp.mem_iff.mp hp);rw[<-e]
  have osr:((QF st').toList.map (·.2)).Pairwise (fun x y=>rk (x,x)<=rk (y,y)):=by rw[K_];refine MD (fun{p q} hp hq hr=>?_) hs;rw[<-tw p hp,<-tw q hq];exact hr
  have os:((QF st').map (·.2)).reverse.size<=sizeLine+1:=by rw[Array.size_reverse,<-gV,N9,op.length_eq];lia
  refine Qx (UQ ho6 rfl ?_);refine Qx (Ub ho6 rfl ?_ (D' _) os);rw[hf];simp only[bne_self_eq_false,LQ,if_false];obtain⟨c,hc⟩:∃c,(h1.update a (Q0 fun _=>((QF st').map (·.2)).reverse)).get? a=some (QZ "list" ((QF st').toList.map (·.2)).reverse.toArray c):=by have:=TL ho6 fun _=>((QF st').map (·.2)).reverse;rw[show((QF st').toList.map (·.2)).reverse.toArray=((QF st').map (·.2)).reverse by rw[<-N9,<-ME]];exact⟨_,this⟩
  refine QC (h _ c _ ((PH _).trans op) (List.pairwise_reverse.mpr osr) (fun b u hb e=>?_) hc);rw[RZ _ _ _ _ hb];exact k3 b u hb e
 have zr:(vs.toArray.zip vs.toArray).reverse.toList=vs.reverse.map fun v=>(v,v):=by rw[ME,gq,List.map_reverse]
 have zp:(vs.toArray.zip vs.toArray).reverse.Perm (vs.toArray.zip vs.toArray):=Mv.mpr (by rw[ME];exact PH _);refine Qx (Sh ?_);by_cases h2:vs.toArray.size<2
 ·rw[if_pos h2,if_pos h2];refine Qx (QC ?_);rw[Wc];refine Qx (QC ?_);refine fin (RS general' (vs.toArray.zip vs.toArray).reverse #[] 7 none) zp ?_ rfl;show Srt rk (vs.toArray.zip vs.toArray).reverse.toList;rw[zr];have h3:vs.reverse.length<2:=by rw[LU];exact h2
  generalize vs.reverse=ws at h3;clear fin h lt kind hS ho
  match ws,h3 with
  | [],_=>exact .nil
  | [v],_=>exact N0 _ _
  | _::_::_,h3=>exact absurd h3 (by rw[h_,h_];lia)
 rw[if_neg h2,if_neg h2];refine Qx (kind h1 k3 (fun z=>by rw[z]at h2;simp at h2) ?_);refine Qx (Q7 (oC (st:=RS kd (vs.toArray.zip vs.toArray).reverse #[] 7 none) (Q:=fun _ st'=>(QF st').Perm (vs.toArray.zip vs.toArray).reverse/\Ri st'=none/\Srt rk (QF st').toList) (lt h1 k3) (fun p hp=>?_) (fun x=>Sh rfl) rfl rfl rfl fun st' a1 a2 a3=>⟨a1,a2,a3⟩) ?_ fun _ _ e=>e)
 ·rw[show(QF (RS kd (vs.toArray.zip vs.toArray).reverse #[] 7 none))=(vs.toArray.zip vs.toArray).reverse from rfl,zr]at hp;obtain⟨v,hv,e⟩:=r_.mp hp;rw[<-e];exact hS v (Nd.mp hv)
 rintro⟨⟨⟩,st'⟩ s' ⟨rfl,hp,hf,hs⟩;exact fin st' (hp.trans zp) hs hf
theorem xD{l:QA}{kd:RA}{Q:Qy->QB->Prop}(hl:s.heap.IsList l vs.toArray)(hz:vs.length<=sizeLine)(hS:∀v∈vs,S (v,v))
  (kind:∀h',(∀b o,s.heap.get? b=some o->h'.get? b=some o)->∀{Q:RA->QB->Prop}{E:Qy->QB->Prop},vs≠[]->Q kd {s with heap:=h'}->QG (QM prog w) A.in1.in1 (T1 vs.toArray) Q E {s with heap:=h'})
  (lt:∀h' E,(∀b o,s.heap.get? b=some o->h'.get? b=some o)->cE (QM prog w) A.in1.in1 E {s with heap:=h'} kd rk S)
  (h:∀(o:List Qy) a c h',o.Perm vs->o.Pairwise (fun x y=>rk (y,y)<=rk (x,x))->s.heap.objs.size<=a->(∀b u,s.heap.get? b=some u->h'.get? b=some u)->h'.get? a=some (QZ "list" o.toArray c)->Q (.ref a) {s with heap:=h'}) :
  QG (QM prog w) A (call (.builtin "sorted") [.ref l] [(Rw "reverse",.bool true)]) Q E s:=by
 refine call_function_entry_kw VG Vs Vt (args_sorted_rev _ _) ?_;unfold RM.«sorted»;refine Qx (m:=Wd "sorted" 1 1 _) (QC ?_);refine Qx (Xc hl ?_ hz);refine Qx (Sy ?_ hz);have hsz:((s.heap.push (QZ "list" #[] 0)).update s.heap.objs.size (Q0 (·++vs.toArray))).objs.size=s.heap.objs.size+1:=by rw[VT,size_push']
 have hoL:(((s.heap.push (QZ "list" #[] 0)).update s.heap.objs.size (Q0 (·++vs.toArray))).push (QZ "list" vs.toArray 0)).get? (s.heap.objs.size+1)=some (QZ "list" vs.toArray 0):=by rw[<-hsz];exact QH _ rfl
 have keep:∀b o,s.heap.get? b=some o->(((s.heap.push (QZ "list" #[] 0)).update s.heap.objs.size (Q0 (·++vs.toArray))).push (QZ "list" vs.toArray 0)).get? b=some o:=fun b o q=>by have hlt:b<s.heap.objs.size:=QK q;rw[Te _ _ _ (by rw[hsz];exact v_ (MR hlt)),RZ _ _ _ _ (v_ hlt),Te _ _ _ (v_ hlt)];exact q
 show QG _ _ _ _ _ {s with heap:=((s.heap.push (QZ "list" #[] 0)).update s.heap.objs.size (Q0 (·++vs.toArray))).push (QZ "list" vs.toArray 0) };rw[hsz];generalize ((s.heap.push (QZ "list" #[] 0)).update s.heap.objs.size (Q0 (·++vs.toArray))).push (QZ "list" vs.toArray 0)=h1 at hoL keep ⊢;have ne:∀b o,s.heap.get? b=some o->b≠s.heap.objs.size+1:=fun b o e=>v_ (MR (QK e));refine Qx (Q2 (wpAny_call_entry_kw UX ⟨_,hoL,rfl⟩ UI ?body (args_list_sort_rev _ _)))
 case body=>
  refine AS (s:={s with heap:=h1}) (kd:=kd) (rk:=rk) (S:=S) hoL hz hS (fun h' k {Q} hne q=>kind h' (fun b o e=>k b o (ne b o e) (keep b o e)) hne q) (fun h' k=>lt h' _ fun b o e=>k b o (ne b o e) (keep b o e)) fun o c h' g1 g2 g3 g4=>?_;exact⟨_,rfl,QC ⟨_,rfl,h o _ c h' g1 g2 (Nt _) (fun b u e=>g3 b u (ne b u e) (keep b u e)) g4⟩⟩
end
end ZS
namespace L2
open PySem PySem.Spec PyProof.Rows
section
variable{X:Cx}
theorem uW{e:QQ}{te:TE}{p1 pos1 kp vp:Pos}{kn:Nat}(hg1:Gl X "sorted")(hm1:X.mg "sorted"=none)(he:PE X e te)
  (hs1:QS [e] X.env=[(false,Q9 e X.env)]:=by rfl) :
  PE X (.Call (.Name "sorted" p1) [e] [⟨some "reverse",(.Constant (.bool true) kn vp),kp⟩] pos1) (fun σ H Q=>te σ H fun x H1=>∃l ys ks,x=.ref l/\SqL X.K H1 l ys/\l8 X.K H1 ys ks/\∀zs ls,l8 X.K H1 zs ls->(∀v∈zs,v∈ys)->ls.Perm ks->ls.Pairwise (fun x y=>ZS.ltL x y=false)->(∀b xs ys,SqT X.K H1 b xs->SqT X.K H1 b ys->xs=ys)->New (.lst zs) H1 Q):=by
 intro pins s σ H Q I h;refine RE (dN I hg1 hm1 XA (callWith_kw ?_ (by rw[hs1];rfl) (by rw[hs1];rfl) rfl rfl));rw[hs1];refine Sz (thn (he pins s σ H _ I h) ?_);rintro u s1 ⟨x,H1,I1,r1,l,ys,ks,ex,hl,hr,q⟩;subst ex;cases r1;refine QC ?_;refine kws_cons (WG (kws_nil ?_));show QG _ _ (call (.builtin "sorted") [.ref l] [(Rw "reverse",.bool true)]) _ _ s1;obtain⟨its,rv,pl,hz⟩:=I1.list hl;have hlen:=rv.length;obtain⟨f1,f2⟩:=vQ I1 rv hr;refine ZS.xD (kd:=Wt true) (rk:=fun x=>ZS.rnk ZS.ltL ks (ZS.jJ s1.heap x.1)) (S:=fun x=>x.1∈its) pl.isList (by lia) (fun v hv=>hv) (fun h' kp {Q}{E} hne q=>ZS.wu (h0:=s1.heap) (fun v hv=>(f1 v hv).1) (fun b o e _=>kp b o e) hne q)
  (fun h' E kp=>ZS.wc (h0:=s1.heap) (ks:=ks) (fun x hx=>⟨(f1 _ hx).1,by rw[<-f2];exact Mk hx⟩) fun b o e _=>kp b o e) fun o a c h' op os ha kp e=>?_
 have mem:∀v∈o,v∈its:=fun v hv=>op.mem_iff.mp hv;have mk:∀(l:List Qy),(∀v∈l,v∈its)->∃zs,Vals zs l/\l8 X.K H1 zs (l.map (ZS.jJ s1.heap))/\zs.length=l.length/\∀v∈zs,v∈ys:=by
  intro l;induction l with
  |nil=>exact fun _=>⟨[],.nil,.nil,rfl,fun v hv=>(by cases hv)⟩
  |cons v t ih=>
   intro hl;obtain⟨zs,k1,k2,k3,k6⟩:=ih fun v hv=>hl v (.tail _ hv);obtain⟨_,b,e,k4,k5⟩:=f1 v (hl v (.head _));refine⟨.ref b::zs,.cons e k1,.cons ⟨k4,b,rfl,k5⟩ k2,by rw[h_,h_,k3],fun w hw=>?_⟩;rcases m_.mp hw with rfl|hw
   ·exact rK rv (hl v (.head _)) e
   exact k6 w hw
 obtain⟨zs,k1,k2,k3,k6⟩:=mk o mem;refine⟨.ref a,_,I1.laid (t':=s1.toks) kp ha (show bg X.prog X.w _ h' _ (.lst zs)from⟨by rw[k3,op.length_eq];lia,o,c,k1,e⟩),rfl,(q zs _ k2 k6 ?_ ?_ fun b xs ys g1 g2=>I1.fm g1 g2).at (I1.hok.fresh ha)⟩
 ·rw[<-f2];exact op.map _
 rw[K_];refine MD (fun{x y} hx hy hxy=>?_) os;cases z:ZS.ltL (ZS.jJ s1.heap x) (ZS.jJ s1.heap y)
 ·rfl
 have:=ZS.uo ZS.Ca (ks:=ks) (by rw[<-f2];exact Mk (mem x hx)) z;exact absurd this (Pc.mpr hxy)
end
end L2
namespace PL
open PySem PySem.Spec PyProof.Rows L2
variable {p1 pos1:Pos}{ts:List T}
section
variable{X:Cx}
noncomputable def Ky:T->(T->Prop)->Prop
 | .lst _ ts,k=>got (intsOf ts) fun ns=>ns.length<4095/\∀ms:List Int,ms.Pairwise (·<·)->(∀z,z∈ms↔z∈ns)->k (.lst true (ms.map T.int))
 | _,_=>False
theorem kT{e:QQ}{fe:PF}{p2 pos2:Pos}(hc:X.calm=true)(hg1:Gl X "sorted")(hm1:X.mg "sorted"=none)(hg2:Gl X "set")(hm2:X.mg "set"=none)(he:GE X e fe)
  (hs1:QS [e] X.env=[(false,Q9 e X.env)]:=by rfl) (hs2:QS [.Call (.Name "set" p2) [e] [] pos2] X.env=[(false,Q9 (.Call (.Name "set" p2) [e] [] pos2) X.env)]:=by rfl) :
  GE X (.Call (.Name "sorted" p1) [.Call (.Name "set" p2) [e] [] pos2] [] pos1) (fUn Ky fe):=by
 refine PE.imp (AD hc hg1 hm1 hg2 hm2 he hs1 hs2) ?_;rintro σ H Q ⟨env,Fr,k,rs,q,c⟩;refine⟨env,Fr,_,rs,q,fun t env1 v H1 q1 rs1=>?_⟩;cases t <;> first|exact QU q1|skip
 obtain⟨ns,en,z,g⟩:=aI q1;have et:=cZ en;subst et;obtain⟨a,vs,rfl,hq,l,rp⟩:=aF rfl rs1.head;have ev:=dW l rp;subst ev;exact⟨a,ns,rfl,hq,z,fun ms h1 h2 p H' hp g' e=>c _ _ _ _ (g ms h1 h2) (.of rs1.1 (fP (t6 ms rs1.drop.2) (by rw[a_,a_]) hp g' e))⟩
noncomputable def Kl:T->(T->Prop)->Prop
 | .lst _ ts,k=>got (rowsOf ts) fun ks=>∀ls:List (List Int),ls.Perm ks->ls.Pairwise (fun x y=>ZS.ltL x y=false)->k (.lst true (ls.map iT))
 | _,_=>False
theorem uX{e:QQ}{fe:PF}{kp vp:Pos}{kn:Nat}(hg1:Gl X "sorted")(hm1:X.mg "sorted"=none)(he:GE X e fe)(hs1:QS [e] X.env=[(false,Q9 e X.env)]:=by rfl) :
  GE X (.Call (.Name "sorted" p1) [e] [⟨some "reverse",.Constant (.bool true) kn vp,kp⟩] pos1) (fUn Kl fe):=by
 refine PE.imp (uW hg1 hm1 he hs1) ?_;rintro σ H Q ⟨env,Fr,k,rs,q,c⟩;refine⟨env,Fr,_,rs,q,fun t env1 v H1 q1 rs1=>?_⟩;cases t <;> first|exact QU q1|skip
 obtain⟨ks,ek,g⟩:=aI q1;obtain⟨et,ne⟩:=n9 ek;subst et;obtain⟨a,vs,rfl,hq,l,rp⟩:=aF rfl rs1.head;obtain⟨rv,ex⟩:=qH ne l rp;refine⟨a,vs,ks,rfl,hq,rv,fun zs ls rz mem pm sm inj p H' hp g' e'=>c _ _ _ _ (g ls pm sm) (.of rs1.1 ?_)⟩;have rH:=zb (fun v hv b eb xs hs=>by obtain⟨b',k',e1,e2⟩:=ex v (mem v hv);rw[eb]at e1;cases e1;rw[e2,inj _ _ _ hs (SqT.of e2)]) rz
 obtain⟨rp3,l3⟩:=lD rH rs1.drop.2;exact fP rp3 l3 hp g' e'
theorem jD{o:Bool}{k:T->Prop}:Ky (.lst o ts) k=cM (intsOf ts) (k:=⟨fun ns=>ns.length<4095/\∀ms:List Int,ms.Pairwise (·<·)->(∀z,z∈ms↔z∈ns)->k (.lst true (ms.map T.int))⟩):=rfl
theorem iD{o:Bool}{k:T->Prop}:Kl (.lst o ts) k=cM (rowsOf ts) (k:=⟨fun ks=>∀ls:List (List Int),ls.Perm ks->ls.Pairwise (fun x y=>ZS.ltL x y=false)->k (.lst true (ls.map iT))⟩):=rfl
noncomputable def lr2:P1s
 | [.int i,.int j],k=>(-(2 ^ 62)<=i/\i<2 ^ 62/\-(2 ^ 62)<=j/\j<2 ^ 62/\j-i<=2 ^ 24)/\k (.lst true (jI i (j-i).toNat))
 | _,_=>False
theorem ni{i j:Int}{k:T->Prop}:lr2 [.int i,.int j] k=((-(2 ^ 62)<=i/\i<2 ^ 62/\-(2 ^ 62)<=j/\j<2 ^ 62/\j-i<=2 ^ 24)/\k (.lst true (jI i (j-i).toNat))):=rfl
noncomputable def Ku(fr:PFs):PF:=fCl lr2 fr
theorem iG{fr:PFs}{env:Ev}{k:T->Ev->Prop}:Ku fr env k=fr env fun ts env1=>lr2 ts fun t=>k t env1:=rfl
theorem qU{a b:QQ}{fr:PFs}{p2 pos2:Pos}(hc:X.calm=true)(hg1:Gl X "list")(hm1:X.mg "list"=none)(hg2:Gl X "range")(hm2:X.mg "range"=none)(ha:GA X [a,b] fr)
  (hs1:QS [a,b] X.env=[(false,Q9 a X.env),(false,Q9 b X.env)]:=by rfl) (hs2:QS [.Call (.Name "range" p2) [a,b] [] pos2] X.env=[(false,Q9 (.Call (.Name "range" p2) [a,b] [] pos2) X.env)]:=by rfl) (hs3:QS [b] X.env=[(false,Q9 b X.env)]:=by rfl) :
  GE X (.Call (.Name "list" p1) [.Call (.Name "range" p2) [a,b] [] pos2] [] pos1) (Ku fr):=by
 rintro pins s σ H Q I ⟨env,Fr,k,rs,q,c⟩;refine RE (dN I hg1 hm1 boot_list (callWith_type1 ?_ (by rw[hs2];rfl) rfl));rw[hs2];refine Sz ?_;refine RE (dN I hg2 hm2 V1 (callWith_type1 ?_ (by rw[hs1,hs3]) (by rw[hs3];rfl)));refine thn (ha pos2 pins s σ H (fun vs H1=>∃ts env1,(lr2 ts fun t=>k t env1)/\ts.length=vs.length/\Rs X.K H1 env1 σ (zz ts vs++Fr)) I ⟨env,Fr,_,rs,q,fun ts env1 vs H1 q1 l rs1=>⟨ts,env1,q1,l,rs1⟩⟩) ?_;rintro us s1 ⟨vs,H1,I1,r1,ts,env1,q1,l,rs1⟩;rcases ts with _|⟨t,_|⟨u,_|⟨t3,ts⟩⟩⟩
 ·exact q1.elim
 ·cases t <;> exact q1.elim
 rotate_left
 ·cases t <;> try exact q1.elim
  cases u <;> exact q1.elim
 cases t <;> try exact q1.elim
 cases u <;> try exact q1.elim
 rename_i i j;obtain⟨v,w,rfl⟩:=zz2 l rfl;have rs1:Rs X.K H1 env1 σ ((.int i,some v)::(.int j,some w)::Fr):=rs1;have ev:=aN rs1.head;have ew:=aN rs1.drop.head;subst ev ew;cases r1 with
 |cons r rr=>
  cases rr with
  |cons r' rr=>
   cases rr;obtain⟨t,rfl⟩:=r;obtain⟨u,rfl⟩:=r';refine W0 ?_;refine Vy ?_;obtain⟨⟨h1,h2,h3,h4,h5⟩,q1⟩:=q1;refine oM I1 hc h1 h2 h3 h4 (Int.toNat_le.mpr h5) fun p H' hp g e=>c _ _ _ _ q1 (.of rs1.1 ?_);have rp2:=t6 ((A_ (j-i).toNat).map fun(n:Nat)=>i+(n:Int)) rs1.drop.drop.2;have er:jI i (j-i).toNat=((A_ (j-i).toNat).map fun(n:Nat)=>i+(n:Int)).map T.int:=by rw[A'];rfl
   rw[er];exact fP rp2 (by simp only[a_]) hp g e
end
noncomputable def JX:PSt:=fun _ _=>False
section
variable{X:Cx}{pos:Pos}{e:QQ}{es:List QQ}{fe:PF}{fr:PFs}{m:PM}{name:Str}{id:String}{apos cpos spos xp yp kp vp p1 pos1:Pos}{x:Str}{κ:Nat->Bool}{kn:Nat}
theorem pz{st:Q6}:GS κ X st JX:=by rintro pins s σ H D I ⟨env,Fr,pe,rs,q,c⟩;exact q.elim
end
noncomputable def uH:P1s
 | [.lst _ ts],k=>got (rowsOf ts) fun ks=>k (.lst true ((uC ks).map iT))
 | _,_=>False
theorem qV{X:Cx}:fT X (.builtin "sorted") uH:=by
 rintro pins s σ H xs us Q I r ⟨ts,Γ,k,l,rp,g,c⟩;unfold uH at g;split at g
 ·rename_i k o ts;obtain⟨x,rfl⟩:=zz1 l rfl;have rp:Rp X.K H ((.lst o ts,some x)::Γ):=rp;obtain⟨a,vs,rfl,hq,l2,rp2⟩:=kG rp;obtain⟨ks,ek,kt⟩:=aI g;obtain⟨et,ne⟩:=n9 ek;subst et;obtain⟨rv,ex⟩:=qH ne l2 rp2;refine tI pins s σ H _ us Q I r ⟨a,vs,ks,rfl,.inl hq,rv,fun zs ls rz mem pm sm p H' hp g' e'=>c _ _ _ kt ?_⟩;have es:ls=uC ks:=F7 ZS.Ca pm sm;rw[<-es];have rH:=zb (fun v hv b eb xs hs=>by obtain⟨b',k',e1,e2⟩:=ex v (mem v hv);rw[eb]at e1;cases e1;rw[e2,I.fm hs (SqT.of e2)]) rz
  obtain⟨rp3,l3⟩:=lD rH rp.tail;exact fP rp3 l3 hp g' e'
 exact QU g
end PL
namespace Mp
open PySem L2
noncomputable def top(i:Nat):Q6:=PySem.Challenge.pw_millpath_k56_great_programs.main.body.getD i (.Pass ⟨0,0,0,0⟩)
abbrev lY:Q6:=top 2
abbrev kj:Q6:=top 3
abbrev gG:Q6:=top 5
abbrev qi:Q6:=top 6
abbrev eF:Q6:=top 7
abbrev nH:Q6:=top 9
abbrev mF:Q6:=top 10
abbrev mG:Q6:=top 11
abbrev kx:Q6:=top 12
abbrev tY:Q6:=top 13
abbrev tJ:Q6:=top 14
abbrev nq:Q6:=top 16
abbrev uk:Q6:=top 17
abbrev nV:Q6:=top 19
abbrev eD:Q6:=top 20
abbrev gv:Q6:=top 21
abbrev dO:Q6:=top 22
abbrev gc:Q6:=top 24
abbrev jR:Q6:=top 25
abbrev nJ:Q6:=top 26
abbrev nv:Q6:=top 27
abbrev pf:Q6:=top 29
abbrev uy:Q6:=top 30
abbrev xM:Q6:=top 31
abbrev xV:Q6:=top 32
abbrev nM:Q6:=top 33
abbrev s_same:Q6:=top 34
abbrev uP:Q6:=top 35
abbrev qm:Q6:=top 36
abbrev Cc:Q6:=top 37
abbrev um:Q6:=top 38
abbrev qr:Q6:=top 39
abbrev gQ:Q6:=top 40
variable {kvs:List (Key×V)}
theorem vS{k:Key}{v:V}:dQ ((k,v)::kvs) k=some v:=by
 unfold dQ;rw[My,show(decide ((k,v).1=k))=true from decide_eq_true rfl]
 rfl
theorem sI{k k':Key}{v:V}(h:¬k=k'):dQ ((k,v)::kvs) k'=dQ kvs k':=by unfold dQ;rw[My,show(decide ((k,v).1=k'))=false from decide_eq_false h]
theorem key_ne:¬((Q5 (some ("cells":Str)):Key)=Q5 (some ("turn":Str))):=by decide +kernel
noncomputable def stK(c:QA)(t:Int):List (Key×V):=[(Q5 (some ("cells":Str)),V.ref c),(Q5 (some ("turn":Str)),V.int t)]
theorem vF(c:QA)(t:Int):dQ (stK c t) (Q5 (some ("cells":Str)))=some (.ref c):=vS
theorem zE(c:QA)(t:Int):dQ (stK c t) (Q5 (some ("turn":Str)))=some (.int t):=by unfold stK;rw[sI key_ne];exact vS
theorem IP(c:QA)(t u:Int):putK (stK c t) (Q5 (some ("turn":Str))) (.int u)=stK c u:=by
 have e:((stK c t).any fun kv=>decide (kv.1=(Q5 (some ("turn":Str)):Key)))=true:=by rw[kY,zE];rfl
 unfold putK;rw[if_pos e];show [(if(Q5 (some ("cells":Str)):Key)=Q5 (some ("turn":Str))then _ else _),(if(Q5 (some ("turn":Str)):Key)=Q5 (some ("turn":Str))then _ else _)]=stK c u;rw[if_neg key_ne,if_pos rfl]
 rfl
structure StAt (H:Hp) (st c:QA) (cs:List Int) (t:Int):Prop where
 d:H st=some (.dK (stK c t))
 l:H c=some (.lst (cs.map V.int))
 pos:0<cs.length
 len:cs.length<=63
variable {H:Hp}{cs:List Int}{st:QA}
theorem StAt.ne {c:QA}{t:Int}(S:StAt H st c cs t):st≠c:=Cf S.d S.l (by intro z;cases z)
variable {H':Hp}
theorem StAt.same {c:QA}{t:Int}(S:StAt H st c cs t)(e:bI H H'):StAt H' st c cs t:=⟨e _ _ S.d,e _ _ S.l,S.pos,S.len⟩
structure Txt (mg:Str->Option Qy):Prop where
 len:mg "len"=none
 list:mg "list"=none
 divmod:mg "divmod"=none
 isinstance:mg "isinstance"=none
 dict:mg "dict"=none
 tuple:mg "tuple"=none
 str:mg "str"=none
 int:mg "int"=none
 bool:mg "bool"=none
 all:mg "all"=none
 any:mg "any"=none
 zip:mg "zip"=none
 range:mg "range"=none
 max:mg "max"=none
 min:mg "min"=none
 abs:mg "abs"=none
 sum:mg "sum"=none
 sorted:mg "sorted"=none
 enumerate:mg "enumerate"=none
 set:mg "set"=none
 reversed:mg "reversed"=none
noncomputable def ED(K:Qz):Sp:=fun vs H Q _=>∃(a:QA) (ns:List Int),vs=[.ref a]/\SqL K H a (ns.map V.int)/\ns.length<=63/\∀(st c:QA) (cs:List Int) (H':Hp),H st=none->H c=none->StAt H' st c cs 0->bI H H'->Q (.ref st) H'
noncomputable def Ib:Sp:=fun vs H Q _=>∃(st c:QA) (cs:List Int) (t m:Int),vs=[.ref st,.int m]/\StAt H st c cs t/\0<=t/\t<2 ^ 40/\0<m/\m<1073741824/\
 ∀(r:Int) (cs':List Int) (H':Hp),0<=r->r<m->StAt H' st c cs' (t+1)->Kp st c H H'->Q (.int r) H'
variable {fd:QW}
section
variable{P:QL}{w:QP}{K:Qz}{mg:Str->Option Qy}{base:QR}
theorem scB:FnScope ["_law_script","_law_cells"] ["_law_script"] (ax pf):=⟨rfl,rfl,rfl,by decide +kernel,rfl,by decide +kernel,by decide +kernel⟩
theorem Dk{f:QA}(F:Fun K "_law_begin" "_law_begin" pf f fd)(T:Txt mg):FnOk P w K mg base CX0 1 f fd ["_law_script"] (ED K):=by
 refine F.ok scB (fun vs H Q E h=>?_) (fun cdv A outer s H vs Q E hr h=>?_)
 ·obtain⟨a,ns,rfl,_⟩:=h
  rfl
 obtain⟨a,ns,rfl,hS,h63,q⟩:=h;have sc:=@scB;refine⟨_,(bN (gf (i:=1) sc.nd rfl (e_ rfl) (sS tV (by rfl) T.list (by decide +kernel) (eA (wK zf (pv 0) yA (yx bX)) jY)))
  (bN (C5 (uS Bx (pv 1) (BW jY) (aJ _)) (kN (gf (i:=1) sc.nd rfl (e_ rfl) (BW (eA bX jY)))) tG)
  (kN (tS (Ek (wL gK (pv 1) (wL gK bX Fu)) rfl rfl (by intro z;cases z) (by decide)))))),?_⟩
 refine⟨_,rfl,_,rfl,a,_,rfl,hS,fun p hp=>⟨p,_,rfl,.inl (SqL.of aQ),fun l hl=>?_⟩⟩;obtain⟨zs,ez,lz⟩:∃zs:List Int,gH (ns.map V.int) none (some 63)=zs.map V.int/\zs.length<=63:=by refine⟨_,by unfold gH;rw[<-Ph,<-Qc],?_⟩;exact t_ (Ol _ _) (t_ (by rw[H_];omega) h63)
 have hp0:H p=none:=hp;have hl0:H l=none:=(bH hp _).none hl;have g1:bI H (upd (upd H p (.lst (gH (ns.map V.int) none (some 63)))) l (.lst (gH (ns.map V.int) none (some 63)))):=(bH hp _).trans' (bH hl _);refine⟨_,rfl,(by show 0<=sizeLine;decide),fun e he=>?_⟩;have hul:∀o,upd (upd (upd H p (.lst (gH (ns.map V.int) none (some 63)))) l (.lst (gH (ns.map V.int) none (some 63)))) e o l=some (.lst (zs.map V.int)):=fun o=>by rw[aP (bK aQ he),aQ,ez]
 have he0:H e=none:=g1.none he;have g2:=g1.trans' (bH he (.lst []));refine⟨.lst (di zs),.lst (di []),wy (SqL.of (hul _)),wy (SqL.of aQ),?_,_,rfl,?_⟩
 ·have:=sE hr;rw[dpt,rD];exact this
 have fin:∀(c:QA) (cs:List Int) (H2:Hp),H c=none->bI H H2->H2 c=some (.lst (cs.map V.int))->0<cs.length->cs.length<=63->∀p,H2 p=none->StAt (upd (upd H2 p (.dK [])) p (.dK (gM [] [(Q5 (some ("cells":Str)),V.ref c),(Q5 (some ("turn":Str)),V.int 0)]))) p c cs 0/\bI H (upd (upd H2 p (.dK [])) p (.dK (gM [] [(Q5 (some ("cells":Str)),V.ref c),(Q5 (some ("turn":Str)),V.int 0)]))):=fun c cs H2 hc g h1 h2 h3 p hp=>by
  have em:gM [] [((Q5 (some ("cells":Str)):Key),V.ref c),(Q5 (some ("turn":Str)),V.int 0)]=stK c 0:=by
   show putK (putK ([]:List (Key×V)) (Q5 (some ("cells":Str))) (V.ref c)) (Q5 (some ("turn":Str))) (V.int 0)=stK c 0;rw[vH _ (show dQ ([]:List (Key×V)) (Q5 (some ("cells":Str)))=none from rfl),Oi,vH _ (show dQ [((Q5 (some ("cells":Str)):Key),V.ref c)] (Q5 (some ("turn":Str)))=none by rw[sI key_ne];rfl)]
   rfl
  rw[em,E6];exact⟨⟨aQ,by rw[aP (bK h1 hp)];exact h1,h2,h3⟩,g.trans' (bH hp _)⟩
 refine KH (fun c=>?_) (fun c=>?_)
 ·
  refine⟨(by show 1<=sizeLine;decide),fun c7 h7=>?_⟩;have g3:=g2.trans' (bH h7 (.lst [V.int 7]));intro p' hp';obtain⟨S,g4⟩:=fin c7 [7] _ (g2.none h7) g3 aQ (by decide) (by decide) p' hp';refine⟨_,rfl,?_,[(Q5 (some ("cells":Str)),V.ref c7),(Q5 (some ("turn":Str)),V.int 0)],rfl,(by show 2<=15;decide),?_⟩
  ·exact aQ
  exact q p' c7 [7] _ (g3.none hp') (g2.none h7) S g4
 have c0:0<zs.length:=by
  cases zs with
  |nil=>rw[kO]at c;cases c
  |cons a r=>exact Nat.succ_pos _
 intro p' hp';obtain⟨S,g4⟩:=fin l zs _ hl0 g2 (hul _) c0 lz p' hp';refine⟨_,rfl,?_,[(Q5 (some ("cells":Str)),V.ref l),(Q5 (some ("turn":Str)),V.int 0)],rfl,(by show 2<=15;decide),?_⟩
 ·exact aQ
 exact q p' l zs _ (g2.none hp') hl0 S g4
theorem scT:FnScope ["_law_state","_law_many","_law_turn","_law_place","_law_cell","_law_digit","_law_mixed"] ["_law_state","_law_many"] (ax uy):=⟨rfl,rfl,rfl,by decide +kernel,rfl,by decide +kernel,by decide +kernel⟩
theorem FL{f:QA}(F:Fun K "_law_take" "_law_take" uy f fd)(T:Txt mg):FnOk P w K mg base CX0 1 f fd ["_law_state","_law_many"] Ib:=by
 refine F.ok scT (fun vs H Q E h=>?_) (fun cdv A outer s H vs Q E hr h=>?_)
 ·obtain⟨st,c,cs,t,m,rfl,_⟩:=h
  rfl
 obtain⟨st,c,cs,t,m,rfl,S,ht0,ht,hm0,hm1,q⟩:=h;have sc:=@scT;have hu:=sE hr;refine⟨_,(bN (gf (i:=2) sc.nd rfl (e_ rfl) (cD qw (oS hu (pv 0) gK (fun _ _=>rfl)) bX))
  (bN (Eh hu (pv 0) gK (pv 2) rfl)
  (bN (gf (i:=3) sc.nd rfl (e_ rfl) (cD mf (pv 2) (pK kZ (by rfl) T.len (by decide +kernel) (eA (oS hu (pv 0) gK (fun _ _=>rfl)) jY))))
  (bN (gf (i:=4) sc.nd rfl (e_ rfl) (Ge A1 (oS hu (pv 0) gK (fun _ _=>rfl)) (pv 3) (fun _ _=>rfl)))
  (bN (C5 (uS FW (pv 4) (cD Hk bX bX) (aJ _)) (bN (Bj (pK vP (by rfl) T.divmod (by decide +kernel) (eA (pv 4) (eA (pv 1) jY))) (CH rfl (pO (Di (oS hu (pv 0) gK (fun _ _=>rfl)) (pv 3) set_list) (pO (yN (i:=5) sc.nd rfl (e_ rfl)) zY))))
  (kN (tS (pv 5)))) tG)
  (bN (gf (i:=6) sc.nd rfl (e_ rfl) (cD mf (cD kE (cD qw (cD qw (cD mf (pv 4) bX) (cD kE (cD kE (pv 2) (pv 2)) bX)) bX) bX) bX))
  (bN (gf (i:=6) sc.nd rfl (e_ rfl) (cD mf (cD kE (pv 6) (pv 6)) bX))
  (kN (tS (cD mf (cD zX (cD mf (cD kE (cD qw (pv 6) (cD kE (pv 2) bX)) bX) bX) bX) (pv 1))))))))))),?_⟩
 have D0:oO H st (.str ("turn":Str)) (some (.int t)):=by rw[<-zE c t];exact oO.k (k:=Q5 (some ("turn":Str))) S.d
 refine⟨_,rfl,st,_,rfl,D0,_,_,rfl,rfl,?_⟩;have hP:Ah H st (.str ("turn":Str)) (.int (t+1)) (upd H st (.dK (stK c (t+1)))):=by rw[<-IP c t (t+1)];exact Ah.k (k:=Q5 (some ("turn":Str))) S.d (by show 2<sizeLine;decide)
 refine⟨_,rfl,_,rfl,st,_,rfl,hP,?_⟩;have S1:StAt (upd H st (.dK (stK c (t+1)))) st c cs (t+1):=⟨aQ,by rw[aP S.ne.symm];exact S.l,S.pos,S.len⟩;have K1:Kp st c H (upd H st (.dK (stK c (t+1)))):=fun b o e n1 n2=>by rw[aP n1];exact e
 generalize upd H st (.dK (stK c (t+1)))=H1 at S1 K1 ⊢;have D1:oO H1 st (.str ("cells":Str)) (some (.ref c)):=by rw[<-vF c (t+1)];exact oO.k (k:=Q5 (some ("cells":Str))) S1.d
 have hl:(cs.map V.int).length=cs.length:=a_ _;have hpos:(0:Int)<(((cs.map V.int).length:Nat):Int):=by rw[hl];have:=S.pos;omega
 refine⟨_,rfl,_,rfl,st,_,rfl,D1,c,_,rfl,.inl (SqL.of S1.l),_,_,rfl,rfl,hpos,?_⟩;have j0:0<=(t+1)%(((cs.map V.int).length:Nat):Int):=Om _ (by omega);have j1:(t+1)%(((cs.map V.int).length:Nat):Int)<(cs.length:Int):=by have:=NU (t+1) hpos;rw[hl]at this ⊢;exact this
 obtain⟨v,hat⟩:∃v:Int,atI (cs.map V.int) ((t+1)%(((cs.map V.int).length:Nat):Int))=some (.int v):=⟨_,Bs j0 j1⟩;refine⟨_,rfl,st,_,rfl,D1,_,rfl,c,_,_,_,rfl,rfl,SqL.of S1.l,hat,?_⟩;refine⟨_,rfl,_,_,rfl,rfl,⟨by decide,by decide,by decide⟩,_,_,rfl,rfl,_,rfl,?_⟩;refine KH (fun hc=>?_) (fun hc=>?_)
 ·
  refine⟨_,rfl,_,rfl,_,_,rfl,⟨hm0,hm1⟩,fun p hp=>?_⟩;have g:=bH hp (.tup [.int (v/m),.int (v%m)]);have S2:=S1.same g;have D2:oO (upd H1 p (.tup [.int (v/m),.int (v%m)])) st (.str ("cells":Str)) (some (.ref c)):=by rw[<-vF c (t+1)];exact oO.k (k:=Q5 (some ("cells":Str))) S2.d
  refine⟨p,_,rfl,SqT.of aQ,rfl,_,_,rfl,?_⟩;refine⟨_,rfl,st,_,rfl,D2,_,rfl,c,_,_,((t+1)%(((cs.map V.int).length:Nat):Int)).toNat,rfl,rfl,S2.l,yo j0 (by rw[hl];rw[hl]at j1;exact j1),?_⟩;refine⟨_,_,rfl,rfl,?_⟩;refine⟨_,rfl,?_⟩;have es:∀j:Nat,(cs.map V.int).set j (.int (v/m))=(cs.set j (v/m)).map V.int:=fun j=>by rw[List.map_set]
  refine q (v%m) (cs.set ((t+1)%(((cs.map V.int).length:Nat):Int)).toNat (v/m)) _ (Om _ (by omega)) (NU _ hm0) ⟨?_,?_,?_,?_⟩ ?_
  ·rw[aP S2.ne];exact S2.d
  ·rw[aQ,es]
  ·rw[LO];exact S.pos
  ·rw[LO];exact S.len
  intro b o e n1 n2;rw[aP n2];exact g b o (K1 b o e n1 n2)
 
 have mulR:∀(x y:Int),-(2 ^ 64)<y->y<2 ^ 64->wD x y:=fun x y h1 h2=>.inr ⟨h1,h2⟩;refine⟨_,rfl,_,_,rfl,rfl,(by show(0:Int)<2147483629;decide),_,rfl,_,rfl,_,_,rfl,rfl,mulR _ _ (by omega) (by omega),_,_,rfl,rfl,mulR _ _ (by decide) (by decide),_,_,rfl,rfl,_,_,rfl,rfl,_,_,rfl,rfl,mulR _ _ (by decide) (by decide),_,_,rfl,rfl,(by show(0:Int)<2147483647;decide),?_⟩;generalize hM:(v%2147483629+(t+1)*(t+1)*7919+11)*48271%2147483647=M;have m0:0<=M:=by rw[<-hM];exact Om _ (by decide)
 have m1:M<2147483647:=by rw[<-hM];exact NU _ (by decide)
 refine⟨_,rfl,_,rfl,_,_,rfl,rfl,mulR _ _ (by omega) (by omega),_,_,rfl,rfl,(by show(0:Int)<2147483587;decide),?_⟩;refine⟨_,rfl,_,rfl,_,_,rfl,rfl,mulR _ _ (by decide) (by decide),_,_,rfl,rfl,_,_,rfl,rfl,mulR _ _ (by decide) (by decide),_,_,rfl,rfl,(by show(0:Int)<2147483629;decide),_,_,rfl,rfl,⟨by decide,by decide⟩,_,rfl,_,_,rfl,rfl,hm0,?_⟩;exact q _ cs H1 (Om _ (by omega)) (NU _ hm0) S1 K1
end
open PySem L2 PL
structure Cells where
 cs:List Int
 pos:0<cs.length
 len:cs.length<=63
noncomputable def stT(c:Cells)(n:Nat):T:=.dK true [(Q5 (some ("cells":Str)),.lst true (c.cs.map T.int)),(Q5 (some ("turn":Str)),.int (n:Int))]
variable {n:Nat}
theorem jo{c:Cells}:isAny (stT c n)=false:=rfl
noncomputable def Scr(K:Qz)(t:T)(ns:List Int):Prop:=t=.lst false (ns.map T.int)\/∃a,t=.hole (.ref a)/\∀H,SqL K H a (ns.map V.int)
noncomputable def u9(K:Qz):FP:=fun ts k=>∃t,∃ns:List Int,ts=[t]/\Scr K t ns/\ns.length<=63/\∀c,k (stT c 0) ts
noncomputable def kB:FP:=fun ts k=>∃c n m,ts=[stT c n,.int m]/\n<2 ^ 40/\0<m/\m<1073741824/\∀r c',0<=r->r<m->k (.int r) [stT c' (n+1),.int m]
variable {Γ:Fm}{α β:Type}
section
variable{P:QL}{w:QP}{K:Qz}{mg:Str->Option Qy}{base:QR}
theorem uE{l:List (α×β)}{a b:α}(h:[a,b]=l.map (·.1)):∃v w,l=[(a,v),(b,w)]:=by
 cases l with
 |nil=>cases h
 |cons x l=>
  cases l with
  |nil=>cases h
  |cons y l=>
   cases l with
   |nil=>
    have h1:=(M8 h).1;have h2:=(M8 (M8 h).2).1;exact⟨x.2,y.2,by rw[h1,h2]⟩
   |cons z l=>cases (M8 (M8 h).2).2
theorem vJ{a:QA}{o:HO}(h:H a=some o):Put H a o H:=⟨h,fun _ _=>rfl⟩
theorem JJ{c:Cells}{v:V}(h:Rp K H ((stT c n,some v)::Γ)):∃st l,v=.ref st/\StAt H st l c.cs n/\Rp K H ((.bare,some (.ref st))::(.bare,some (.ref l))::Γ):=by
 obtain⟨st,kvs,ev,hs,ek,h2⟩:=pC h;cases ev;obtain⟨v1,v2,rfl⟩:=uE ek;have h2:Rp K H ((.bare,some (.ref st))::(.lst true (c.cs.map T.int),some v1)::(.int (n:Int),some v2)::Γ):=h2;have e2:v2=.int n:=aN h2.tail.tail;subst e2;have h3:=h2.perm (.swap _ _ _);obtain⟨l,vs,el,hl,ll,h4⟩:=fM h3;cases el;have ev:vs=c.cs.map V.int:=dW ll h4.tail;subst ev;refine⟨st,l,rfl,⟨hs,hl,c.pos,c.len⟩,?_⟩;have h5:Rp K H ((.bare,some (.ref l))::(.bare,some (.ref st))::(.int (n:Int),some (.int n))::Γ):=by have:Rp K H (zz (c.cs.map T.int) (c.cs.map V.int)++((.bare,some (.ref l))::(.bare,some (.ref st))::(.int (n:Int),some (.int n))::Γ)):=h4.perm j_.symm;exact this.part
 exact(h5.perm (by refine C' (.cons _ (.swap _ _ _)) ?_;refine C' (.swap _ _ _) ?_;exact .cons _ (.swap _ _ _))).tail
theorem wz{H:Hp}{Γ:Fm}:∀(ns:List Int),Rp K H Γ->Rp K H (zz (ns.map T.int) (ns.map V.int)++Γ)
 | [],h=>h
 |n::r,h=>bO (wz r h) fun _=>.int
theorem DG{l:QA}(S:StAt H st l cs n)(h:Rp K H ((.bare,some (.ref st))::(.bare,some (.ref l))::Γ)):∃c,Rp K H ((stT c n,some (.ref st))::Γ):=by
 refine⟨⟨cs,S.pos,S.len⟩,?_⟩;have h1:Rp K H ((.bare,some (.ref l))::(zz (cs.map T.int) (cs.map V.int)++((.bare,some (.ref st))::Γ))):=(wz cs (h.perm (.swap _ _ _))).perm j_;have h2:=eQ h1 (by rw[a_,a_]) (vJ S.l);have h3:Rp K H ((.bare,some (.ref st))::((.lst true (cs.map T.int),some (.ref l))::(.int (n:Int),some (.int n))::Γ)):=by refine(bO (t:=.int (n:Int)) h2 fun _=>.int).perm ?_;refine C' (.swap _ _ _) ?_;refine C' (.cons _ (.swap _ _ _)) ?_;exact .swap _ _ _
 exact sW (ts:=[(Q5 (some ("cells":Str)),.lst true (cs.map T.int)),(Q5 (some ("turn":Str)),.int (n:Int))]) (vs:=stK l n) h3 rfl (vJ S.d)
theorem K8{a c:QA}(h:Rp K H ((.bare,some (.ref a))::(.bare,some (.ref c))::Γ))(k:Kp a c H H')(ha:∃u,H' a=some u/\∀xs,u≠.tup xs)(hc:∃u,H' c=some u/\∀xs,u≠.tup xs):Rp K H' ((.bare,some (.ref a))::(.bare,some (.ref c))::Γ):=by
 obtain⟨ua,ea,na⟩:=ha;obtain⟨uc,ec,nc⟩:=hc;obtain⟨Hz,N,h,nd,g,d⟩:=h;cases h with
 |cons e1 h1 c1=>
  cases c1 with
  |cons e2 h2 c2=>
   rcases h1 with⟨z,_⟩|⟨v1,ev1,h1⟩
   ·cases z
   rcases h2 with⟨z,_⟩|⟨v2,ev2,h2⟩
   ·cases z
   cases ev1;cases ev2;cases h1;cases h2;rename_i M u1 hu1 nt1 u2 hu2 nt2;subst e2;subst e1;have nd':(a::c::M).Nodup:=nd;rw[G_,G_]at nd';have keep:∀b o,H b=some o->b≠a->b≠c->H' b=some o:=k;have tk:TK H H':=fun b xs r=>keep b _ r (fun z=>nt1 xs (z▸r)) (fun z=>nt2 xs (z▸r));have za:Hz a=none:=d a o_;have zc:Hz c=none:=d c (k_ _ o_);have g':Gr Hz H':=fun b u r=>by
    obtain⟨w',q⟩:=Rd.some r;have b1:b≠a:=fun z=>by rw[z,za]at q;cases q
    have b2:b≠c:=fun z=>by rw[z,zc]at q;cases q
    rcases g b u r with r|⟨o,r⟩
    ·exact .inl (keep b _ r b1 b2)
    exact .inr ⟨o,keep b _ r b1 b2⟩
   refine⟨Hz,[a]++([c]++M),.cons rfl (.inr ⟨_,rfl,.bare ea fun xs z=>?_⟩) (.cons rfl (.inr ⟨_,rfl,.bare ec fun xs z=>?_⟩) (c2.move tk .cc fun b m u e=>?_)),nd,g',d⟩
   ·rw[ea]at z;exact na xs (I_ z)
   ·rw[ec]at z;exact nc xs (I_ z)
   have b1:b≠a:=fun z=>nd'.1 (by rw[<-z];exact k_ _ m)
   have b2:b≠c:=fun z=>nd'.2.1 (by rw[<-z];exact m)
   exact⟨keep b u e b1 b2,fun nt xs r=>nt xs (by rw[keep b u e b1 b2]at r;exact e.trans r)⟩
theorem Eu{a c:QA}(h:Rp K H Γ)(ha:H a=none)(hc:H c=none)(ne:a≠c)(s:bI H H')(ea:∃u,H' a=some u/\∀xs,u≠.tup xs)(ec:∃u,H' c=some u/\∀xs,u≠.tup xs):Rp K H' ((.bare,some (.ref a))::(.bare,some (.ref c))::Γ):=by
 obtain⟨ua,ea,na⟩:=ea;obtain⟨uc,ec,nc⟩:=ec;obtain⟨Hz,N,h,nd,g,d⟩:=h;have n1:a ∉ N:=fun m=>by obtain⟨⟨u,e⟩,_⟩:=h.there a m;rw[ha]at e;cases e
 have n2:c ∉ N:=fun m=>by obtain⟨⟨u,e⟩,_⟩:=h.there c m;rw[hc]at e;cases e
 refine⟨Hz,[a]++([c]++N),.cons rfl (.inr ⟨_,rfl,.bare ea fun xs z=>?_⟩) (.cons rfl (.inr ⟨_,rfl,.bare ec fun xs z=>?_⟩) (h.move (bI.tk s) .cc fun b m u e=>jk s b u e)),?_,g.trans (.of s),?_⟩
 ·rw[ea]at z;exact na xs (I_ z)
 ·rw[ec]at z;exact nc xs (I_ z)
 ·show(a::c::N).Nodup;rw[G_,G_];exact⟨fun m=>(m_.mp m).elim (fun z=>ne z) n1,n2,nd⟩
 intro b m;have m:b∈a::c::N:=m;rcases m_.mp m with rfl|m
 ·exact g.none ha
 rcases m_.mp m with rfl|m
 ·exact g.none hc
 exact d b m
theorem Du(D:Dfn K mg "_law_take" uy ["_law_state","_law_many"])(TX:Txt mg):Cal P w K mg base 1 "_law_take" ["_law_state","_law_many"] (aG K 2 kB):=by
 refine(D.cal fun _ _ F=>FL F TX).imp ?_;rintro vs H Q E ⟨ts,Fr,k,l,hn,rp,⟨c,n,m,rfl,h1,h2,h3,pk⟩,q⟩;obtain⟨x,y,rfl⟩:=zz2 l rfl;have rp:Rp K H ((stT c n,some x)::(.int m,some y)::Fr):=rp;have ey:=aN rp.tail;subst ey;obtain⟨st,lc,rfl,S,rp2⟩:=JJ rp;refine⟨st,lc,c.cs,n,m,rfl,S,by omega,by omega,h2,h3,fun r cs' H' hr0 hr1 S' kp=>?_⟩;have rp3:=K8 rp2 kp ⟨_,S'.d,fun _ z=>by cases z⟩ ⟨_,S'.l,fun _ z=>by cases z⟩;have S'':StAt H' st lc cs' ((n+1:Nat):Int):=by push_cast;exact S'
 obtain⟨c',rp4⟩:=DG S'' rp3;exact q _ _ _ _ (pk r c' hr0 hr1) (bO rp4 fun _=>.int)
theorem xc{w y:V}(h:Rp K H ((.hole w,some y)::Γ)):y=w:=by
 obtain⟨_,_,r,_⟩:=eC h rfl;cases r
 rfl
theorem B1(D:Dfn K mg "_law_begin" pf ["_law_script"])(TX:Txt mg):Cal P w K mg base 1 "_law_begin" ["_law_script"] (aG K 1 (u9 K)):=by
 refine(D.cal fun _ _ F=>Dk F TX).imp ?_;rintro vs H Q E ⟨ts,Fr,k,l,hn,rp,⟨t,ns,rfl,hs,h1,pk⟩,q⟩;obtain⟨x,rfl⟩:=zz1 l rfl;have rp:Rp K H ((t,some x)::Fr):=rp;obtain⟨a,rfl,hq⟩:∃a,x=.ref a/\SqL K H a (ns.map V.int):=by
  rcases hs with rfl|⟨a,rfl,hs⟩
  ·obtain⟨a,us,rfl,hq,l2,rp2⟩:=aF rfl rp;have eu:=dW l2 rp2;subst eu;exact⟨a,rfl,hq⟩
  exact⟨a,xc rp,hs H⟩
 refine⟨a,ns,rfl,hq,h1,fun st lc cs H' hs hl S g=>?_⟩;have rp3:=Eu rp hs hl S.ne g ⟨_,S.d,fun _ z=>by cases z⟩ ⟨_,S.l,fun _ z=>by cases z⟩;obtain⟨c,rp4⟩:=DG (n:=0) S rp3;exact q _ _ _ _ (pk c) rp4
noncomputable def Dx(K:Qz):FP:=fun ts k=>∃t,∃ns:List Int,ts=[t]/\Scr K t ns/\ns.length<=63/\∀z,k (.bl true) [z]
noncomputable def zO(K:Qz):Sp:=fun vs H Q _=>∃(a:QA) (ns:List Int),vs=[.ref a]/\SqL K H a (ns.map V.int)/\ns.length<=63/\∀H',Q (.bl true) H'
theorem vy{Hz H:Hp}:∀(ns:List Int),RepTs K Hz H (ns.map T.int) (ns.map V.int) []
 | []=>.nil
 | _::r=>.cons rfl .int (vy r)
theorem IT{k:Nat}{f:QA}(F:FnOk P w K mg base CX0 k f fd ["_law_script"] (aG K 1 (Dx K))):FnOk P w K mg base CX0 k f fd ["_law_script"] (zO K):=by
 refine F.imp ?_;rintro vs H Q E ⟨a,ns,rfl,hq,h1,q⟩;have key:∀t,Scr K t ns->(∀Hz,RepT K H Hz t (.ref a) [])->aG K 1 (Dx K) [.ref a] H Q E:=fun t sc ht=>
  ⟨[t],[],fun t _=>t=.bl true,rfl,rfl,⟨H,[],.cons rfl (.inr ⟨_,rfl,ht H⟩) .nil,MY,.cc,fun _ m=>by cases m⟩,⟨t,ns,rfl,sc,h1,fun _=>rfl⟩,fun t ts' v H' e rp=>by subst e;rw[oj rp];exact q H'⟩
 rcases hq with hq|hq
 ·exact key _ (.inl rfl) fun Hz=>.lstZ hq (vy ns)
 exact key _ (.inr ⟨a,rfl,fun H=>.inr hq⟩) fun Hz=>.hole
end
open PySem L2 PL
abbrev tO:T:=.cst [.cst [.int 1,.int 0],.cst [.int 1,.int 1],.cst [.int 0,.int 1],.cst [.int (-1),.int 1],.cst [.int (-1),.int 0],.cst [.int (-1),.int (-1)],.cst [.int 0,.int (-1)],.cst [.int 1,.int (-1)]]
theorem yM{l:List α}{i:Int}(h0:0<=i)(h1:i<l.length):∃x,x∈l/\atI l i=some x:=by
 have h:i.toNat<l.length:=by lia
 refine⟨l[i.toNat],Mo h,?_⟩;have:=cA (xs:=l) (j:=i.toNat) (c_ h);rwa[Int.toNat_of_nonneg h0]at this
variable {ns:List Int}
theorem i6(P:Int->Prop){i:Int}(h0:0<=i)(h1:i<ns.length)(hp:∀x∈ns,P x):∃v,atI (ns.map T.int) i=some (.int v)/\P v:=by obtain⟨t,m,e⟩:=yM (l:=ns.map T.int) h0 (by rw[a_];exact h1);obtain⟨v,mv,rfl⟩:=r_.mp m;exact⟨v,e,hp v mv⟩
theorem IH{K:Qz}{t:T}(h:Scr K t ns):er t=t/\isAny t=false:=by
 rcases h with rfl|⟨a,rfl,_⟩
 ·exact⟨by simp only[er,cy],rfl⟩
 exact⟨rfl,rfl⟩
theorem DE{c:Cells}:cg (stT c n)=true:=by simp only[stT,cg,qF,bQ,fJ,Nm,Pg]
variable {i:Nat}
theorem map_take{g:α->β}{l:List α}{x:α}(h:l[i]?=some x):G' g (l.take (i+1))=G' g (l.take i)++[g x]:=by rw[LP,h,p_];rfl
theorem iS{g:α->β}{p:α->Bool}{l:List α}{x:α}(h:l[i]?=some x):G' g ((l.take (i+1)).filter p)=G' g ((l.take i).filter p)++(if p x then [g x]else []):=by rw[LP,h,Pu,p_];congr 1;show G' g (PK p [x])=_;rw[Oa];cases p x <;> rfl
noncomputable def Gd(t:T)(n:Nat):Prop:=isD t=true/\dpt (dt t)<=n
noncomputable def GdL(ts:List T)(n:Nat):Prop:=uu ts=true/\fX (dtL ts)<=n
theorem IB{i:Int}:Gd (.int i) n:=⟨rfl,by rw[dt,dpt.eq_def];exact D' _⟩
theorem yS:GdL [] n:=⟨rfl,by simp only[dtL,fX,D']⟩
variable {ts:List T}
theorem lh{t:T}(h:Gd t n)(r:GdL ts n):GdL (t::ts) n:=⟨by rw[uu,h.1,r.1];rfl,by rw[dtL,fX];exact Nat.max_le.mpr ⟨h.2,r.2⟩⟩
theorem EX{g:α->T}{l:List α}(h:∀x∈l,Gd (g x) n):GdL (l.map g) n:=by
 induction l with
 |nil=>exact yS
 |cons x l ih=>exact lh (h x (o_ ..)) (ih fun y m=>h y (k_ _ m))
theorem Lp(h:GdL ts n):Gd (.tup ts) (n+1):=⟨h.1,by rw[dt,dpt];exact OV h.2⟩
structure Oc where
 a:Int
 b:Int
 c:Int
 d:Int
 e:Int
 f:Int
 g:Int
 h:Int
noncomputable def Sm(f:Int->Int)(a:Int):Nat->Int
 |0=>0
 |n+1=>Sm f a n+f (a+n)
theorem cm{f g:Int->Int}{a:Int}:∀{n:Nat},(∀x,a<=x->x<a+n->f x=g x)->Sm f a n=Sm g a n
 |0,_=>rfl
 |n+1,h=>by rw[Sm,Sm,cm fun x h1 h2=>h x h1 (by lia),h (a+n) (by lia) (by lia)]
theorem xn{f g:Int->Int}{a:Int}:∀{n:Nat},Sm (fun x=>f x+g x) a n=Sm f a n+Sm g a n
 |0=>rfl
 |n+1=>by rw[Sm,Sm,Sm,xn];lia
theorem ur{f:Int->Int}{a:Int}{n:Nat}:∀{m:Nat},Sm f a (n+m)=Sm f a n+Sm f (a+n) m
 |0=>by rw[Oh,Sm,Oo]
 |m+1=>by rw[<-NK,Sm,Sm,ur,show a+((n+m:Nat):Int)=a+n+m by lia];lia
variable {a:Int}{f:Int->Int}
theorem fN(h:∀x,a<=x->x<a+n->f x=0):Sm f a n=0:=by
 induction n with
 |zero=>rfl
 |succ n ih=>rw[Sm,ih fun x h1 h2=>h x h1 (by lia),h (a+n) (by lia) (by lia)];rfl
variable {m:Nat}
theorem FQ{b:Int}(h1:a<=b)(h2:b+m<=a+n)(z:∀x,x<b\/b+m<=x->f x=0):Sm f a n=Sm f b m:=by obtain⟨p,rfl⟩:∃p:Nat,b=a+p:=⟨(b-a).toNat,by lia⟩;obtain⟨q,rfl⟩:∃q:Nat,n=p+m+q:=⟨n-(p+m),by lia⟩;rw[ur,ur,fN (n:=p) fun x g1 g2=>z x (.inl g2),fN (n:=q) fun x g1 g2=>z x (.inr (by lia))];lia
theorem uw{f:Int->Int}{a:Int}:∀{n:Nat},Sm f (2*a) (2*n)=Sm (fun x=>f (2*x)+f (2*x+1)) a n
 |0=>rfl
 |n+1=>by rw[show 2*(n+1)=2*n+1+1 by lia,Sm,Sm,Sm,uw,show 2*a+((2*n:Nat):Int)=2*(a+n) by lia,show 2*a+((2*n+1:Nat):Int)=2*(a+n)+1 by lia];lia
theorem zu:Sm f (4*a) (4*n)=Sm (fun x=>f (4*x)+f (4*x+1)+(f (4*x+2)+f (4*x+3))) a n:=by rw[show 4*a=2*(2*a) by lia,show 4*n=2*(2*n) by lia,uw,uw];refine cm fun x _ _=>?_;rw[show 2*(2*x)=4*x by lia,show 2*(2*x+1)=4*x+2 by lia,show 4*x+2+1=4*x+3 by lia]
theorem De{α β l:Int}:∀{n:Nat},Sm (fun j=>α+β*(2*j+1)) l n=n*(α+β*(l+(l+n)))
 |0=>by rw[Sm];lia
 |n+1=>by
  rw[Sm,De];push_cast
  grind
noncomputable def bi(p:Prop)[Decidable p]:Int:=if p then 1 else 0
theorem zH{p q:Prop}[Decidable p][Decidable q](h:p↔q):bi p=bi q:=by
 unfold bi;by_cases c:p
 ·rw[if_pos c,if_pos (h.mp c)]
 rw[if_neg c,if_neg fun z=>c (h.mpr z)]
theorem J3{l h:Int}(h1:a<=l)(h2:l<=h)(h3:h<=a+n):Sm (fun y=>bi (l<=y/\y<h)) a n=h-l:=by
 rw[FQ (f:=fun y=>bi (l<=y/\y<h)) (b:=l) (m:=(h-l).toNat) h1 (by lia) fun x hx=>if_neg (by lia)];have:∀m:Nat,(m:Int)<=h-l->Sm (fun y=>bi (l<=y/\y<h)) l m=m:=by
  intro m;induction m with
  |zero=>exact fun _=>rfl
  |succ m ih=>
   intro hm;rw[Sm,ih (by lia)];rw[show bi (l<=l+m/\l+m<h)=1 from if_pos (by lia)]
   rfl
 rw[this _ (by lia)];lia
noncomputable def sw(t:Int):List (Int×Int)->Int
 | []=>0
 |p::r=>if t<p.2 then p.2-max p.1 t+sw p.2 r else sw t r
noncomputable def Cv(r:List (Int×Int))(y:Int):Prop:=∃p∈r,p.1<=y/\y<p.2
instance (r:List (Int×Int)) (y:Int):Decidable (Cv r y):=by unfold Cv;infer_instance
theorem pG{a:Int}{n:Nat}:∀{r:List (Int×Int)}{t:Int},r.Pairwise (fun p q=>p.1<=q.1)->(∀p∈r,p.1<=p.2/\a<=p.1/\p.2<=a+n)->a<=t->Sm (fun y=>bi (t<=y/\Cv r y)) a n=sw t r
 | [],t,_,_,_=>by rw[sw];exact fN fun x _ _=>if_neg fun z=>by obtain⟨_,p,hp,_⟩:=z;cases hp
 |p::r,t,ho,hb,ht=>by
  rw[sw];obtain⟨o1,o2⟩:=Mn.mp ho;obtain⟨b1,b2,b3⟩:=hb p o_;have hb':∀p∈r,p.1<=p.2/\a<=p.1/\p.2<=a+n:=fun q hq=>hb q (k_ _ hq);by_cases c:t<p.2
  ·rw[if_pos c,<-pG o2 hb' (show a<=p.2 by lia),<-J3 (l:=max p.1 t) (h:=p.2) (a:=a) (n:=n) (by lia) (by lia) b3,<-xn];refine cm fun y _ _=>?_;unfold bi;by_cases y1:y<p.2
   ·rw[if_neg (fun z=>by lia:¬(p.2<=y/\Cv r y)),Oo];by_cases y2:max p.1 t<=y
    ·rw[if_pos ⟨by lia,p,o_,by lia,y1⟩,if_pos ⟨y2,y1⟩]
    rw[if_neg,if_neg fun z=>y2 z.1];rintro⟨g1,q,hq,g2,g3⟩;rcases m_.mp hq with rfl|hq
    ·lia
    have:=o1 q hq;lia
   rw[if_neg (fun z=>y1 z.2:¬(max p.1 t<=y/\y<p.2)),NV];by_cases y2:Cv r y
   ·obtain⟨q,hq,g⟩:=y2;rw[if_pos ⟨by lia,q,k_ _ hq,g⟩,if_pos ⟨by lia,q,hq,g⟩]
   rw[if_neg,if_neg fun z=>y2 z.2];rintro⟨g1,q,hq,g2,g3⟩;rcases m_.mp hq with rfl|hq
   ·lia
   exact y2 ⟨q,hq,g2,g3⟩
  rw[if_neg c,<-pG o2 hb' ht];refine cm fun y _ _=>zH ⟨?_,?_⟩
  ·rintro⟨g1,q,hq,g2,g3⟩;rcases m_.mp hq with rfl|hq
   ·lia
   exact⟨g1,q,hq,g2,g3⟩
  rintro⟨g1,q,hq,g⟩;exact⟨g1,q,k_ _ hq,g⟩
abbrev Ln:=Int×Int
noncomputable def Ln.at (f:Ln)(m:Int):Int:=f.1+f.2*m
noncomputable def Sg(F:Ln->Prop)(u v M:Int):Prop:=∀f g,F f->F g->f.at M<=g.at M->∀m,u<=m->m<=v->f.at m<=g.at m
theorem v9{F:Ln->Prop}{u v M:Int}(sg:Sg F u v M):∀{r:List (Ln×Ln)}{t:Ln},F t->(∀p∈r,F p.1/\F p.2/\p.1.at M<=p.2.at M)->∃ α β:Int,∀m,u<=m->m<=v->sw (t.at m) (r.map fun p=>(p.1.at m,p.2.at m))=α+β*m
 | [],t,_,_=>⟨0,0,fun m _ _=>by rw[Nb,sw];lia⟩
 |p::r,t,ht,hr=>by
  obtain⟨f1,f2,le⟩:=hr p o_;have hr':=fun q hq=>hr q (k_ p hq);by_cases c:t.at M<p.2.at M
  ·obtain⟨α,β,e⟩:=v9 sg f2 hr';have mx:∃k:Ln,∀m,u<=m->m<=v->max (p.1.at m) (t.at m)=k.at m:=by
    by_cases d:p.1.at M<=t.at M
    ·exact⟨t,fun m h1 h2=>by have:=sg _ _ f1 ht d m h1 h2;lia⟩
    exact⟨p.1,fun m h1 h2=>by have:=sg _ _ ht f1 (by lia) m h1 h2;lia⟩
   obtain⟨k,hk⟩:=mx;refine⟨p.2.1-k.1+α,p.2.2-k.2+β,fun m h1 h2=>?_⟩;rw[g_,sw];have g1:=sg _ _ ht f2 (by lia) m h1 h2;have g2:=sg _ _ f1 f2 le m h1 h2;have g3:=hk m h1 h2;have g4:=e m h1 h2;have fin:p.2.at m-k.at m+(α+β*m)=p.2.1-k.1+α+(p.2.2-k.2+β)*m:=by unfold Ln.at;rw[Int.add_mul,Int.sub_mul];lia
   by_cases s:t.at m<p.2.at m
   ·rw[if_pos s,g3,g4];exact fin
   rw[if_neg s,show t.at m=p.2.at m by lia,g4,<-fin];lia
  obtain⟨α,β,e⟩:=v9 sg ht hr';refine⟨α,β,fun m h1 h2=>?_⟩;rw[g_,sw,if_neg (by have:=sg _ _ f2 ht (by lia) m h1 h2;show ¬t.at m<p.2.at m;lia)];exact e m h1 h2
noncomputable def Vo(o:Oc):Prop:=(o.a<=o.b/\o.c<=o.d)/\(o.e<=o.f/\o.g<=o.h)/\(o.b+o.c<=o.f/\o.g+o.c<=o.a)/\(o.e<=o.a+o.d/\o.e+o.g<=2*o.a)/\o.b<=o.h+o.d/\2*o.b<=o.f+o.h
noncomputable def loM(o:Oc)(m:Int):Int:=max (max (4*o.c) (4*o.e-m)) (m-4*o.h)
noncomputable def hiM(o:Oc)(m:Int):Int:=min (min (4*o.d) (4*o.f-m)) (m-4*o.g)
variable {o:Oc}
theorem Ga{m:Int}(h:Vo o)(h1:4*o.a<=m)(h2:m<=4*o.b):loM o m<=hiM o m:=by obtain⟨⟨_,_⟩,⟨_,_⟩,⟨_,_⟩,⟨_,_⟩,_,_⟩:=h;unfold loM hiM;omega
noncomputable def Co(o:Oc)(m y:Int):Prop:=(4*o.a<=m/\m<=4*o.b)/\loM o m<=y/\y<hiM o m
instance (o:Oc) (m y:Int):Decidable (Co o m y):=by unfold Co;infer_instance
noncomputable def Cu(os:List Oc)(m y:Int):Prop:=∃o∈os,Co o m y
instance (os:List Oc) (m y:Int):Decidable (Cu os m y):=by unfold Cu;infer_instance
noncomputable def Lm(B:Nat)(os:List Oc)(m:Int):Int:=Sm (fun y=>bi (Cu os m y)) (-(8*B:Nat)) (16*B)
noncomputable def Ar(B:Nat)(os:List Oc):Int:=Sm (fun j=>Lm B os (2*j+1)) (-(2*B:Nat)) (4*B)
noncomputable def Bd(B:Int)(o:Oc):Prop:=(-B<=o.a/\o.b<=B)/\-B<=o.c/\o.d<=B
noncomputable def Fam(os:List Oc)(f:Ln):Prop:=∃o∈os,f=(4*o.c,0)\/f=(4*o.d,0)\/f=(4*o.e,-1)\/f=(4*o.f,-1)\/f=(-(4*o.g),1)\/f=(-(4*o.h),1)
noncomputable def Nc(os:List Oc)(l r:Int):Prop:=(∀o∈os,(2*o.a<=l\/r<=2*o.a)/\(2*o.b<=l\/r<=2*o.b))/\∀o∈os,∀t,t=o.c\/t=o.d->∀o'∈os,∀u,u=o'.e\/u=o'.f->∀o''∈os,∀v,v=o''.g\/v=o''.h->(2*(u-t)<=l\/r<=2*(u-t))/\(2*(v+t)<=l\/r<=2*(v+t))/\(u+v<=l\/r<=u+v)
variable {os:List Oc}
theorem wQ{f:Ln}(h:Fam os f):∃o∈os,(∃t,(t=o.c\/t=o.d)/\∀m,f.at m=4*t)\/(∃u,(u=o.e\/u=o.f)/\∀m,f.at m=4*u-m)\/(∃v,(v=o.g\/v=o.h)/\∀m,f.at m=m-4*v):=by
 obtain⟨o,ho,h⟩:=h;refine⟨o,ho,?_⟩;unfold Ln.at;rcases h with rfl|rfl|rfl|rfl|rfl|rfl
 ·exact .inl ⟨_,.inl rfl,fun m=>by dsimp only;lia⟩
 ·exact .inl ⟨_,.inr rfl,fun m=>by dsimp only;lia⟩
 ·exact .inr (.inl ⟨_,.inl rfl,fun m=>by dsimp only;lia⟩)
 ·exact .inr (.inl ⟨_,.inr rfl,fun m=>by dsimp only;lia⟩)
 ·exact .inr (.inr ⟨_,.inl rfl,fun m=>by dsimp only;lia⟩)
 exact .inr (.inr ⟨_,.inr rfl,fun m=>by dsimp only;lia⟩)
theorem II{l r:Int}(h:l<r)(nc:Nc os l r):Sg (Fam os) (2*l) (2*r) (l+r):=by
 intro f g hf hg hM m h1 h2;obtain⟨o,ho,kf⟩:=wQ hf;obtain⟨o',ho',kg⟩:=wQ hg;rcases kf with⟨t,et,ef⟩|⟨t,et,ef⟩|⟨t,et,ef⟩ <;> rcases kg with⟨u,eu,eg⟩|⟨u,eu,eg⟩|⟨u,eu,eg⟩ <;> rw[ef,eg]at hM ⊢
 ·exact hM
 ·have:=(nc.2 o ho t et o' ho' u eu o ho _ (.inl rfl)).1;lia
 ·have:=(nc.2 o ho t et o ho _ (.inl rfl) o' ho' u eu).2.1;lia
 ·have:=(nc.2 o' ho' u eu o ho t et o ho _ (.inl rfl)).1;lia
 ·lia
 ·have:=(nc.2 o ho _ (.inl rfl) o ho t et o' ho' u eu).2.2;lia
 ·have:=(nc.2 o' ho' u eu o ho _ (.inl rfl) o ho t et).2.1;lia
 ·have:=(nc.2 o ho _ (.inl rfl) o' ho' u eu o ho t et).2.2;lia
 lia
variable {c x:Int}
theorem JH{b:Int}(h:x=a\/x=b\/x=c)(h1:x<=a)(h2:x<=b)(h3:x<=c):min (min a b) c=x:=by
 refine P7 ?_ (P8.mpr ⟨P8.mpr ⟨h1,h2⟩,h3⟩);rcases h with rfl|rfl|rfl
 ·exact LZ (Mh _ _) (Mh _ _)
 ·exact LZ (Mh _ _) (Mt _ _)
 exact Mt _ _
theorem Kn{b:Int}(h:x=a\/x=b\/x=c)(h1:a<=x)(h2:b<=x)(h3:c<=x):max (max a b) c=x:=by
 refine P7 (ON.mpr ⟨ON.mpr ⟨h1,h2⟩,h3⟩) ?_;rcases h with rfl|rfl|rfl
 ·exact LZ (Mi _ _) (Mi _ _)
 ·exact LZ (Mu _ _) (Mi _ _)
 exact Mu _ _
variable {z:Int}
theorem rE{m:Int}:Ln.at (z,0) m=z/\Ln.at (z,-1) m=z-m/\Ln.at (-z,1) m=m-z:=by unfold Ln.at;dsimp only;lia
theorem Ew{l r:Int}(sg:Sg (Fam os) (2*l) (2*r) (l+r))(ho:o∈os):∃f,Fam os f/\f.at (l+r)=loM o (l+r)/\∀m,2*l<=m->m<=2*r->loM o m=f.at m:=by
 have F1:Fam os (4*o.c,0):=⟨o,ho,.inl rfl⟩;have F2:Fam os (4*o.e,-1):=⟨o,ho,.inr (.inr (.inl rfl))⟩;have F3:Fam os (-(4*o.h),1):=⟨o,ho,.inr (.inr (.inr (.inr (.inr rfl))))⟩;have e:∀m,loM o m=max (max (Ln.at (4*o.c,0) m) (Ln.at (4*o.e,-1) m)) (Ln.at (-(4*o.h),1) m):=fun m=>by rw[rE.1,rE.2.1,rE.2.2];rfl
 have key:∀f,Fam os f->Ln.at (4*o.c,0) (l+r)<=f.at (l+r)->Ln.at (4*o.e,-1) (l+r)<=f.at (l+r)->Ln.at (-(4*o.h),1) (l+r)<=f.at (l+r)->(f=(4*o.c,0)\/f=(4*o.e,-1)\/f=(-(4*o.h),1))->∃f,Fam os f/\f.at (l+r)=loM o (l+r)/\∀m,2*l<=m->m<=2*r->loM o m=f.at m:=by
  intro f hf g1 g2 g3 hk;have hk':∀m,f.at m=Ln.at (4*o.c,0) m\/f.at m=Ln.at (4*o.e,-1) m\/f.at m=Ln.at (-(4*o.h),1) m:=fun m=>hk.imp (fun z=>by rw[z]) fun z=>z.imp (fun z=>by rw[z]) fun z=>by rw[z]
  exact⟨f,hf,by rw[e];exact(Kn (hk' _) g1 g2 g3).symm,fun m h1 h2=>by rw[e];exact Kn (hk' m) (sg _ _ F1 hf g1 m h1 h2) (sg _ _ F2 hf g2 m h1 h2) (sg _ _ F3 hf g3 m h1 h2)⟩
 rcases LN (Ln.at (4*o.e,-1) (l+r)) (Ln.at (4*o.c,0) (l+r))with x|x
 ·rcases LN (Ln.at (-(4*o.h),1) (l+r)) (Ln.at (4*o.c,0) (l+r))with y|y
  ·exact key _ F1 (Mm _) x y (.inl rfl)
  exact key _ F3 y (LZ x y) (Mm _) (.inr (.inr rfl))
 rcases LN (Ln.at (-(4*o.h),1) (l+r)) (Ln.at (4*o.e,-1) (l+r))with y|y
 ·exact key _ F2 x (Mm _) y (.inr (.inl rfl))
 exact key _ F3 (LZ x y) y (Mm _) (.inr (.inr rfl))
theorem EK{l r:Int}(sg:Sg (Fam os) (2*l) (2*r) (l+r))(ho:o∈os):∃f,Fam os f/\f.at (l+r)=hiM o (l+r)/\∀m,2*l<=m->m<=2*r->hiM o m=f.at m:=by
 have F1:Fam os (4*o.d,0):=⟨o,ho,.inr (.inl rfl)⟩;have F2:Fam os (4*o.f,-1):=⟨o,ho,.inr (.inr (.inr (.inl rfl)))⟩;have F3:Fam os (-(4*o.g),1):=⟨o,ho,.inr (.inr (.inr (.inr (.inl rfl))))⟩;have e:∀m,hiM o m=min (min (Ln.at (4*o.d,0) m) (Ln.at (4*o.f,-1) m)) (Ln.at (-(4*o.g),1) m):=fun m=>by rw[rE.1,rE.2.1,rE.2.2];rfl
 have key:∀f,Fam os f->f.at (l+r)<=Ln.at (4*o.d,0) (l+r)->f.at (l+r)<=Ln.at (4*o.f,-1) (l+r)->f.at (l+r)<=Ln.at (-(4*o.g),1) (l+r)->(f=(4*o.d,0)\/f=(4*o.f,-1)\/f=(-(4*o.g),1))->∃f,Fam os f/\f.at (l+r)=hiM o (l+r)/\∀m,2*l<=m->m<=2*r->hiM o m=f.at m:=by
  intro f hf g1 g2 g3 hk;have hk':∀m,f.at m=Ln.at (4*o.d,0) m\/f.at m=Ln.at (4*o.f,-1) m\/f.at m=Ln.at (-(4*o.g),1) m:=fun m=>hk.imp (fun z=>by rw[z]) fun z=>z.imp (fun z=>by rw[z]) fun z=>by rw[z]
  exact⟨f,hf,by rw[e];exact(JH (hk' _) g1 g2 g3).symm,fun m h1 h2=>by rw[e];exact JH (hk' m) (sg _ _ hf F1 g1 m h1 h2) (sg _ _ hf F2 g2 m h1 h2) (sg _ _ hf F3 g3 m h1 h2)⟩
 rcases LN (Ln.at (4*o.d,0) (l+r)) (Ln.at (4*o.f,-1) (l+r))with x|x
 ·rcases LN (Ln.at (4*o.d,0) (l+r)) (Ln.at (-(4*o.g),1) (l+r))with y|y
  ·exact key _ F1 (Mm _) x y (.inl rfl)
  exact key _ F3 y (LZ y x) (Mm _) (.inr (.inr rfl))
 rcases LN (Ln.at (4*o.f,-1) (l+r)) (Ln.at (-(4*o.g),1) (l+r))with y|y
 ·exact key _ F2 x (Mm _) y (.inr (.inl rfl))
 exact key _ F3 (LZ y x) y (Mm _) (.inr (.inr rfl))
theorem lines{os:List Oc}{l r:Int}(h:l<r)(sg:Sg (Fam os) (2*l) (2*r) (l+r)):∀{T:List Oc},(∀o∈T,o∈os/\loM o (l+r)<=hiM o (l+r))->∃ps:List (Ln×Ln),(∀p∈ps,Fam os p.1/\Fam os p.2/\p.1.at (l+r)<=p.2.at (l+r))/\∀m,2*l<=m->m<=2*r->T.map (fun o=>(loM o m,hiM o m))=ps.map fun p=>(p.1.at m,p.2.at m)
 | [],_=>⟨[],fun p hp=>(nomatch hp),fun m _ _=>rfl⟩
 |o::T,k=>by
  obtain⟨ps,k1,k2⟩:=lines h sg fun o' ho'=>k o' (k_ o ho');obtain⟨ho,le⟩:=k o o_;obtain⟨f,f1,f2,f3⟩:=Ew sg ho;obtain⟨g,g1,g2,g3⟩:=EK sg ho;refine⟨(f,g)::ps,fun p hp=>?_,fun m h1 h2=>by rw[g_,g_,k2 m h1 h2,f3 m h1 h2,g3 m h1 h2]⟩;rcases m_.mp hp with rfl|hp
  ·exact⟨f1,g1,by show f.at _<=g.at _;lia⟩
  exact k1 p hp
noncomputable def spn(T:List Oc)(m:Int):List (Int×Int):=T.map fun o=>(loM o m,hiM o m)
noncomputable def xN:List (Int×Int)->Int
 | []=>0
 |p::_=>p.1
variable {B:Nat}
theorem Bq{T:List Oc}{l r:Int}(h:l<r)(nc:Nc os l r)(vo:∀o∈os,Vo o)(bd:∀o∈os,Bd B o)(mem:∀o,o∈T↔o∈os/\2*o.a<=l/\r<=2*o.b)(so:(spn T (l+r)).Pairwise fun p q=>p.1<=q.1) :
  (r-l)*sw (xN (spn T (l+r))) (spn T (l+r))=Sm (fun j=>Lm B os (2*j+1)) l (r-l).toNat:=by
 have sg:=II h nc;have p1:2*l<=l+r:=by lia
 have p2:l+r<=2*r:=by lia
 obtain⟨ps,k1,k2⟩:=lines h sg (T:=T) fun o ho=>by obtain⟨a1,a2,a3⟩:=(mem o).mp ho;exact⟨a1,Ga (vo o a1) (by lia) (by lia)⟩
 have so2:ps.Pairwise fun p q=>p.1.at (l+r)<=q.1.at (l+r):=by unfold spn at so;rw[k2 (l+r) p1 p2,K_]at so;exact so
 have act:∀j o,l<=j->j<r->o∈os->(o∈T↔4*o.a<=2*j+1/\2*j+1<=4*o.b):=fun j o h1 h2 ho=>by have:=nc.1 o ho;rw[mem o];exact⟨fun z=>by lia,fun z=>⟨ho,by lia⟩⟩
 have ln:∃ α β:Int,∀m,2*l<=m->m<=2*r->sw (xN (spn T m)) (spn T m)=α+β*m:=by
  cases ps with
  |nil=>exact⟨0,0,fun m h1 h2=>by unfold spn;rw[k2 m h1 h2,Nb];show 0=_;lia⟩
  |cons p ps=>
   obtain⟨α,β,e⟩:=v9 sg (k1 p o_).1 k1;exact⟨α,β,fun m h1 h2=>by unfold spn;rw[k2 m h1 h2];exact e m h1 h2⟩
 obtain⟨α,β,e⟩:=ln;have cnt:∀j,l<=j->j<l+(r-l).toNat->Lm B os (2*j+1)=α+β*(2*j+1):=fun j h1 h2=>by
  have q1:2*l<=2*j+1:=by lia
  have q2:2*j+1<=2*r:=by lia
  have q3:j<r:=by lia
  rw[<-e (2*j+1) q1 q2];have so3:(spn T (2*j+1)).Pairwise fun p q=>p.1<=q.1:=by unfold spn;rw[k2 _ q1 q2,K_];refine MD (fun{p q} hp hq hpq=>?_) so2;exact sg _ _ (k1 p hp).1 (k1 q hq).1 hpq _ q1 q2
  have bb:∀p∈spn T (2*j+1),p.1<=p.2/\-(8*B:Nat)<=p.1/\p.2<=-(8*B:Nat)+((16*B:Nat):Int):=fun p hp=>by
   obtain⟨o,ho,rfl⟩:=r_.mp hp;obtain⟨a1,a2,a3⟩:=(mem o).mp ho;obtain⟨_,b3,b4⟩:=bd o a1;refine⟨Ga (vo o a1) (by lia) (by lia),?_,?_⟩
   ·show _<=loM o _;unfold loM;lia
   show hiM o _<=_;unfold hiM;lia
  have t0:∀p∈spn T (2*j+1),xN (spn T (2*j+1))<=p.1:=fun p hp=>by
   generalize spn T (2*j+1)=sp at so3 hp;cases sp with
   |nil=>cases hp
   |cons q sp=>
    rcases m_.mp hp with rfl|hp
    ·exact Mm _
    exact(Mn.mp so3).1 p hp
  by_cases ne:spn T (2*j+1)=[]
  ·have nT:T=[]:=Nk.mp ne;rw[ne];show _=0;refine fN fun y _ _=>if_neg ?_;rintro⟨o,ho,c,_⟩;have:=(act j o h1 q3 ho).mpr c;rw[nT]at this;cases this
  have lo:-(8*B:Nat)<=xN (spn T (2*j+1)):=by
   generalize spn T (2*j+1)=sp at ne bb;cases sp with
   |nil=>exact absurd rfl ne
   |cons q sp=>exact(bb q o_).2.1
  rw[<-pG so3 bb lo];refine cm fun y _ _=>zH ⟨?_,?_⟩
  ·rintro⟨o,ho,c,c1,c2⟩;have hT:=(act j o h1 q3 ho).mpr c;have hp:(loM o (2*j+1),hiM o (2*j+1))∈spn T (2*j+1):=r_.mpr ⟨o,hT,rfl⟩;have:=t0 _ hp;exact⟨by dsimp only at this;lia,_,hp,c1,c2⟩
  rintro⟨_,p,hp,c1,c2⟩;obtain⟨o,hT,rfl⟩:=r_.mp hp;have ho:=((mem o).mp hT).1;exact⟨o,ho,(act j o h1 q3 ho).mp hT,c1,c2⟩
 rw[cm cnt,De,e (l+r) p1 p2,show((r-l).toNat:Int)=r-l by lia,show l+(l+(r-l))=l+r by lia]
theorem Be{w e:Int}(h1:∀o∈os,w<=2*o.a)(h2:∀o∈os,2*o.b<=e)(h3:w<=e)(h4:-(2*B:Nat)<=w)(h5:e<=(2*B:Nat)):Sm (fun j=>Lm B os (2*j+1)) w (e-w).toNat=Ar B os:=by refine(FQ h4 (by lia) fun x hx=>?_).symm;refine fN fun y _ _=>if_neg ?_;rintro⟨o,ho,c,_⟩;have:=h1 o ho;have:=h2 o ho;lia
abbrev Qt:=Int×Int×Nat
noncomputable def px(s:Nat):Int:=[6,4,2,4].getD s 0
noncomputable def py(s:Nat):Int:=[5,7,3,1].getD s 0
noncomputable def inL(o:Oc)(q:Qt):Prop:=((8*o.a<=8*q.1+px q.2.2/\8*q.1+px q.2.2<=8*o.b)/\8*o.c<=8*q.2.1+py q.2.2/\8*q.2.1+py q.2.2<=8*o.d)/\(8*o.e<=8*q.1+px q.2.2+(8*q.2.1+py q.2.2)/\8*q.1+px q.2.2+(8*q.2.1+py q.2.2)<=8*o.f)/\8*o.g<=8*q.1+px q.2.2-(8*q.2.1+py q.2.2)/\8*q.1+px q.2.2-(8*q.2.1+py q.2.2)<=8*o.h
instance (o:Oc) (q:Qt):Decidable (inL o q):=by unfold inL;infer_instance
noncomputable def inU(os:List Oc)(q:Qt):Prop:=∃o∈os,inL o q
instance (os:List Oc) (q:Qt):Decidable (inU os q):=by unfold inU;infer_instance
theorem g9{k e:Int}(hk:0<k):k*e<=k*z+c↔e<=z+c/k:=by rw[MI z,<-Int.add_mul_ediv_left c z (Int.ne_of_gt hk),Int.le_ediv_iff_mul_le hk,NC e,MI c]
theorem t5{k b:Int}(hk:0<k):k*z+c<=k*b↔¬b<=z+(c-1)/k:=by rw[<-g9 hk];generalize k*z=u;generalize k*b=v;lia
theorem HR:∀q∈[((1:Int),(0:Nat),(3:Nat)),(3,0,3),(1,1,2),(1,2,2),(3,1,0),(3,2,0),(1,3,1),(3,3,1)],(q.1/4=px q.2.2/8/\(q.1-1)/4=(px q.2.2-1)/8)/\((q.2.1:Int)/4=py q.2.2/8/\(q.2.1:Int)/4=(py q.2.2-1)/8)/\((q.1+(q.2.1:Int))/4=(px q.2.2+py q.2.2)/8/\(q.1+(q.2.1:Int))/4=(px q.2.2+py q.2.2-1)/8)/\(q.1-(q.2.1:Int)-1)/4=(px q.2.2-py q.2.2)/8/\(q.1-(q.2.1:Int)-1)/4=(px q.2.2-py q.2.2-1)/8:=by decide
variable {j s:Nat}
theorem Kv{X Y:Int}{i:Int}(h:(i,j,s)∈[((1:Int),0,3),(3,0,3),(1,1,2),(1,2,2),(3,1,0),(3,2,0),(1,3,1),(3,3,1)]):Co o (4*X+i) (4*Y+j)↔inL o (X,Y,s):=by
 obtain⟨⟨f1,f2⟩,⟨f3,f4⟩,⟨f5,f6⟩,f7,f8⟩:=HR _ h;clear h;dsimp only at *;have u1:=g9 (k:=4) (e:=o.a) (z:=X) (c:=i) (by decide);have u2:=t5 (k:=4) (b:=o.b) (z:=X) (c:=i) (by decide);have u3:=g9 (k:=4) (e:=o.c) (z:=Y) (c:=j) (by decide);have u4:=g9 (k:=4) (e:=o.d) (z:=Y) (c:=j) (by decide);have u5:=g9 (k:=4) (e:=o.e) (z:=X+Y) (c:=i+j) (by decide);have u6:=g9 (k:=4) (e:=o.f) (z:=X+Y) (c:=i+j) (by decide);have u7:=g9 (k:=4) (e:=o.g) (z:=X-Y) (c:=i-j-1) (by decide);have u8:=t5 (k:=4) (b:=o.h) (z:=X-Y) (c:=i-j) (by decide);have v1:=g9 (k:=8) (e:=o.a) (z:=X) (c:=px s) (by decide);have v2:=t5 (k:=8) (b:=o.b) (z:=X) (c:=px s) (by decide);have v3:=g9 (k:=8) (e:=o.c) (z:=Y) (c:=py s) (by decide);have v4:=t5 (k:=8) (b:=o.d) (z:=Y) (c:=py s) (by decide);have v5:=g9 (k:=8) (e:=o.e) (z:=X+Y) (c:=px s+py s) (by decide);have v6:=t5 (k:=8) (b:=o.f) (z:=X+Y) (c:=px s+py s) (by decide);have v7:=g9 (k:=8) (e:=o.g) (z:=X-Y) (c:=px s-py s) (by decide);have v8:=t5 (k:=8) (b:=o.h) (z:=X-Y) (c:=px s-py s) (by decide);rw[f1,<-v1]at u1;rw[f2,<-v2]at u2;rw[f3,<-v3]at u3;rw[f4]at u4;rw[f5,<-v5]at u5;rw[f6]at u6;rw[f7,<-v7]at u7;rw[f8,<-v8]at u8;unfold Co inL loM hiM;dsimp only;rw[ON,ON,Qw,Qw];have w5:4*o.e-(4*X+i)<=4*Y+j↔8*o.e<=8*X+px s+(8*Y+py s):=by rw[show 8*X+px s+(8*Y+py s)=8*(X+Y)+(px s+py s) by lia,<-u5];lia
 have w6:4*Y+(j:Int)<4*o.f-(4*X+i)↔8*X+px s+(8*Y+py s)<=8*o.f:=by rw[show 8*X+px s+(8*Y+py s)=8*(X+Y)+(px s+py s) by lia,v6,<-u6];lia
 have w7:4*Y+(j:Int)<4*X+i-4*o.g↔8*o.g<=8*X+px s-(8*Y+py s):=by rw[show 8*X+px s-(8*Y+py s)=8*(X-Y)+(px s-py s) by lia,<-u7];lia
 have w8:4*X+i-4*o.h<=4*Y+(j:Int)↔8*X+px s-(8*Y+py s)<=8*o.h:=by rw[show 8*X+px s-(8*Y+py s)=8*(X-Y)+(px s-py s) by lia,<-u8];lia
 have w4:4*Y+(j:Int)<4*o.d↔8*Y+py s<=8*o.d:=by rw[v4,<-u4];lia
 rw[u1,u2,u3,w5,w8,w4,w6,w7];exact⟨fun⟨⟨a,b⟩,⟨⟨c,e⟩,h⟩,⟨d,f⟩,g⟩=>⟨⟨⟨a,b⟩,c,d⟩,⟨e,f⟩,g,h⟩,fun⟨⟨⟨a,b⟩,c,d⟩,⟨e,f⟩,g,h⟩=>⟨⟨a,b⟩,⟨⟨c,e⟩,h⟩,⟨d,f⟩,g⟩⟩
noncomputable def cl4(p:Nat->Prop)[DecidablePred p](x y:Int):List Qt:=((A_ 4).filter p).map fun s=>(x,y,s)
variable {y:Int}
theorem Fq{p:Nat->Prop}[DecidablePred p]:((cl4 p x y).length:Int)=bi (p 0)+bi (p 1)+(bi (p 2)+bi (p 3)):=by unfold cl4;rw[a_,show A_ 4=[0,1,2,3]from rfl];unfold bi;by_cases h0:p 0 <;> by_cases h1:p 1 <;> by_cases h2:p 2 <;> by_cases h3:p 3 <;> simp[h0,h1,h2,h3]
noncomputable def oP(f:Int->List α)(a:Int)(n:Nat):List α:=(A_ n).flatMap fun(j:Nat)=>f (a+j)
theorem fu{f:Int->List α}:oP f a (n+1)=oP f a n++f (a+n):=by unfold oP;rw[NR,NN,O6]
theorem bM{f:Int->List α}{x:α}:x∈oP f a n↔∃i,a<=i/\i<a+n/\x∈f i:=by
 unfold oP;rw[PU];constructor
 ·rintro⟨j,m,e⟩;have:=Kk.mp m;exact⟨_,by lia,by lia,e⟩
 rintro⟨i,h1,h2,e⟩;exact⟨(i-a).toNat,Kk.mpr (by lia),by rw[show a+((i-a).toNat:Int)=i by lia];exact e⟩
theorem vf{f:Int->List α}{g:Int->Int}(h:∀i,((f i).length:Int)=g i)(n:Nat):((oP f a n).length:Int)=Sm g a n:=by
 induction n with
 |zero=>rfl
 |succ n ih=>rw[fu,d_,Sm,<-ih,<-h];lia
theorem zA{f:Int->List α}(hp:∀y,(f y).Nodup)(hR:∀y y',y≠y'->∀u∈f y,u ∉ f y'):(oP f a n).Nodup:=by
 induction n with
 |zero=>exact MY
 |succ n ih=>
  rw[fu,MT];refine⟨ih,hp _,fun u mu v mv e=>?_⟩;obtain⟨i,h1,h2,mi⟩:=bM.mp mu;subst e;exact hR i (a+n) (by lia) u mi mv
variable {q:Qt}
theorem cP{p:Nat->Prop}[DecidablePred p]:q∈cl4 p x y↔q.1=x/\q.2.1=y/\q.2.2<4/\p q.2.2:=by
 unfold cl4;rw[r_];constructor
 ·rintro⟨s,m,rfl⟩;rw[LR]at m;exact⟨rfl,rfl,Kk.mp m.1,of_decide_eq_true m.2⟩
 rintro⟨rfl,rfl,h1,h2⟩;exact⟨q.2.2,LR.mpr ⟨Kk.mpr h1,decide_eq_true h2⟩,rfl⟩
noncomputable def qsU(B:Nat)(os:List Oc):List Qt:=oP (fun X=>oP (fun Y=>cl4 (fun s=>inU os (X,Y,s)) X Y) (-(2*B:Nat)) (4*B)) (-(B:Nat)) (2*B)
theorem xO{f:Int->Int}{a:Int}:∀{n:Nat},Sm (fun x=>2*f x) a n=2*Sm f a n
 |0=>rfl
 |n+1=>by rw[Sm,Sm,xO];lia
theorem vA{X Y:Int}{i:Int}(h:(i,j,s)∈[((1:Int),0,3),(3,0,3),(1,1,2),(1,2,2),(3,1,0),(3,2,0),(1,3,1),(3,3,1)]):bi (Cu os (4*X+i) (4*Y+j))=bi (inU os (X,Y,s)):=
 zH ⟨fun⟨o,ho,c⟩=>⟨o,ho,(Kv h).mp c⟩,fun⟨o,ho,c⟩=>⟨o,ho,(Kv h).mpr c⟩⟩
theorem La(B:Nat)(os:List Oc):Ar B os=2*((qsU B os).length:Int):=by unfold Ar qsU;rw[show -((2*B:Nat):Int)=2 * -(B:Int) by lia,show 4*B=2*(2*B) by lia,uw,vf (g:=fun X=>Sm (fun Y=>bi (inU os (X,Y,0))+bi (inU os (X,Y,1))+(bi (inU os (X,Y,2))+bi (inU os (X,Y,3)))) (2 * -(B:Int)) (2*(2*B))) (fun X=>vf (fun Y=>Fq) _),<-xO];refine cm fun X _ _=>?_;unfold Lm;rw[show -((8*B:Nat):Int)=4*(2 * -(B:Int)) by lia,show 16*B=4*(2*(2*B)) by lia,zu,zu,<-xn,<-xO];refine cm fun Y _ _=>?_;rw[show 2*(2*X)+1=4*X+1 by lia,show 2*(2*X+1)+1=4*X+3 by lia];have e1:=vA (os:=os) (X:=X) (Y:=Y) (i:=1) (j:=0) (s:=3) (by decide);have e2:=vA (os:=os) (X:=X) (Y:=Y) (i:=3) (j:=0) (s:=3) (by decide);have e3:=vA (os:=os) (X:=X) (Y:=Y) (i:=1) (j:=1) (s:=2) (by decide);have e4:=vA (os:=os) (X:=X) (Y:=Y) (i:=1) (j:=2) (s:=2) (by decide);have e5:=vA (os:=os) (X:=X) (Y:=Y) (i:=3) (j:=1) (s:=0) (by decide);have e6:=vA (os:=os) (X:=X) (Y:=Y) (i:=3) (j:=2) (s:=0) (by decide);have e7:=vA (os:=os) (X:=X) (Y:=Y) (i:=1) (j:=3) (s:=1) (by decide);have e8:=vA (os:=os) (X:=X) (Y:=Y) (i:=3) (j:=3) (s:=1) (by decide);rw[show((0:Nat):Int)=0 from rfl,Oo]at e1 e2;rw[e1,e2];have e3:bi (Cu os (4*X+1) (4*Y+1))=_:=e3;have e4:bi (Cu os (4*X+1) (4*Y+2))=_:=e4;have e5:bi (Cu os (4*X+3) (4*Y+1))=_:=e5;have e6:bi (Cu os (4*X+3) (4*Y+2))=_:=e6;have e7:bi (Cu os (4*X+1) (4*Y+3))=_:=e7;have e8:bi (Cu os (4*X+3) (4*Y+3))=_:=e8;rw[e3,e4,e5,e6,e7,e8];lia
theorem Iw:(qsU B os).Nodup:=by
 unfold qsU;refine zA (fun X=>zA (fun Y=>?_) fun y y' ne u h1 h2=>ne ((cP.mp h1).2.1.symm.trans (cP.mp h2).2.1)) fun y y' ne u h1 h2=>?_
 ·unfold cl4;refine K_.mpr (PD (fun{a b} ne e=>ne ?_) (List.Pairwise.filter _ List.nodup_range));exact congrArg (fun q:Qt=>q.2.2) e
 obtain⟨_,_,_,g1⟩:=bM.mp h1;obtain⟨_,_,_,g2⟩:=bM.mp h2;exact ne ((cP.mp g1).1.symm.trans (cP.mp g2).1)
theorem Fx(bd:∀o∈os,Bd B o):q∈qsU B os↔q.2.2<4/\inU os q:=by
 unfold qsU;rw[bM];constructor
 ·rintro⟨X,_,_,h⟩;obtain⟨Y,_,_,h⟩:=bM.mp h;obtain⟨rfl,rfl,h1,h2⟩:=cP.mp h;exact⟨h1,h2⟩
 rintro⟨h1,o,ho,h2⟩;obtain⟨⟨b1,b2⟩,b3,b4⟩:=bd o ho;have h3:=h2;obtain⟨⟨⟨i1,i2⟩,i3,i4⟩,_⟩:=h2;have hx:px q.2.2<8/\0<px q.2.2/\0<py q.2.2/\py q.2.2<8:=by
  match q.2.2,h1 with
  |0,_=>decide
  |1,_=>decide
  |2,_=>decide
  |3,_=>decide
 exact⟨q.1,by lia,by lia,bM.mpr ⟨q.2.1,by lia,by lia,cP.mpr ⟨rfl,rfl,h1,o,ho,h3⟩⟩⟩
variable {qs:List Qt}
theorem EV(bd:∀o∈os,Bd B o)(nd:qs.Nodup)(mem:∀q,q∈qs↔q.2.2<4/\inU os q):2*(qs.length:Int)=Ar B os:=by rw[La,((List.perm_ext_iff_of_nodup nd Iw).mpr fun q=>(mem q).trans (Fx bd).symm).length_eq]
theorem IY{os':List Oc}(h:∀o,o∈os↔o∈os'):Ar B os=Ar B os':=by unfold Ar Lm;refine cm fun j _ _=>cm fun y _ _=>zH ⟨fun⟨o,ho,c⟩=>⟨o,(h o).mp ho,c⟩,fun⟨o,ho,c⟩=>⟨o,(h o).mpr ho,c⟩⟩
theorem DH[DecidableEq α]{l:List α}:∀{m:List α},l.Nodup->(∀x∈l,x∈m)->l.length<=m.length:=by
 induction l with
 |nil=>exact fun _ _=>D' _
 |cons x l ih=>
  intro m nd h;obtain⟨n1,n2⟩:=G_.mp nd;have hx:=h x o_;have:=ih (m:=m.erase x) n2 fun y hy=>(List.mem_erase_of_ne (fun e:y=x=>n1 (by rw[<-e];exact hy))).mpr (h y (k_ _ hy))
  rw[List.length_erase_of_mem hx]at this;have:=List.length_pos_of_mem hx;rw[h_];lia
theorem FZ{l:List Int}(h:l.Pairwise (·<·)):l.Nodup:=h.imp fun{a b} h e=>by lia
noncomputable def Cd(os:List Oc)(c:Int->Prop):Prop:=(∀o∈os,c (2*o.a)/\c (2*o.b))/\∀o∈os,∀t,t=o.c\/t=o.d->∀o'∈os,∀u,u=o'.e\/u=o'.f->∀o''∈os,∀v,v=o''.g\/v=o''.h->c (2*(u-t))/\c (2*(v+t))/\c (u+v)
noncomputable def mT(B:Nat)(os:List Oc):Prop:=os.length<=64/\B<2 ^ 50/\(os.length<=14\/B<=800)/\(∀o∈os,Vo o)/\∀o∈os,Bd B o
noncomputable def Sds(B:Nat)(os:List Oc)(S:List Int):Prop:=S.Pairwise (·<·)/\S.length<100000/\(os=[]->S=[])/\(os≠[]->∃w e:Int,S[0]?=some w/\S[S.length-1]?=some e/\-((2*B:Nat):Int)<=w/\w<=e/\e<=((2*B:Nat):Int)/\∀o∈os,w<=2*o.a/\2*o.b<=e)/\∀(i:Nat) (l r:Int),S[i]?=some l->S[i+1]?=some r->Nc os l r
theorem Js{c:Int->Prop}{l r:Int}(cd:Cd os c)(h:∀z,c z->z<=l\/r<=z):Nc os l r:=
 ⟨fun o ho=>⟨h _ (cd.1 o ho).1,h _ (cd.1 o ho).2⟩,fun o ho t et o' ho' u eu o'' ho'' v ev=>⟨h _ (cd.2 o ho t et o' ho' u eu o'' ho'' v ev).1,h _ (cd.2 o ho t et o' ho' u eu o'' ho'' v ev).2.1,h _ (cd.2 o ho t et o' ho' u eu o'' ho'' v ev).2.2⟩⟩
variable {S:List Int}
theorem jU(h:S.Pairwise (·<·))(hi:S[i]?=some x)(hj:S[j]?=some y)(hij:i<j):x<y:=by obtain⟨a,rfl⟩:=f_.mp hi;obtain⟨b,rfl⟩:=f_.mp hj;exact M'.mp h i j a b hij
theorem yB{W E:Int}{c:Int->Prop}(ne:os≠[])(vo:∀o∈os,Vo o)(bd:∀o∈os,Bd B o)(w1:∃o∈os,W=o.a)(w2:∀o∈os,W<=o.a)(e1:∃o∈os,E=o.b)(e2:∀o∈os,o.b<=E)(cd:Cd os c)
  (h1:S.Pairwise (·<·)) (h2:∀z,z∈S↔c z/\2*W<=z/\z<=2*E) (h3:S.length<100000):Sds B os S:=by
 obtain⟨o1,m1,r1⟩:=w1;obtain⟨o2,m2,r2⟩:=e1;have hWE:W<=E:=by have g1:=(vo o1 m1).1.1;have g2:=e2 o1 m1;lia
 have iW:2*W∈S:=(h2 _).mpr ⟨by rw[r1];exact(cd.1 o1 m1).1,by lia,by lia⟩;have iE:2*E∈S:=(h2 _).mpr ⟨by rw[r2];exact(cd.1 o2 m2).2,by lia,by lia⟩;obtain⟨jW,lW,gW⟩:=L'.mp iW;obtain⟨jE,lE,gE⟩:=L'.mp iE;have gW':S[jW]?=some (2*W):=by rw[c_ lW,gW]
 have gE':S[jE]?=some (2*E):=by rw[c_ lE,gE]
 have s0:S[0]?=some (2*W):=by
  by_cases z:jW=0
  ·rw[<-z];exact gW'
  have l0:0<S.length:=by lia
  have e0:=c_ l0;have:=jU h1 e0 gW' (by lia);have:=((h2 _).mp (F_ e0)).2;lia
 have sl:S[S.length-1]?=some (2*E):=by
  by_cases z:jE=S.length-1
  ·rw[<-z];exact gE'
  have l0:S.length-1<S.length:=by lia
  have e0:=c_ l0;have:=jU h1 gE' e0 (by lia);have:=((h2 _).mp (F_ e0)).2;lia
 refine⟨h1,h3,fun z=>absurd z ne,fun _=>⟨2*W,2*E,s0,sl,?_,by lia,?_,fun o ho=>?_⟩,fun i l r el er=>Js cd fun z hz=>?_⟩
 ·have:=(bd o1 m1).1.1;lia
 ·have:=(bd o2 m2).1.2;lia
 ·have a:=w2 o ho;have b:=e2 o ho;lia
 have hl:=((h2 _).mp (F_ el)).2;have hr:=((h2 _).mp (F_ er)).2;by_cases g1:z<2*W
 ·exact .inl (by lia)
 by_cases g2:2*E<z
 ·exact .inr (by lia)
 obtain⟨j,lj,gj⟩:=L'.mp ((h2 z).mpr ⟨hz,by lia,by lia⟩);have gj':S[j]?=some z:=by rw[c_ lj,gj]
 by_cases c1:j<i
 ·have:=jU h1 gj' el c1;exact .inl (by lia)
 by_cases c2:j=i
 ·subst c2;rw[el]at gj';cases gj';exact .inl (Mm _)
 by_cases c3:j=i+1
 ·subst c3;rw[er]at gj';cases gj';exact .inr (Mm _)
 have:=jU h1 er gj' (by lia);exact .inr (by lia)
theorem AA{W E:Int}(ne:os≠[])(vo:∀o∈os,Vo o)(bd:∀o∈os,Bd B o)(w1:∃o∈os,W=o.a)(w2:∀o∈os,W<=o.a)(e1:∃o∈os,E=o.b)(e2:∀o∈os,o.b<=E)(hl:2*E-2*W<=50000) :
  Sds B os ((A_ (2*E+1-2*W).toNat).map fun(j:Nat)=>2*W+(j:Int)):=by
 refine yB (c:=fun _=>True) ne vo bd w1 w2 e1 e2 ⟨fun _ _=>⟨trivial,trivial⟩,fun _ _ _ _ _ _ _ _ _ _ _ _=>⟨trivial,trivial,trivial⟩⟩ ?_ (fun z=>?_) ?_
 ·rw[K_];exact N6.imp fun{a b} h=>by lia
 ·rw[r_];exact⟨fun⟨j,m,e⟩=>by have:=Kk.mp m;exact⟨trivial,by lia,by lia⟩,fun⟨_,a,b⟩=>⟨(z-2*W).toNat,Kk.mpr (by lia),by lia⟩⟩
 rw[a_,Ml];lia
noncomputable def ocT(o:Oc):T:=.tup [.int o.a,.int o.b,.int o.c,.int o.d,.int o.e,.int o.f,.int o.g,.int o.h]
theorem nr:er (ocT o)=ocT o:=rfl
theorem dS:cg (ocT o)=true:=rfl
theorem d7:aW (ocT o)=true:=rfl
theorem dE:isAny (ocT o)=false:=rfl
noncomputable def ocL(o:Oc):List Int:=[o.a,o.b,o.c,o.d,o.e,o.f,o.g,o.h]
theorem HD(o:Oc):ocT o=iT (ocL o):=rfl
noncomputable def gA(i:Nat)(o:Oc):Int:=(ocL o).getD i 0
theorem nS{i:Int}{k:T->Prop}:ixT (ocT o) (.int i) k=ixT (.tup [.int o.a,.int o.b,.int o.c,.int o.d,.int o.e,.int o.f,.int o.g,.int o.h]) (.int i) k:=rfl
theorem FU(h:i<8):atI [T.int o.a,.int o.b,.int o.c,.int o.d,.int o.e,.int o.f,.int o.g,.int o.h] (i:Int)=some (.int (gA i o)):=by
 rcases i with _ | _ | _ | _ | _ | _ | _ | _|i
 iterate 8 rfl
 exact absurd h (N_ (O2 8 i))
theorem sizeLine_eq:sizeLine=16777216:=rfl
theorem cS{ps:List α}{g:α->Int}:intsOf (ps.map fun p=>T.int (g p))=some (ps.map g):=by
 induction ps with
 |nil=>rfl
 |cons p ps ih=>rw[g_,intsOf,ih];rfl
theorem A8{ps:List α}{qs:List β}{g:α->Int}{h:β->Int}:intsOf ((ps.map fun p=>T.int (g p))++qs.map fun p=>T.int (h p))=some (ps.map g++qs.map h):=by
 have e:(ps.map fun p=>T.int (g p))++(qs.map fun p=>T.int (h p))=(ps.map g++qs.map h).map fun x=>T.int x:=by rw[p_,A',A'];rfl
 rw[e,cS,Qh]
theorem fg:intsOf (ns.map T.int)=some ns:=by have:=cS (ps:=ns) (g:=fun x=>x);rwa[Qh]at this
theorem c2(x:Int):wD 2 x:=.inl ⟨by decide,by decide⟩
theorem c4(x:Int):wD 4 x:=.inl ⟨by decide,by decide⟩
theorem p0{ms:List Int}(h1:ms.Pairwise (·<·))(h2:∀z,z∈ms↔∃o∈os,z=gA i o\/z=gA (i+1) o):ms.length<=2*os.length:=by
 have:=DH (m:=os.map (gA i)++os.map (gA (i+1))) (FZ h1) fun z hz=>by obtain⟨o,m,e⟩:=(h2 z).mp hz;rw[x_,r_,r_];exact e.elim (fun e=>.inl ⟨o,m,e.symm⟩) fun e=>.inr ⟨o,m,e.symm⟩
 rw[d_,a_,a_]at this;lia
abbrev Pt:=Int×Int
noncomputable def ptP(p:Pt):T:=pt p.1 p.2
variable {p:Pt}
theorem bS:er (ptP p)=ptP p:=rfl
theorem b8:cg (ptP p)=true:=rfl
theorem aR:aW (ptP p)=true:=rfl
theorem bD:isAny (ptP p)=false:=rfl
theorem bA{k:T->Prop}:ixT (ptP p) (.int 0) k=k (.int p.1):=rfl
theorem cn{k:T->Prop}:ixT (ptP p) (.int 1) k=k (.int p.2):=rfl
theorem bE{k:T->Prop}:qc [ptP p] k=k (ptP p):=rfl
theorem DF{p q:Pt}{k:T->Prop}:eqT (ptP p) (ptP q) k=k (.bl (decide (p=q))):=by unfold ptP;rw[k9];congr 2;rw[decide_eq_decide];exact⟨fun h=>M7 h.1 h.2,fun h=>by rw[h];exact⟨rfl,rfl⟩⟩
noncomputable def JQ:List Pt:=[(1,0),(1,1),(0,1),(-1,1),(-1,0),(-1,-1),(0,-1),(1,-1)]
noncomputable def st8(d:Nat):Pt:=JQ.getD d (0,0)
noncomputable def vK(p:Pt)(d:Nat)(m:Int):Pt:=(p.1+(st8 d).1*m,p.2+(st8 d).2*m)
theorem Cg{d:Nat}(h:d<8):atI [T.cst [.int 1,.int 0],.cst [.int 1,.int 1],.cst [.int 0,.int 1],.cst [.int (-1),.int 1],.cst [.int (-1),.int 0],.cst [.int (-1),.int (-1)],.cst [.int 0,.int (-1)],.cst [.int 1,.int (-1)]] (d:Int)=some (.cst [.int (st8 d).1,.int (st8 d).2]):=by
 match d,h with
 |0,_=>rfl
 |1,_=>rfl
 |2,_=>rfl
 |3,_=>rfl
 |4,_=>rfl
 |5,_=>rfl
 |6,_=>rfl
 |7,_=>rfl
theorem Al(d:Nat)(h:d<8):-1<=(st8 d).1/\(st8 d).1<=1/\-1<=(st8 d).2/\(st8 d).2<=1:=by
 match d,h with
 |0,_=>decide
 |1,_=>decide
 |2,_=>decide
 |3,_=>decide
 |4,_=>decide
 |5,_=>decide
 |6,_=>decide
 |7,_=>decide
noncomputable def far(p q:Pt):Int:=max ((q.1-p.1).natAbs:Int) ((q.2-p.2).natAbs:Int)
noncomputable def lead(p q:Pt):Option Nat:=if far p q=0 then none else(A_ 8).find? fun d=>decide (vK p d (far p q)=q)
noncomputable def yv(p q:Pt):T:=match lead p q with
 |none=>.non
 |some d=>.tup [.int (d:Int),.int (far p q)]
noncomputable def vD(o q:Oc):Oc:=⟨o.a+q.a,o.b+q.b,o.c+q.c,o.d+q.d,o.e+q.e,o.f+q.f,o.g+q.g,o.h+q.h⟩
noncomputable def oc1(p:Pt):Oc:=⟨p.1,p.1,p.2,p.2,p.1+p.2,p.1+p.2,p.1-p.2,p.1-p.2⟩
noncomputable def oc2(p q:Pt):Oc:=⟨min p.1 q.1,max p.1 q.1,min p.2 q.2,max p.2 q.2,min (p.1+p.2) (q.1+q.2),max (p.1+p.2) (q.1+q.2),min (p.1-p.2) (q.1-q.2),max (p.1-p.2) (q.1-q.2)⟩
noncomputable def gO(j:Nat)(p:Pt):Int:=[p.1,p.2,p.1+p.2,p.1-p.2].getD j 0
noncomputable def Dj(ps:List Pt)(o:Oc):Prop:=((fW (ps.map (gO 0)) o.a/\fV (ps.map (gO 0)) o.b)/\(fW (ps.map (gO 1)) o.c/\fV (ps.map (gO 1)) o.d))/\(fW (ps.map (gO 2)) o.e/\fV (ps.map (gO 2)) o.f)/\fW (ps.map (gO 3)) o.g/\fV (ps.map (gO 3)) o.h
theorem Dc{f:Nat->Int×Int}{m M:Int}:(A_ (i+1)).flatMap (fun j=>[T.int (if j=i then(m,M)else f j).1,T.int (if j=i then(m,M)else f j).2])=(A_ i).flatMap (fun j=>[T.int (f j).1,T.int (f j).2])++[T.int m]++[T.int M]:=by
 rw[NR,NN,l_];have ec:(A_ i).flatMap (fun j=>[T.int (if j=i then(m,M)else f j).1,T.int (if j=i then(m,M)else f j).2])=(A_ i).flatMap fun j=>[T.int (f j).1,T.int (f j).2]:=by rw[PV,PV];refine congrArg List.flatten (Mx fun j hj=>?_);have:=Kk.mp hj;rw[if_neg (by lia)]
 rw[ec];congr 1;show [T.int (if i=i then(m,M)else f i).1,T.int (if i=i then(m,M)else f i).2]++[]=_;rw[if_pos rfl]
 rfl
theorem JI(h:Dj [p] o):o=oc1 p:=by
 obtain⟨⟨⟨h1,h2⟩,h3,h4⟩,⟨h5,h6⟩,h7,h8⟩:=h;have k:∀{x y:Int},fW [x] y->y=x:=fun h=>w_.mp h.1;have k':∀{x y:Int},fV [x] y->y=x:=fun h=>w_.mp h.1;obtain⟨a,b,c,d,e,f,g,h⟩:=o;have e1:=k h1;have e2:=k' h2;have e3:=k h3;have e4:=k' h4;have e5:=k h5;have e6:=k' h6;have e7:=k h7;have e8:=k' h8;dsimp only at e1 e2 e3 e4 e5 e6 e7 e8;rw[e1,e2,e3,e4,e5,e6,e7,e8]
 rfl
theorem JB{q:Pt}(h:Dj [p,q] o):o=oc2 p q:=by
 obtain⟨⟨⟨h1,h2⟩,h3,h4⟩,⟨h5,h6⟩,h7,h8⟩:=h;have k:∀{x z y:Int},fW [x,z] y->y=min x z:=fun{x z y} h=>by have a1:=h.2 x (.head _);have a2:=h.2 z (.tail _ (.head _));have a3:=h.1;simp only[m_,Ms,or_false]at a3;lia
 have k':∀{x z y:Int},fV [x,z] y->y=max x z:=fun{x z y} h=>by have a1:=h.2 x (.head _);have a2:=h.2 z (.tail _ (.head _));have a3:=h.1;simp only[m_,Ms,or_false]at a3;lia
 obtain⟨a,b,c,d,e,f,g,h⟩:=o;have e1:=k h1;have e2:=k' h2;have e3:=k h3;have e4:=k' h4;have e5:=k h5;have e6:=k' h6;have e7:=k h7;have e8:=k' h8;dsimp only at e1 e2 e3 e4 e5 e6 e7 e8;rw[e1,e2,e3,e4,e5,e6,e7,e8]
 rfl
noncomputable def mkO(r k:Int)(p:Pt):Oc:=vD ⟨-r,r,-r,r,-(r+k),r+k,-(r+k),r+k⟩ (oc1 p)
noncomputable def swO(r k:Int)(p q:Pt):Oc:=vD (mkO r k (0,0)) (oc2 p q)
noncomputable def mkQ(r R x y:Int):Oc:=⟨x-r,x+r,y-r,y+r,x+y-R,x+y+R,x-y-R,x-y+R⟩
noncomputable def swQ(r R x y x' y':Int):Oc:=⟨min x x'-r,max x x'+r,min y y'-r,max y y'+r,min (x+y) (x'+y')-R,max (x+y) (x'+y')+R,min (x-y) (x'-y')-R,max (x-y) (x'-y')+R⟩
variable {x' y':Int}
theorem kL{r R:Int}:swQ r R x y x' y'=swQ r R x' y' x y:=by unfold swQ;simp only[Int.min_comm,Int.max_comm]
theorem GP{r R α β:Int}(h0:1<=r)(h1:r<R)(b1:-(8*r)<=β)(b2:β<=8*r)(a1:-(8*r)<=α)(s1:-(8*R)<=α+β)(d1:-(8*R)<=α-β):∀n:Nat,α<=8*n+8*r->α+β<=8*n+8*R->α-β<=8*n+8*R->∃i:Nat,i<=n/\(-(8*r)<=α-8*i/\α-8*i<=8*r)/\(-(8*R)<=α+β-8*i/\α+β-8*i<=8*R)/\-(8*R)<=α-β-8*i/\α-β-8*i<=8*R
 |0,a2,s2,d2=>⟨0,b_ _,by lia⟩
 |n+1,a2,s2,d2=>by
  by_cases g:α<=8*n+8*r/\α+β<=8*n+8*R/\α-β<=8*n+8*R
  ·obtain⟨i,hi,k⟩:=GP h0 h1 b1 b2 a1 s1 d1 n g.1 g.2.1 g.2.2;exact⟨i,N3 hi,k⟩
  exact⟨n+1,b_ _,by lia⟩
theorem Ia{r R α β:Int}(h0:1<=r)(h1:r<R)(h2:R<2*r)(c1:-(8*R)<=α-β)(c2:α-β<=8*R)(a1:-(8*r)<=α)(b1:-(8*r)<=β)(s1:-(8*R)<=α+β):∀n:Nat,α<=8*n+8*r->β<=8*n+8*r->α+β<=16*n+8*R->∃i:Nat,i<=n/\(-(8*r)<=α-8*i/\α-8*i<=8*r)/\(-(8*r)<=β-8*i/\β-8*i<=8*r)/\-(8*R)<=α+β-16*i/\α+β-16*i<=8*R
 |0,a2,b2,s2=>⟨0,b_ _,by lia⟩
 |n+1,a2,b2,s2=>by
  by_cases g:α<=8*n+8*r/\β<=8*n+8*r/\α+β<=16*n+8*R
  ·obtain⟨i,hi,k⟩:=Ia h0 h1 h2 c1 c2 a1 b1 s1 n g.1 g.2.1 g.2.2;exact⟨i,N3 hi,k⟩
  exact⟨n+1,b_ _,by lia⟩
theorem fR:(min a (a+n)=a/\max a (a+n)=a+n)/\min a (a-n)=a-n/\max a (a-n)=a:=⟨⟨M6 (by lia),MK (by lia)⟩,M0 (by lia),MP (by lia)⟩
theorem zB{r R:Int}:swQ r R x y (x+n) y=⟨x-r,x+n+r,y-r,y+r,x+y-R,x+y+n+R,x-y-R,x-y+n+R⟩/\swQ r R x y (x+n) (y+n)=⟨x-r,x+n+r,y-r,y+n+r,x+y-R,x+y+(n+n:Nat)+R,x-y-R,x-y+R⟩/\swQ r R x y x (y+n)=⟨x-r,x+r,y-r,y+n+r,x+y-R,x+y+n+R,x-y-n-R,x-y+R⟩/\swQ r R x y (x+n) (y-n)=⟨x-r,x+n+r,y-n-r,y+r,x+y-R,x+y+R,x-y-R,x-y+(n+n:Nat)+R⟩:=by
 unfold swQ;refine⟨?_,?_,?_,?_⟩
 ·rw[show x+n+y=x+y+n by lia,show x+n-y=x-y+n by lia];simp only[fR.1.1,fR.1.2,OW,OX]
 ·rw[show x+n+(y+n)=x+y+(n+n:Nat) by lia,show x+n-(y+n)=x-y by lia];simp only[fR.1.1,fR.1.2,OW,OX]
 ·rw[show x+(y+n)=x+y+n by lia,show x-(y+n)=x-y-n by lia];simp only[fR.1.1,fR.1.2,fR.2.1,fR.2.2,OW,OX]
 rw[show x+n+(y-n)=x+y by lia,show x+n-(y-n)=x-y+(n+n:Nat) by lia];simp only[fR.1.1,fR.1.2,fR.2.1,fR.2.2,OW,OX]
theorem KN{r R:Int}(h4:q.2.2<4)(h0:1<=r)(h1:r<R)(h2:R<2*r)(h:inL (swQ r R x y (x+n) y) q):∃i:Nat,i<=n/\inL (mkQ r R (x+i) y) q:=by rw[zB.1]at h;unfold inL at *;obtain⟨⟨⟨k1,k2⟩,k3,k4⟩,⟨k5,k6⟩,k7,k8⟩:=h;generalize 8*q.1+px q.2.2=U at *;generalize 8*q.2.1+py q.2.2=V at *;dsimp only at *;obtain⟨i,hi,⟨j1,j2⟩,⟨j3,j4⟩,j5,j6⟩:=GP (α:=U-8*x) (β:=V-8*y) h0 h1 (by lia) (by lia) (by lia) (by lia) (by lia) n (by lia) (by lia) (by lia);refine⟨i,hi,?_⟩;unfold mkQ;dsimp only;lia
theorem Ja{r R:Int}(h4:q.2.2<4)(h0:1<=r)(h1:r<R)(h2:R<2*r)(h:inL (swQ r R x y x (y+n)) q):∃i:Nat,i<=n/\inL (mkQ r R x (y+i)) q:=by rw[zB.2.2.1]at h;unfold inL at *;obtain⟨⟨⟨k1,k2⟩,k3,k4⟩,⟨k5,k6⟩,k7,k8⟩:=h;generalize 8*q.1+px q.2.2=U at *;generalize 8*q.2.1+py q.2.2=V at *;dsimp only at *;obtain⟨i,hi,⟨j1,j2⟩,⟨j3,j4⟩,j5,j6⟩:=GP (α:=V-8*y) (β:=U-8*x) h0 h1 (by lia) (by lia) (by lia) (by lia) (by lia) n (by lia) (by lia) (by lia);refine⟨i,hi,?_⟩;unfold mkQ;dsimp only;lia
theorem JW{r R:Int}(h4:q.2.2<4)(h0:1<=r)(h1:r<R)(h2:R<2*r)(h:inL (swQ r R x y (x+n) (y+n)) q):∃i:Nat,i<=n/\inL (mkQ r R (x+i) (y+i)) q:=by rw[zB.2.1]at h;unfold inL at *;obtain⟨⟨⟨k1,k2⟩,k3,k4⟩,⟨k5,k6⟩,k7,k8⟩:=h;generalize 8*q.1+px q.2.2=U at *;generalize 8*q.2.1+py q.2.2=V at *;dsimp only at *;obtain⟨i,hi,⟨j1,j2⟩,⟨j3,j4⟩,j5,j6⟩:=Ia (α:=U-8*x) (β:=V-8*y) h0 h1 h2 (by lia) (by lia) (by lia) (by lia) (by lia) n (by lia) (by lia) (by lia);refine⟨i,hi,?_⟩;unfold mkQ;dsimp only;lia
theorem JY{r R:Int}(h4:q.2.2<4)(h0:1<=r)(h1:r<R)(h2:R<2*r)(h:inL (swQ r R x y (x+n) (y-n)) q):∃i:Nat,i<=n/\inL (mkQ r R (x+i) (y-i)) q:=by rw[zB.2.2.2]at h;unfold inL at *;obtain⟨⟨⟨k1,k2⟩,k3,k4⟩,⟨k5,k6⟩,k7,k8⟩:=h;generalize 8*q.1+px q.2.2=U at *;generalize 8*q.2.1+py q.2.2=V at *;dsimp only at *;obtain⟨i,hi,⟨j1,j2⟩,⟨j3,j4⟩,j5,j6⟩:=Ia (α:=U-8*x) (β:=8*y-V) h0 h1 h2 (by lia) (by lia) (by lia) (by lia) (by lia) n (by lia) (by lia) (by lia);refine⟨i,hi,?_⟩;unfold mkQ;dsimp only;lia
theorem btw{e:Int}(h:i<=n):min a (a+n*e)<=a+i*e/\a+i*e<=max a (a+n*e):=by
 rcases LN 0 e with g|g
 ·have k1:=Int.mul_nonneg (NW i) g;have k2:=Int.mul_le_mul_of_nonneg_right (Qi.mpr h) g;generalize (i:Int)*e=u at *;generalize (n:Int)*e=v at *;exact⟨LZ (Mh _ _) (by lia),LZ (by lia) (Mu _ _)⟩
 have k1:=Int.mul_nonpos_of_nonneg_of_nonpos (NW i) g;have k2:=Int.mul_le_mul_of_nonpos_right (Qi.mpr h) g;generalize (i:Int)*e=u at *;generalize (n:Int)*e=v at *;exact⟨LZ (Mt _ _) (by lia),LZ (by lia) (Mi _ _)⟩
noncomputable def DU:List (Int×Int):=[(1,0),(1,1),(0,1),(-1,1),(-1,0),(-1,-1),(0,-1),(1,-1)]
theorem FG{b r U:Int}(h:a<=b)(k:8*(b-r)<=U):8*(a-r)<=U:=by lia
theorem EL{b r U:Int}(h:b<=a)(k:U<=8*(b+r)):U<=8*(a+r):=by lia
theorem FD{r R:Int}{d:Int×Int}(ex:x'=x+n*d.1)(ey:y'=y+n*d.2)(hi:i<=n)(g:inL (mkQ r R (x+i*d.1) (y+i*d.2)) q):inL (swQ r R x y x' y') q:=by have u1:=btw (a:=x) (e:=d.1) hi;have u2:=btw (a:=y) (e:=d.2) hi;have u3:=btw (a:=x+y) (e:=d.1+d.2) hi;have u4:=btw (a:=x-y) (e:=d.1-d.2) hi;rw[PN,PN,show x+y+(n*d.1+n*d.2)=x'+y' by rw[ex,ey];lia,show x+y+(i*d.1+i*d.2)=x+i*d.1+(y+i*d.2) by lia]at u3;rw[Qr,Qr,show x-y+(n*d.1-n*d.2)=x'-y' by rw[ex,ey];lia,show x-y+(i*d.1-i*d.2)=x+i*d.1-(y+i*d.2) by lia]at u4;rw[<-ex]at u1;rw[<-ey]at u2;obtain⟨⟨⟨k1,k2⟩,k3,k4⟩,⟨k5,k6⟩,k7,k8⟩:=g;exact⟨⟨⟨FG u1.1 k1,EL u1.2 k2⟩,FG u2.1 k3,EL u2.2 k4⟩,⟨FG u3.1 k5,EL u3.2 k6⟩,FG u4.1 k7,EL u4.2 k8⟩
theorem HH{n:Int}:n * -1=-n/\n*1=n/\n*0=0:=⟨by lia,PJ n,Int.mul_zero n⟩
theorem He{r R:Int}(h4:q.2.2<4)(h0:1<=r)(h1:r<R)(h2:R<2*r){d:Int×Int}(hd:d∈DU)(ex:x'=x+n*d.1)(ey:y'=y+n*d.2):inL (swQ r R x y x' y') q↔∃i:Nat,i<=n/\inL (mkQ r R (x+i*d.1) (y+i*d.2)) q:=by
 constructor
 ·intro h;simp only[DU,m_,Ms,or_false]at hd;have bk:∀{i:Nat},i<=n->((n-i:Nat):Int)=n-i:=fun h=>Qd h;rcases hd with rfl|rfl|rfl|rfl|rfl|rfl|rfl|rfl <;> simp only[HH,Oo]at ex ey ⊢
  ·subst ex ey;exact KN h4 h0 h1 h2 h
  ·subst ex ey;exact JW h4 h0 h1 h2 h
  ·subst ex ey;exact Ja h4 h0 h1 h2 h
  ·rw[kL,show x=x'+n by lia,show y=y'-n by lia]at h;obtain⟨i,hi,g⟩:=JY h4 h0 h1 h2 h;exact⟨n-i,Mr _ _,by rw[bk hi,show x + -((n:Int)-i)=x'+i by lia,show y+((n:Int)-i)=y'-i by lia];exact g⟩
  ·rw[kL,show x=x'+n by lia,ey]at h;obtain⟨i,hi,g⟩:=KN h4 h0 h1 h2 h;exact⟨n-i,Mr _ _,by rw[bk hi,show x + -((n:Int)-i)=x'+i by lia];exact g⟩
  ·rw[kL,show x=x'+n by lia,show y=y'+n by lia]at h;obtain⟨i,hi,g⟩:=JW h4 h0 h1 h2 h;exact⟨n-i,Mr _ _,by rw[bk hi,show x + -((n:Int)-i)=x'+i by lia,show y + -((n:Int)-i)=y'+i by lia];exact g⟩
  ·rw[kL,ex,show y=y'+n by lia]at h;obtain⟨i,hi,g⟩:=Ja h4 h0 h1 h2 h;exact⟨n-i,Mr _ _,by rw[bk hi,show y + -((n:Int)-i)=y'+i by lia];exact g⟩
  rw[ex,show y'=y-n by lia]at h;exact JY h4 h0 h1 h2 h
 rintro⟨i,hi,g⟩;exact FD ex ey hi g
noncomputable def stp(k:Nat):Int×Int:=DU.getD k (0,0)
noncomputable def gon(a:Pt)(k:Nat)(m:Int):Pt:=(a.1+(stp k).1*m,a.2+(stp k).2*m)
noncomputable def mny(a b:Pt):Int:=max ((b.1-a.1).natAbs:Int) ((b.2-a.2).natAbs:Int)
noncomputable def uf(a b:Pt):Option (Nat×Int):=if mny a b=0 then none else((A_ 8).find? fun k=>decide (gon a k (mny a b)=b)).map fun k=>(k,mny a b)
noncomputable def gOn(w:Pt×Pt)(c:Pt):Bool:=if c=w.2 then true else match uf w.1 c with
 |none=>false
 |some (k,m)=>match uf w.1 w.2 with
  |none=>decide (m=1)
  |some (k',m')=>decide (k=k'/\m=m'+1)
noncomputable def WOk(w:Pt×Pt):Prop:=∃k,k<8/\∃n:Nat,w.2=gon w.1 k n
noncomputable def onW(w:Pt×Pt)(p:Pt):Prop:=∃k,k<8/\∃n i:Nat,i<=n/\w.2=gon w.1 k n/\p=gon w.1 k i
theorem Bu{k:Nat}(h:k<8):stp k∈DU/\-1<=(stp k).1/\(stp k).1<=1/\-1<=(stp k).2/\(stp k).2<=1/\((stp k).1=1\/(stp k).1=-1\/(stp k).2=1\/(stp k).2=-1):=by
 have:k=0\/k=1\/k=2\/k=3\/k=4\/k=5\/k=6\/k=7:=by lia
 rcases this with rfl|rfl|rfl|rfl|rfl|rfl|rfl|rfl <;> decide
theorem Eg{k k':Nat}(h:k<8)(h':k'<8)(e:stp k=stp k'):k=k':=by
 have d:∀k<8,∀k'<8,stp k=stp k'->k=k':=by decide
 exact d k h k' h' e
theorem tX{a:Pt}{k:Nat}(h:k<8):mny a (gon a k n)=n:=by
 have e:∀x d:Int,((x+d*n-x).natAbs:Int)=(d.natAbs:Int)*n:=fun x d=>by rw[MI,Int.add_sub_cancel,Int.natAbs_mul,Int.natAbs_natCast,Int.natCast_mul]
 have c:∀k<8,((stp k).1.natAbs=1\/(stp k).1.natAbs=0/\(stp k).2.natAbs=1)/\(stp k).2.natAbs<=1:=by decide
 obtain⟨c1,c2⟩:=c k h;unfold mny gon;dsimp only;rw[e,e];rcases c1 with g|⟨g,g'⟩
 ·rw[g,O3,PQ];refine MP ?_;rcases Nat.le_one_iff_eq_zero_or_eq_one.mp c2 with z|z <;> rw[z]
  ·rw[PX,Qj];exact NW n
  rw[O3,PQ];exact Mm _
 rw[g,g',PX,Qj,O3,PQ];exact MK (NW n)
theorem zR{a:Pt}{k k' n':Nat}(h:k<8)(h':k'<8)(e:gon a k n=gon a k' n'):n=n'/\(n=0\/k=k'):=by
 have e1:n=n':=by have:=tX (a:=a) (n:=n) h;rw[e,tX h']at this;lia
 subst e1;refine⟨rfl,?_⟩;by_cases z:n=0
 ·exact .inl z
 refine .inr (Eg h h' ?_);unfold gon at e;obtain⟨e1,e2⟩:=Qq e;have f:∀{u v:Int},u*(n:Int)=v*(n:Int)->u=v:=fun g=>Int.eq_of_mul_eq_mul_right (by lia) g
 exact M7 (f (by lia)) (f (by lia))
theorem mO{a b:Pt}{k:Nat}{m:Int}(h:uf a b=some (k,m)):k<8/\∃n:Nat,1<=n/\m=n/\b=gon a k n:=by
 unfold uf at h;split at h
 ·cases h
 rename_i z;cases e:(A_ 8).find? fun k=>decide (gon a k (mny a b)=b)with
 |none=>rw[e]at h;cases h
 |some j=>
  rw[e]at h;cases h;have h1:=List.mem_of_find?_eq_some e;have h2:decide (gon a k (mny a b)=b)=true:=List.find?_some (p:=fun k=>decide (gon a k (mny a b)=b)) e;have h2:=of_decide_eq_true h2;refine⟨Kk.mp h1,(mny a b).toNat,?_,?_,?_⟩
  ·unfold mny at *;lia
  ·unfold mny at *;lia
  rw[show((mny a b).toNat:Int)=mny a b by unfold mny at *;lia];exact h2.symm
theorem E3{a:Pt}{k:Nat}(h:k<8)(hn:1<=n):uf a (gon a k n)=some (k,(n:Int)):=by
 have e:mny a (gon a k n)=n:=tX h;cases s:uf a (gon a k n)with
 |some p=>
  obtain⟨k',m⟩:=p;obtain⟨h',n',h1,rfl,h2⟩:=mO s;obtain⟨rfl,z|rfl⟩:=zR h h' h2
  ·lia
  ·rfl
 |none=>
  unfold uf at s;rw[if_neg (by rw[e];lia),Option.map_eq_none_iff,List.find?_eq_none]at s;have:=s k (Kk.mpr h);rw[e]at this;simp at this
variable {w:Pt×Pt}
theorem fI{k:Nat}(h:k<8)(e:w.2=gon w.1 k n):onW w p↔∃i:Nat,i<=n/\p=gon w.1 k i:=by
 constructor
 ·rintro⟨k',h',n',i,hi,e',rfl⟩;obtain⟨rfl,z|rfl⟩:=zR h h' (e.symm.trans e')
  ·have:i=0:=by lia
   subst this;exact⟨0,D' _,by unfold gon;simp⟩
  exact⟨i,hi,rfl⟩
 rintro⟨i,hi,rfl⟩;exact⟨k,h,n,i,hi,e,rfl⟩
theorem A4{c:Pt}:WOk (c,c)/\∀p,onW (c,c) p↔p=c:=by
 have e:c=gon c 0 (0:Nat):=by unfold gon;simp
 refine⟨⟨0,by decide,0,e⟩,fun p=>?_⟩;rw[fI (w:=(c,c)) (k:=0) (n:=0) (by decide) e];constructor
 ·rintro⟨i,hi,rfl⟩;rw[Nat.le_zero.mp hi];exact e.symm
 rintro rfl;exact⟨0,b_ _,e⟩
theorem Hx{c:Pt}(hw:WOk w)(h:gOn w c=true):WOk (w.1,c)/\∀p,onW (w.1,c) p↔onW w p\/p=c:=by
 obtain⟨k,hk,n,e⟩:=hw;unfold gOn at h;split at h
 ·rename_i z;subst z;refine⟨⟨k,hk,n,e⟩,fun p=>⟨.inl,?_⟩⟩;rintro(g|rfl)
  ·exact g
  exact(fI hk e).mpr ⟨n,b_ _,e⟩
 rename_i z;have step:∀{k' n':Nat},k'<8->w.2=gon w.1 k' n'->c=gon w.1 k' (n'+1:Nat)->WOk (w.1,c)/\∀p,onW (w.1,c) p↔onW w p\/p=c:=by
  intro k' n' h' e' ec;refine⟨⟨k',h',n'+1,ec⟩,fun p=>?_⟩;rw[fI (w:=(w.1,c)) h' ec,fI h' e'];constructor
  ·rintro⟨i,hi,rfl⟩;by_cases g:i<=n'
   ·exact .inl ⟨i,g,rfl⟩
   have:i=n'+1:=by lia
   subst this;exact .inr ec.symm
  rintro(⟨i,hi,rfl⟩|rfl)
  ·exact⟨i,by lia,rfl⟩
  exact⟨n'+1,b_ _,ec⟩
 split at h
 ·cases h
 rename_i k1 m1 s1;obtain⟨h1,n1,g1,rfl,e1⟩:=mO s1;split at h
 ·rename_i s2;have hm:=of_decide_eq_true h;have n0:n=0:=by
   by_cases q:n=0
   ·exact q
   rw[e,E3 hk (by lia)]at s2;cases s2
  subst n0;refine step h1 (n':=0) (by rw[e];unfold gon;simp) ?_;rw[e1,show n1=0+1 by lia]
 rename_i k2 m2 s2;obtain⟨h2,n2,g2,rfl,e2⟩:=mO s2;obtain⟨rfl,hm⟩:=of_decide_eq_true h;refine step h2 e2 ?_;rw[e1,show n1=n2+1 by lia]
theorem Bh{r R:Int}(h4:q.2.2<4)(h0:1<=r)(h1:r<R)(h2:R<2*r)(hw:WOk w):inL (swQ r R w.1.1 w.1.2 w.2.1 w.2.2) q↔∃p,onW w p/\inL (mkQ r R p.1 p.2) q:=by
 obtain⟨k,hk,n,e⟩:=hw;rw[He (n:=n) h4 h0 h1 h2 (Bu hk).1 (by rw[e,NC];rfl) (by rw[e,NC];rfl)];constructor
 ·rintro⟨i,hi,g⟩;refine⟨gon w.1 k i,(fI hk e).mpr ⟨i,hi,rfl⟩,?_⟩;unfold gon;rw[NC (stp k).1,NC (stp k).2];exact g
 rintro⟨p,hp,g⟩;obtain⟨i,hi,rfl⟩:=(fI hk e).mp hp;refine⟨i,hi,?_⟩;unfold gon at g;rw[NC (stp k).1,NC (stp k).2]at g;exact g
noncomputable def wy1(l:Int)(cz:Pt×Int)(s:List (Pt×Pt)×Bool):List (Pt×Pt)×Bool:=if cz.2<=l then(s.1,false)else match s.1 with
 | []=>([(cz.1,cz.1)],true)
 |w::W=>if s.2&&gOn w cz.1 then((w.1,cz.1)::W,true)else((cz.1,cz.1)::w::W,true)
noncomputable def wys(l:Int):List (Pt×Int)->List (Pt×Pt)×Bool->List (Pt×Pt)×Bool
 | [],s=>s
 |cz::ps,s=>wys l ps (wy1 l cz s)
noncomputable def onU(W:List (Pt×Pt))(p:Pt):Prop:=∃w∈W,onW w p
theorem uZ{l:Int}:∀{ps:List (Pt×Int)}{W:List (Pt×Pt)}{b:Bool},(∀w∈W,WOk w)->(∀w∈(wys l ps (W,b)).1,WOk w)/\(∀p,onU (wys l ps (W,b)).1 p↔onU W p\/∃z,(p,z)∈ps/\l<z)/\(wys l ps (W,b)).1.length<=W.length+ps.length
 | [],W,b,h=>⟨h,fun p=>⟨.inl,fun g=>g.elim id fun⟨z,m,_⟩=>by cases m⟩,b_ _⟩
 | (c,z)::ps,W,b,h=>by
  rw[wys,wy1];dsimp only;have add:∀{W2:List (Pt×Pt)}{b2:Bool},(∀w∈W2,WOk w)->(∀p,onU W2 p↔onU W p\/p=c/\l<z)->W2.length<=W.length+1->(∀w∈(wys l ps (W2,b2)).1,WOk w)/\(∀p,onU (wys l ps (W2,b2)).1 p↔onU W p\/∃z',(p,z')∈(c,z)::ps/\l<z')/\(wys l ps (W2,b2)).1.length<=W.length+(ps.length+1):=by
   intro W2 b2 a1 a2 a3;obtain⟨i1,i2,i3⟩:=uZ (l:=l) (ps:=ps) (W:=W2) (b:=b2) a1;refine⟨i1,fun p=>?_,by lia⟩;rw[i2 p,a2 p,or_assoc];refine or_congr_right ⟨?_,?_⟩
   ·rintro(⟨rfl,hz⟩|⟨z',m,hz⟩)
    ·exact⟨z,o_,hz⟩
    exact⟨z',k_ _ m,hz⟩
   rintro⟨z',m,hz⟩;rcases m_.mp m with e|m
   ·cases e;exact .inl ⟨rfl,hz⟩
   exact .inr ⟨z',m,hz⟩
  have cons:∀{v:Pt×Pt}{V:List (Pt×Pt)}{p:Pt},onU (v::V) p↔onW v p\/onU V p:=by intro v V p;unfold onU;simp only[m_,exists_eq_or_imp]
  by_cases g:z<=l
  ·rw[if_pos g];exact add h (fun p=>⟨.inl,fun q=>q.elim id fun⟨_,hz⟩=>absurd hz (by lia)⟩) (by lia)
  rw[if_neg g];have new:(∀w∈(c,c)::W,WOk w)/\∀p,onU ((c,c)::W) p↔onU W p\/p=c/\l<z:=by refine⟨fun w m=>(m_.mp m).elim (fun e=>e▸A4.1) (h w),fun p=>?_⟩;rw[cons,A4.2,or_comm];exact or_congr_right ⟨fun e=>⟨e,by lia⟩,fun e=>e.1⟩
  cases W with
  |nil=>exact add new.1 new.2 (b_ _)
  |cons w W'=>
   show _/\_;dsimp only;by_cases gb:(b&&gOn w c)=true
   ·rw[if_pos gb];rw[LW]at gb;obtain⟨k1,k2⟩:=Hx (h w o_) gb.2;refine add (fun v m=>(m_.mp m).elim (fun e=>e▸k1) fun m=>h v (k_ _ m)) (fun p=>?_) (by rw[h_,h_];lia);rw[cons,cons,k2];constructor
    ·rintro((q|rfl)|q)
     ·exact .inl (.inl q)
     ·exact .inr ⟨rfl,by lia⟩
     exact .inl (.inr q)
    rintro((q|q)|⟨rfl,_⟩)
    ·exact .inl (.inl q)
    ·exact .inr q
    exact .inl (.inr rfl)
   rw[if_neg gb];exact add new.1 new.2 (b_ _)
variable {d:Int}
theorem mxn{b:Int}:(max a b+min c d<=max (a+c) (b+d)/\min (a+c) (b+d)<=min a b+max c d)/\min (a-c) (b-d)+min c d<=min a b/\max a b<=max (a-c) (b-d)+max c d:=by
 refine⟨⟨?_,?_⟩,?_,?_⟩
 ·rcases LN a b with h|h
  ·rw[MK h];exact LZ (NO (Mt _ _) _) (Mu _ _)
  rw[MP h];exact LZ (NO (Mh _ _) _) (Mi _ _)
 ·rcases LN a b with h|h
  ·rw[M6 h];exact LZ (Mh _ _) (NO (Mi _ _) _)
  rw[M0 h];exact LZ (Mt _ _) (NO (Mu _ _) _)
 ·refine P8.mpr ⟨?_,?_⟩
  ·have:=M1 (Mh (a-c) (b-d)) (Mh c d);rwa[NX]at this
  have:=M1 (Mt (a-c) (b-d)) (Mt c d);rwa[NX]at this
 refine ON.mpr ⟨?_,?_⟩
 ·have:=M1 (Mi (a-c) (b-d)) (Mi c d);rwa[NX]at this
 have:=M1 (Mu (a-c) (b-d)) (Mu c d);rwa[NX]at this
theorem mm{b:Int}:min a b<=max a b:=LZ (Mh _ _) (Mi _ _)
theorem FR{r R:Int}(h0:1<=r)(h1:r<R)(h2:R<2*r):Vo (swQ r R w.1.1 w.1.2 w.2.1 w.2.2):=by
 unfold Vo swQ;dsimp only;generalize w.1.1=x;generalize w.1.2=y;generalize w.2.1=x';generalize w.2.2=y';have m1:=mm (a:=x) (b:=x');have m2:=mm (a:=y) (b:=y');have m3:=mm (a:=x+y) (b:=x'+y');have m4:=mm (a:=x-y) (b:=x'-y');obtain⟨⟨n1,n2⟩,n3,n4⟩:=mxn (a:=x) (b:=x') (c:=y) (d:=y');have n5:min (x+y) (x'+y')+min (x-y) (x'-y')<=2*min x x':=by
  rcases LN x x' with h|h
  ·have:=M1 (Mh (x+y) (x'+y')) (Mh (x-y) (x'-y'));rw[M6 h];lia
  have:=M1 (Mt (x+y) (x'+y')) (Mt (x-y) (x'-y'));rw[M0 h];lia
 have n6:2*max x x'<=max (x+y) (x'+y')+max (x-y) (x'-y'):=by
  rcases LN x x' with h|h
  ·have:=M1 (Mu (x+y) (x'+y')) (Mu (x-y) (x'-y'));rw[MK h];lia
  have:=M1 (Mi (x+y) (x'+y')) (Mi (x-y) (x'-y'));rw[MP h];lia
 generalize min x x'=a1 at *;generalize max x x'=a2 at *;generalize min y y'=a3 at *;generalize max y y'=a4 at *;generalize min (x+y) (x'+y')=a5 at *;generalize max (x+y) (x'+y')=a6 at *;generalize min (x-y) (x'-y')=a7 at *;generalize max (x-y) (x'-y')=a8 at *;clear x y x' y';refine⟨⟨?_,?_⟩,⟨?_,?_⟩,⟨?_,?_⟩,⟨?_,?_⟩,?_,?_⟩ <;> lia
variable {C:Int}
theorem Jv{r R B:Int}(h1:-C<=w.1.1/\w.1.1<=C/\-C<=w.1.2/\w.1.2<=C)(h2:-C<=w.2.1/\w.2.1<=C/\-C<=w.2.2/\w.2.2<=C)(h:C+r<=B):Bd B (swQ r R w.1.1 w.1.2 w.2.1 w.2.2):=by unfold Bd swQ;dsimp only;lia
inductive Od where
 |tk (i:Nat)
 |ov (hi:Bool) (x y:Int)
 |ct (ps:List (Pt×Int))
noncomputable def wls(l:Int):List Od->Nat->List (Nat×Pt×Pt)
 | [],_=>[]
 | .tk i::P,_=>wls l P i
 | .ov _ _ _::P,t=>wls l P t
 | .ct ps::P,t=>((wys l ps ([],false)).1.reverse.map fun w=>(t,w))++wls l P t
noncomputable def sps(l:Int):List Od->Nat->List (Nat×Pt)
 | [],_=>[]
 | .tk i::P,_=>sps l P i
 | .ov _ _ _::P,t=>sps l P t
 | .ct ps::P,t=>((ps.filter fun p=>decide (l<p.2)).map fun p=>(t,p.1))++sps l P t
theorem qJ{l:Int}:∀{P:List Od}{t:Nat},(∀v∈wls l P t,WOk v.2)/\∀i p,(∃v∈wls l P t,v.1=i/\onW v.2 p)↔(i,p)∈sps l P t
 | [],t=>⟨(fun v m=>by cases m),fun i p=>⟨(fun⟨v,m,_⟩=>by cases m),fun m=>by cases m⟩⟩
 | .tk i::P,t=>qJ (P:=P) (t:=i)
 | .ov _ _ _::P,t=>qJ (P:=P) (t:=t)
 | .ct ps::P,t=>by
  obtain⟨a1,a2⟩:=qJ (l:=l) (P:=P) (t:=t);obtain⟨b1,b2,_⟩:=uZ (l:=l) (ps:=ps) (W:=[]) (b:=false) fun w m=>by cases m
  rw[wls,sps];refine⟨fun v m=>?_,fun i p=>?_⟩
  ·rcases x_.mp m with m|m
   ·obtain⟨w,mw,rfl⟩:=r_.mp m;exact b1 w (Nd.mp mw)
   exact a1 v m
  rw[x_,<-a2 i p];constructor
  ·rintro⟨v,m,rfl,h⟩;rcases x_.mp m with m|m
   ·obtain⟨w,mw,rfl⟩:=r_.mp m;obtain u|⟨z,mz,hz⟩:=(b2 p).mp ⟨w,Nd.mp mw,h⟩
    ·obtain⟨_,z,_⟩:=u;cases z
    exact .inl (r_.mpr ⟨(p,z),LR.mpr ⟨mz,decide_eq_true hz⟩,rfl⟩)
   exact .inr ⟨v,m,rfl,h⟩
  rintro(m|⟨v,m,rfl,h⟩)
  ·obtain⟨⟨c,z⟩,mc,e⟩:=r_.mp m;cases e;obtain⟨m1,m2⟩:=LR.mp mc;obtain⟨w,mw,h⟩:=(b2 c).mpr (.inr ⟨z,m1,of_decide_eq_true m2⟩);exact⟨_,y_ _ (r_.mpr ⟨w,Nd.mpr mw,rfl⟩),rfl,h⟩
  exact⟨v,n_ _ m,rfl,h⟩
noncomputable def E4(t:Int×Int):Prop:=1<=t.1/\t.1<t.2/\t.2<2*t.1
noncomputable def swT(t:Int×Int)(w:Pt×Pt):Oc:=swQ t.1 t.2 w.1.1 w.1.2 w.2.1 w.2.2
noncomputable def mkT(t:Int×Int)(p:Pt):Oc:=mkQ t.1 t.2 p.1 p.2
variable {P:List Od}
theorem J7{l:Int}{t:Nat}{T:Nat->Int×Int}(ho:∀o,o∈os↔∃v∈wls l P t,o=swT (T v.1) v.2)(ht:∀v∈sps l P t,E4 (T v.1))(h4:q.2.2<4):inU os q↔∃v∈sps l P t,inL (mkT (T v.1) v.2) q:=by
 obtain⟨a1,a2⟩:=qJ (l:=l) (P:=P) (t:=t);have tl:∀v∈wls l P t,E4 (T v.1):=fun v m=>by obtain⟨k,hk,n,e⟩:=a1 v m;exact ht (v.1,v.2.1) ((a2 _ _).mp ⟨v,m,rfl,(fI hk e).mpr ⟨0,D' _,by unfold gon;simp⟩⟩)
 constructor
 ·rintro⟨o,mo,h⟩;obtain⟨v,mv,rfl⟩:=(ho o).mp mo;obtain⟨k0,k1,k2⟩:=tl v mv;obtain⟨p,hp,g⟩:=(Bh h4 k0 k1 k2 (a1 v mv)).mp h;exact⟨(v.1,p),(a2 _ _).mp ⟨v,mv,rfl,hp⟩,g⟩
 rintro⟨⟨i,p⟩,m,g⟩;obtain⟨v,mv,rfl,hp⟩:=(a2 i p).mpr m;obtain⟨k0,k1,k2⟩:=tl v mv;exact⟨_,(ho _).mpr ⟨v,mv,rfl⟩,(Bh h4 k0 k1 k2 (a1 v mv)).mpr ⟨p,hp,g⟩⟩
abbrev Ed:=Pt×Pt
noncomputable def edT(e:Ed):T:=.tup [ptP e.1,ptP e.2]
variable {e:Ed}
theorem nC:er (edT e)=edT e:=rfl
theorem fx:cg (edT e)=true:=rfl
theorem dA:aW (edT e)=true:=rfl
theorem dh:isAny (edT e)=false:=rfl
theorem iB{k:T->Prop}:ixT (edT e) (.int 0) k=k (ptP e.1):=rfl
theorem ji{k:T->Prop}:ixT (edT e) (.int 1) k=k (ptP e.2):=rfl
theorem se{q:Pt}:uf p q=(lead p q).map fun d=>(d,far p q):=by
 unfold uf lead;by_cases h:far p q=0
 ·rw[if_pos h,if_pos (show mny p q=0 from h)];rfl
 rw[if_neg h,if_neg (show ¬mny p q=0 from h)];rfl
theorem CN{c:Pt}(h:¬c=w.2):gOn w c=match lead w.1 c with
 |none=>false
 |some d=>match lead w.1 w.2 with
  |none=>decide (far w.1 c=1)
  |some d'=>decide (d=d'/\far w.1 c=far w.1 w.2+1):=by
 unfold gOn;rw[if_neg h,se,se];cases lead w.1 c with
 |none=>rfl
 |some d=>cases lead w.1 w.2 <;> rfl
theorem vd{L:α}{Ls:List α}{g:α->T}:atI ((L::Ls).reverse.map g) (-1)=some (g L):=by
 unfold atI ixN;rw[if_neg (by decide),if_pos (by rw[a_,LU,h_];lia)];show(G' g (L::Ls).reverse)[_]?=_;rw[B',show(-1+(((L::Ls).reverse.map g).length:Int)).toNat=Ls.reverse.length by rw[a_,LU,h_,LU];lia,Ny,OA]
 rfl
section
variable{α:Type}{ρ:α->List Int}
noncomputable def dG(ρ:α->List Int)(l:List α):List (List Key×T):=l.map fun a=>(kI (ρ a),T.bl true)
noncomputable def nB(ρ:α->List Int)(l:List α)(a:α):List α:=if ρ a∈l.map ρ then l else l++[a]
noncomputable def ck(ρ:α->List Int)(l:List α):List α->List α
 | []=>l
 |a::r=>ck ρ (nB ρ l a) r
theorem tL{l:List α}{a:α}:lN (dG ρ l) (kI (ρ a)) (.bl true)=dG ρ (nB ρ l a):=by
 unfold lN dG nB;by_cases m:ρ a∈l.map ρ
 ·rw[if_pos m,if_pos]
  ·rw[A'];refine Mx fun r mr=>?_;show(if kI (ρ r)=kI (ρ a)then(kI (ρ r),T.bl true)else(kI (ρ r),T.bl true))=_;split <;> rfl
  obtain⟨b,mb,e⟩:=r_.mp m;exact Ni.mpr ⟨_,r_.mpr ⟨b,mb,rfl⟩,decide_eq_true (congrArg kI e)⟩
 rw[if_neg m,if_neg]
 ·rw[p_]
  rfl
 intro g;obtain⟨kv,mk,e⟩:=Ni.mp g;obtain⟨b,mb,rfl⟩:=r_.mp mk;exact m (IW (of_decide_eq_true e)▸Mk mb)
theorem qQ(l:List α):(dG ρ l).length=l.length:=a_ ..
theorem nO(l:List α):erT (dG ρ l)=dG ρ l:=by
 unfold dG;induction l with
 |nil=>rfl
 |cons a l ih=>rw[g_,erT,ih];rfl
theorem dq(l:List α):nh (dG ρ l)=true:=by
 unfold dG;induction l with
 |nil=>rfl
 |cons a l ih=>rw[g_,nh,ih];rfl
theorem eX(l:List α):oy (dG ρ l)=true:=by
 unfold dG;induction l with
 |nil=>rfl
 |cons a l ih=>rw[g_,oy,ih];rfl
theorem GZ(r:List Int):kyT (kI r)=iT r:=by
 unfold kyT kI iT;rw[A']
 rfl
theorem sh(l:List α):(dG ρ l).map (fun p=>kyT p.1)=l.map fun a=>iT (ρ a):=by unfold dG;rw[A'];exact Mx fun a _=>GZ _
variable(inj:∀a b,ρ a=ρ b->a=b)
include inj
theorem CK{l:List α}{a x:α}:x∈nB ρ l a↔x∈l\/x=a:=by
 unfold nB;by_cases m:ρ a∈l.map ρ
 ·rw[if_pos m];obtain⟨b,mb,e⟩:=r_.mp m;cases inj _ _ e;exact⟨.inl,fun h=>h.elim id fun e=>e▸mb⟩
 rw[if_neg m,x_,w_]
theorem EN{l:List α}{a:α}(h:l.Nodup):(nB ρ l a).Nodup:=by
 unfold nB;by_cases m:ρ a∈l.map ρ
 ·rw[if_pos m];exact h
 rw[if_neg m,MT];exact⟨h,G_.mpr ⟨(nomatch ·),MY⟩,fun b hb c hc e=>by rw[w_.mp hc]at e;exact m (e▸Mk hb)⟩
theorem fq:∀{r l:List α}{x:α},x∈ck ρ l r↔x∈l\/x∈r
 | [],_,x=>⟨.inl,fun h=>h.elim id (nomatch ·)⟩
 |a::r,l,x=>by rw[ck,fq,CK inj,m_,or_assoc]
theorem zm:∀{r l:List α},l.Nodup->(ck ρ l r).Nodup
 | [],_,h=>h
 |a::r,l,h=>zm (r:=r) (EN inj h)
omit inj
theorem Bk{l:List α}{a:α}(h:ρ a ∉ l.map ρ):nB ρ l a=l++[a]:=if_neg h
theorem BK{l:List α}{a:α}:(nB ρ l a).length<=l.length+1:=by
 unfold nB;by_cases m:ρ a∈l.map ρ
 ·rw[if_pos m];lia
 rw[if_neg m,d_];exact b_ _
theorem cQ:∀{r l:List α},(ck ρ l r).length<=l.length+r.length
 | [],_=>b_ _
 |a::r,l=>by have h1:=cQ (r:=r) (l:=nB ρ l a);have h2:=BK (ρ:=ρ) (l:=l) (a:=a);rw[ck,h_];lia
theorem eV:∀{r l s:List α},ck ρ l (r++s)=ck ρ (ck ρ l r) s
 | [],_,_=>rfl
 |a::r,l,s=>eV (r:=r) (l:=nB ρ l a)
theorem rT{l r:List α}{a:α}(h:r[i]?=some a):ck ρ l (r.take (i+1))=nB ρ (ck ρ l (r.take i)) a:=by
 rw[LP,h,eV]
 rfl
end
noncomputable def cp(q:Qt):List Int:=[q.1,q.2.1,(q.2.2:Int)]
theorem pP(q r:Qt)(h:cp q=cp r):q=r:=by unfold cp at h;simp only[MO,and_true]at h;exact M7 h.1 (M7 h.2.1 (by have:=h.2.2;lia))
noncomputable def eT(v:Nat×Pt):List Int:=[(v.1:Int),v.2.1,v.2.2]
theorem pQ(v w:Nat×Pt)(h:eT v=eT w):v=w:=by unfold eT at h;simp only[MO,and_true]at h;exact M7 (by have:=h.1;lia) (M7 h.2.1 h.2.2)
theorem EF(o p:Oc)(h:ocL o=ocL p):o=p:=by
 obtain⟨a,b,c,d,e,f,g,i⟩:=o;unfold ocL at h;simp only[MO,and_true]at h;obtain⟨h1,h2,h3,h4,h5,h6,h7,h8⟩:=h;subst h1 h2 h3 h4 h5 h6 h7 h8
 rfl
theorem Az(v:Nat×Pt):iT (eT v)=.tup [.int (v.1:Int),.int v.2.1,.int v.2.2]:=rfl
theorem B0(q:Qt):iT (cp q)=.tup [.int q.1,.int q.2.1,.int (q.2.2:Int)]:=rfl
theorem iI{kvs:List (List Key×T)}{t:T}{k:T->Prop}:wM (.dT true kvs) (ocT o) t k=wM (.dT true kvs) (.tup [.int o.a,.int o.b,.int o.c,.int o.d,.int o.e,.int o.f,.int o.g,.int o.h]) t k:=rfl
abbrev Tl:=Int×Int×Int×Int×Int
noncomputable def tvT(t:Tl):T:=.tup [.int t.1,.int t.2.1,.int t.2.2.1,.int t.2.2.2.1,.int t.2.2.2.2]
noncomputable def tlO(t:Tl):Prop:=2<=t.1/\t.1<=6/\1<=t.2.1/\t.2.1<t.1
noncomputable def tR(tl:List Tl)(i:Nat):Int×Int:=((tl.getD i (0,0,0,0,0)).1,(tl.getD i (0,0,0,0,0)).1+(tl.getD i (0,0,0,0,0)).2.1)
variable {t:Tl}
theorem nQ:er (tvT t)=tvT t:=rfl
theorem d8:isAny (tvT t)=false:=rfl
theorem de:aW (tvT t)=true:=rfl
theorem fF:cg (tvT t)=true:=rfl
theorem jl{k:T->Prop}:ixT (tvT t) (.int 0) k=k (.int t.1):=rfl
theorem jw{k:T->Prop}:ixT (tvT t) (.int 1) k=k (.int t.2.1):=rfl
abbrev Plc:=Pt×Int
noncomputable def plT(p:Plc):T:=.tup [.int p.1.1,.int p.1.2,.int p.2]
theorem jP{p:Plc}:er (plT p)=plT p:=rfl
theorem cG{p:Plc}:aW (plT p)=true:=rfl
theorem eP{p:Plc}:cg (plT p)=true:=rfl
noncomputable def odT:Od->T
 | .tk i=>.tup [.str "take",.int (i:Int)]
 | .ov _ x y=>.tup [.str "over",.str "high",.int x,.int y]
 | .ct ps=>.tup [.str "cut",.tup (ps.map plT)]
theorem nR:odT (.tk i)=.tup [.str "take",.int (i:Int)]:=rfl
variable {b:Bool}
theorem mL:odT (.ov b x y)=.tup [.str "over",.str "high",.int x,.int y]:=rfl
variable {ps:List Plc}
theorem kA:odT (.ct ps)=.tup [.str "cut",.tup (ps.map plT)]:=rfl
theorem mE{o:Od}:er (odT o)=odT o:=by cases o <;> simp only[odT,er,erL,cy,jP]
theorem du{o:Od}:isAny (odT o)=false:=by cases o <;> rfl
theorem dm{o:Od}:aW (odT o)=true:=by cases o <;> simp only[odT,aW,bF,cq,cG,fJ,Nm,Pg]
theorem A7:(("over":Str)="take")=False:=by decide +kernel
theorem AR:(("cut":Str)="take")=False:=by decide +kernel
theorem AM:(("over":Str)="cut")=False:=by decide +kernel
theorem AU:(("take":Str)="cut")=False:=by decide +kernel
theorem A9:(("cut":Str)="over")=False:=by decide +kernel
theorem Ay:(("take":Str)="over")=False:=by decide +kernel
noncomputable def tlA:List Od->Nat->Nat
 | [],t=>t
 | .tk i::P,_=>tlA P i
 | .ov _ _ _::P,t=>tlA P t
 | .ct _::P,t=>tlA P t
theorem gp{l:Int}{o:Od}:∀{P:List Od}{t:Nat},wls l (P++[o]) t=wls l P t++wls l [o] (tlA P t)/\sps l (P++[o]) t=sps l P t++sps l [o] (tlA P t)/\tlA (P++[o]) t=tlA [o] (tlA P t)
 | [],t=>⟨rfl,rfl,rfl⟩
 | .tk i::P,t=>gp (P:=P) (t:=i)
 | .ov _ _ _::P,t=>gp (P:=P) (t:=t)
 | .ct ps::P,t=>by
  obtain⟨h1,h2,h3⟩:=gp (l:=l) (o:=o) (P:=P) (t:=t);refine⟨?_,?_,h3⟩
  ·show _++wls l (P++[o]) t=(_++wls l P t)++_;rw[h1,l_]
   rfl
  show _++sps l (P++[o]) t=(_++sps l P t)++_;rw[h2,l_]
  rfl
noncomputable def Br:Od->Nat
 | .ct ps=>ps.length
 | _=>0
noncomputable def nPl(P:List Od):Nat:=(P.map Br).sum
theorem oU{l:Int}:∀{P:List Od}{t:Nat},(wls l P t).length<=nPl P
 | [],t=>b_ _
 | .tk i::P,t=>by have:=oU (l:=l) (P:=P) (t:=i);show(wls l P i).length<=_;unfold nPl at *;rw[g_,MU];lia
 | .ov _ _ _::P,t=>by have:=oU (l:=l) (P:=P) (t:=t);show(wls l P t).length<=_;unfold nPl at *;rw[g_,MU];lia
 | .ct ps::P,t=>by have:=oU (l:=l) (P:=P) (t:=t);have:=(uZ (l:=l) (ps:=ps) (W:=[]) (b:=false) fun w m=>by cases m).2.2;unfold nPl at *;rw[wls,d_,a_,LU,g_,MU];show _<=ps.length+_;rw[Mf]at this;lia
theorem lL{l:Int}:∀{P:List Od}{t:Nat},(sps l P t).length<=nPl P
 | [],t=>b_ _
 | .tk i::P,t=>by have:=lL (l:=l) (P:=P) (t:=i);show(sps l P i).length<=_;unfold nPl at *;rw[g_,MU];lia
 | .ov _ _ _::P,t=>by have:=lL (l:=l) (P:=P) (t:=t);show(sps l P t).length<=_;unfold nPl at *;rw[g_,MU];lia
 | .ct ps::P,t=>by have:=lL (l:=l) (P:=P) (t:=t);unfold nPl at *;rw[sps,d_,a_,g_,MU];exact Nat.add_le_add (MB _ _) this
noncomputable def HQ(m:Nat)(C:Int):Od->Prop
 | .tk i=>i<m
 | .ov _ _ _=>True
 | .ct ps=>∀p∈ps,(-C<=p.1.1/\p.1.1<=C)/\-C<=p.1.2/\p.1.2<=C
noncomputable def OkP(m:Nat)(C:Int)(N:Nat)(P:List Od):Prop:=(∃i P',P=.tk i::P')/\P.length<=100/\nPl P<=N/\∀o∈P,HQ m C o
theorem sw_eq{r k:Int}{q:Pt}:swO r k p q=swT (r,r+k) (p,q):=by unfold swO mkO vD oc1 oc2 swT swQ;dsimp only;congr 1 <;> lia
theorem Jo{tl:List Tl}(h:j<tl.length):atI (tl.map tvT) (j:Int)=some (tvT (tl.getD j (0,0,0,0,0))):=by
 refine cA ?_;rw[B',c_ h,LY,c_ h]
 rfl
noncomputable def cw(l:Int)(tl:List Tl)(P:List Od):List Oc:=ck ocL [] ((wls l P 0).map fun v=>swT (tR tl v.1) v.2)
theorem vj{l:Int}{tl:List Tl}:o∈cw l tl P↔∃v∈wls l P 0,o=swT (tR tl v.1) v.2:=by unfold cw;rw[fq EF,r_];exact⟨fun h=>h.elim (nomatch ·) fun⟨v,m,e⟩=>⟨v,m,e.symm⟩,fun⟨v,m,e⟩=>.inr ⟨v,m,e.symm⟩⟩
theorem pxy(h:s<4):(0<px s/\px s<8)/\0<py s/\py s<8:=by
 match s,h with
 |0,_=>decide
 |1,_=>decide
 |2,_=>decide
 |3,_=>decide
noncomputable def edL:List (List Pt):=[[(1,0),(1,1)],[(0,1),(1,1)],[(0,0),(0,1)],[(0,0),(1,0)]]
noncomputable def ptM(q:Qt):List Pt:=(2*q.1+1,2*q.2.1+1)::(edL.getD q.2.2 []).map fun e=>(2*(q.1+e.1),2*(q.2.1+e.2))
noncomputable def inM(R:Int)(q:Qt):Bool:=(ptM q).all fun p=>decide ((p.1.natAbs:Int)+p.2.natAbs<=2*R)
theorem yL(h:s<4):atI [T.lst true [.tup [.int 1,.int 0],.tup [.int 1,.int 1]],.lst true [.tup [.int 0,.int 1],.tup [.int 1,.int 1]],.lst true [.tup [.int 0,.int 0],.tup [.int 0,.int 1]],.lst true [.tup [.int 0,.int 0],.tup [.int 1,.int 0]]] (s:Int)=some (.lst true ((edL.getD s []).map ptP))/\(edL.getD s []).length=2:=by
 match s,h with
 |0,_=>exact⟨rfl,rfl⟩
 |1,_=>exact⟨rfl,rfl⟩
 |2,_=>exact⟨rfl,rfl⟩
 |3,_=>exact⟨rfl,rfl⟩
theorem dU(f:α->Bool)(l:List α):boolsOf (l.map fun x=>T.bl (f x))=some (l.map f):=by
 induction l with
 |nil=>rfl
 |cons x l ih=>rw[g_,boolsOf,ih];rfl
instance (o:Oc) (q:Qt):Decidable (inL o q):=by unfold inL;infer_instance
theorem FJ:∀r∈[(2:Int),3,4,5,6],∀k∈[(1:Int),2,3,4,5],∀x∈A_ 12,∀y∈A_ 12,∀s∈A_ 4,(((-6+(x:Int),-6+(y:Int),s):Qt) |> fun q=>decide (k<r/\(-r<=q.1/\q.1<r)/\(-r<=q.2.1/\q.2.1<r))=true->decide (inM (r+k) q=true↔inL (mkQ r (r+k) 0 0) q)=true):=by
 decide +kernel
theorem Cr{r k:Int}(h4:q.2.2<4)(hr:2<=r/\r<=6)(hk:1<=k/\k<r)(hx:-r<=q.1/\q.1<r)(hy:-r<=q.2.1/\q.2.1<r):inM (r+k) q=true↔inL (mkQ r (r+k) 0 0) q:=by obtain⟨x,y,s⟩:=q;dsimp only at *;have:=FJ r (by simp only[m_,Ms,or_false];lia) k (by simp only[m_,Ms,or_false];lia) (x+6).toNat (Kk.mpr (by lia)) (y+6).toNat (Kk.mpr (by lia)) s (Kk.mpr h4);rw[show -6+((x+6).toNat:Int)=x by lia,show -6+((y+6).toNat:Int)=y by lia]at this;exact of_decide_eq_true (this (decide_eq_true ⟨hk.2,hx,hy⟩))
noncomputable def mkC(r R x:Int)(m:Nat):List Qt:=oP (fun y=>cl4 (fun s=>inM R (x,y,s)=true) x y) (-r) m
noncomputable def mkN(r R:Int)(n:Nat):List Qt:=oP (fun x=>mkC r R x (r - -r).toNat) (-r) n
theorem zL{r k:Int}(hr:2<=r/\r<=6)(hk:1<=k/\k<r):q∈mkN r (r+k) (r - -r).toNat↔q.2.2<4/\inL (mkQ r (r+k) 0 0) q:=by
 unfold mkN mkC;rw[bM];constructor
 ·rintro⟨x,x1,x2,m⟩;obtain⟨y,y1,y2,m⟩:=bM.mp m;obtain⟨rfl,rfl,h4,hm⟩:=cP.mp m;exact⟨h4,(Cr h4 hr hk ⟨x1,by lia⟩ ⟨y1,by lia⟩).mp hm⟩
 rintro⟨h4,hi⟩;have hb:(-r<=q.1/\q.1<r)/\-r<=q.2.1/\q.2.1<r:=by have:=pxy h4;unfold inL mkQ at hi;dsimp only at hi;omega
 exact⟨q.1,hb.1.1,by lia,bM.mpr ⟨q.2.1,hb.2.1,by lia,cP.mpr ⟨rfl,rfl,h4,(Cr h4 hr hk hb.1 hb.2).mpr hi⟩⟩⟩
theorem Hq{r R:Int}:cp (-r+(i:Int),-r+(j:Int),s) ∉ (mkN r R i++mkC r R (-r+i) j++((A_ s).filter fun s=>decide (inM R (-r+i,-r+j,s)=true)).map fun s=>(-r+(i:Int),-r+(j:Int),s)).map cp:=by
 intro h;obtain⟨q,mq,e⟩:=r_.mp h;cases pP _ _ e;rcases x_.mp mq with h|h
 ·rcases x_.mp h with h|h
  ·unfold mkN mkC at h;obtain⟨k,_,hk,mk⟩:=bM.mp h;obtain⟨k',_,_,mk'⟩:=bM.mp mk;have:=(cP.mp mk').1;dsimp only at this;lia
  unfold mkC at h;obtain⟨k,_,hk,mk⟩:=bM.mp h;have:=(cP.mp mk).2.1;dsimp only at this;lia
 obtain⟨s',m',e⟩:=r_.mp h;have:=Kk.mp (LR.mp m').1;have:=(Qk.mp (Qk.mp e).2).2;dsimp only at this;omega
theorem yI{p:Nat->Prop}[DecidablePred p]:(cl4 p x y).length<=4:=by unfold cl4;rw[a_];exact t_ (MB _ _) (by rw[Ml];exact b_ _)
theorem lC{f:Int->List α}(h:∀y,(f y).length<=m)(n:Nat):(oP f a n).length<=m*n:=by
 induction n with
 |zero=>exact D' _
 |succ n ih=>
  have:=h (a+n);rw[fu,d_,Nat.mul_succ];lia
theorem GL{r R:Int}(hm:(r - -r).toNat<=100):(mkN r R i++mkC r R (-r+i) j++((A_ s).filter fun s=>decide (inM R (-r+i,-r+j,s)=true)).map fun s=>((-r+(i:Int),-r+(j:Int),s):Qt)).length<=400*i+4*j+s:=by have lc:∀x m,(mkC r R x m).length<=4*m:=fun x m=>lC (fun y=>yI) m;have l1:(mkN r R i).length<=400*i:=lC (fun x=>t_ (lc x _) (by lia)) i;have l2:=lc (-r+i) j;have l3:=MB (fun s=>decide (inM R (-r+i,-r+j,s)=true)) (A_ s);rw[Ml]at l3;rw[d_,d_,a_];lia
noncomputable def cV(x s n a b c d:Int):Prop:=∃y,(s<=y/\y<=n)/\(a<=x+y/\x+y<=b)/\c<=x-y/\x-y<=d
theorem Ee{s n b:Int}(h:cV x s n a b c d):¬max (max s (a-x)) (x-d) > min (min n (b-x)) (x-c):=by obtain⟨y,h⟩:=h;omega
theorem eh{s n b s' n' a' b' c' d':Int}(h:cV x s n a b c d)(h':cV x' s' n' a' b' c' d'):cV (x+x') (s+s') (n+n') (a+a') (b+b') (c+c') (d+d'):=by obtain⟨y,⟨h1,h2⟩,⟨h3,h4⟩,h5,h6⟩:=h;obtain⟨y',⟨k1,k2⟩,⟨k3,k4⟩,k5,k6⟩:=h';refine⟨y+y',⟨?_,?_⟩,⟨?_,?_⟩,?_,?_⟩ <;> lia
noncomputable def Met(o:Oc):Prop:=(cV o.a o.c o.d o.e o.f o.g o.h/\cV o.b o.c o.d o.e o.f o.g o.h)/\(cV o.c o.a o.b o.e o.f (-o.h) (-o.g)/\cV o.d o.a o.b o.e o.f (-o.h) (-o.g))/\
  (cV o.e o.g o.h (2*o.a) (2*o.b) (2*o.c) (2*o.d)/\cV o.f o.g o.h (2*o.a) (2*o.b) (2*o.c) (2*o.d))/\cV o.g o.e o.f (2*o.a) (2*o.b) (-2*o.d) (-2*o.c)/\cV o.h o.e o.f (2*o.a) (2*o.b) (-2*o.d) (-2*o.c)
theorem DR{p:Oc}(h:Met o)(k:Met p):Met (vD o p):=by obtain⟨⟨h1,h2⟩,⟨h3,h4⟩,⟨h5,h6⟩,h7,h8⟩:=h;obtain⟨⟨k1,k2⟩,⟨k3,k4⟩,⟨k5,k6⟩,k7,k8⟩:=k;unfold Met vD;dsimp only;simp only[PN,Int.neg_add];exact⟨⟨eh h1 k1,eh h2 k2⟩,⟨eh h3 k3,eh h4 k4⟩,⟨eh h5 k5,eh h6 k6⟩,eh h7 k7,eh h8 k8⟩
theorem HP{r k:Int}(h0:1<=r)(h1:1<=k)(h2:k<r):Met (mkO r k (0,0)):=by unfold Met mkO vD oc1 cV;dsimp only;refine⟨⟨⟨0,?_⟩,0,?_⟩,⟨⟨0,?_⟩,0,?_⟩,⟨⟨0,?_⟩,0,?_⟩,⟨0,?_⟩,0,?_⟩ <;> lia
theorem KC{q:Pt}:Met (oc2 p q):=by
 unfold Met oc2 cV;dsimp only;have l:=@Mh;have l':=@Mt;have g:=@Mi;have g':=@Mu;have d2:∀{a b c:Int},a<=b->c=2*b->2*a<=c:=fun h e=>by lia
 have d3:∀{a b c:Int},a<=b->c=2*a->c<=2*b:=fun h e=>by lia
 have n2:∀{a b c:Int},a<=b->c=-2*a->-2*b<=c:=fun h e=>by lia
 have n3:∀{a b c:Int},a<=b->c=-2*b->c<=-2*a:=fun h e=>by lia
 have n0:∀{a b c:Int},a<=b->c=-a->-b<=c:=fun h e=>by lia
 have n1:∀{a b c:Int},a<=b->c=-b->c<=-a:=fun h e=>by lia
 obtain⟨x,y⟩:=p;obtain⟨x',y'⟩:=q;dsimp only;refine⟨⟨?_,?_⟩,⟨?_,?_⟩,⟨?_,?_⟩,?_,?_⟩
 ·rcases LN x x' with c|c
  ·rw[M6 c];exact⟨y,⟨l _ _,g _ _⟩,⟨l _ _,g _ _⟩,l _ _,g _ _⟩
  rw[M0 c];exact⟨y',⟨l' _ _,g' _ _⟩,⟨l' _ _,g' _ _⟩,l' _ _,g' _ _⟩
 ·rcases LN x x' with c|c
  ·rw[MK c];exact⟨y',⟨l' _ _,g' _ _⟩,⟨l' _ _,g' _ _⟩,l' _ _,g' _ _⟩
  rw[MP c];exact⟨y,⟨l _ _,g _ _⟩,⟨l _ _,g _ _⟩,l _ _,g _ _⟩
 ·rcases LN y y' with c|c
  ·rw[M6 c];exact⟨x,⟨l _ _,g _ _⟩,⟨by rw[MI];exact l _ _,by rw[MI];exact g _ _⟩,n0 (g _ _) (by lia),n1 (l _ _) (by lia)⟩
  rw[M0 c];exact⟨x',⟨l' _ _,g' _ _⟩,⟨by rw[MI y'];exact l' _ _,by rw[MI y'];exact g' _ _⟩,n0 (g' _ _) (by lia),n1 (l' _ _) (by lia)⟩
 ·rcases LN y y' with c|c
  ·rw[MK c];exact⟨x',⟨l' _ _,g' _ _⟩,⟨by rw[MI y'];exact l' _ _,by rw[MI y'];exact g' _ _⟩,n0 (g' _ _) (by lia),n1 (l' _ _) (by lia)⟩
  rw[MP c];exact⟨x,⟨l _ _,g _ _⟩,⟨by rw[MI];exact l _ _,by rw[MI];exact g _ _⟩,n0 (g _ _) (by lia),n1 (l _ _) (by lia)⟩
 ·rcases LN (x+y) (x'+y')with c|c
  ·rw[M6 c];exact⟨x-y,⟨l _ _,g _ _⟩,⟨d2 (l x x') (by lia),d3 (g x x') (by lia)⟩,d2 (l y y') (by lia),d3 (g y y') (by lia)⟩
  rw[M0 c];exact⟨x'-y',⟨l' _ _,g' _ _⟩,⟨d2 (l' x x') (by lia),d3 (g' x x') (by lia)⟩,d2 (l' y y') (by lia),d3 (g' y y') (by lia)⟩
 ·rcases LN (x+y) (x'+y')with c|c
  ·rw[MK c];exact⟨x'-y',⟨l' _ _,g' _ _⟩,⟨d2 (l' x x') (by lia),d3 (g' x x') (by lia)⟩,d2 (l' y y') (by lia),d3 (g' y y') (by lia)⟩
  rw[MP c];exact⟨x-y,⟨l _ _,g _ _⟩,⟨d2 (l x x') (by lia),d3 (g x x') (by lia)⟩,d2 (l y y') (by lia),d3 (g y y') (by lia)⟩
 ·rcases LN (x-y) (x'-y')with c|c
  ·rw[M6 c];exact⟨x+y,⟨l _ _,g _ _⟩,⟨d2 (l x x') (by lia),d3 (g x x') (by lia)⟩,n2 (g y y') (by lia),n3 (l y y') (by lia)⟩
  rw[M0 c];exact⟨x'+y',⟨l' _ _,g' _ _⟩,⟨d2 (l' x x') (by lia),d3 (g' x x') (by lia)⟩,n2 (g' y y') (by lia),n3 (l' y y') (by lia)⟩
 rcases LN (x-y) (x'-y')with c|c
 ·rw[MK c];exact⟨x'+y',⟨l' _ _,g' _ _⟩,⟨d2 (l' x x') (by lia),d3 (g' x x') (by lia)⟩,n2 (g' y y') (by lia),n3 (l' y y') (by lia)⟩
 rw[MP c];exact⟨x+y,⟨l _ _,g _ _⟩,⟨d2 (l x x') (by lia),d3 (g x x') (by lia)⟩,n2 (g y y') (by lia),n3 (l y y') (by lia)⟩
theorem GJ{r R:Int}(p q:Pt)(h0:1<=r)(h1:r<R)(h2:R<2*r)(o:Oc)(e:o=swT (r,R) (p,q)):Met o:=by have k:=DR (HP (r:=r) (k:=R-r) h0 (by lia) (by lia)) (KC (p:=p) (q:=q));have w:=sw_eq (r:=r) (k:=R-r) (p:=p) (q:=q);rw[show r+(R-r)=R by lia]at w;rw[e,<-w];exact k
theorem jt{i:Int}{k:T->Prop}:fU [.int i,.ty "int"] k=k (.bl true):=rfl
theorem gU{i:Int}{k:T->Prop}:fU [.int i,.ty "bool"] k=k (.bl false):=rfl
theorem iO{k:T->Prop}:fU [ocT o,.tup [.ty "list",.ty "tuple"]] k=k (.bl true):=rfl
theorem lZ{k:T->Prop}:B3 [ocT o] k=k (.int 8):=rfl
theorem eW:items (ocT o)=some ((ocL o).map T.int):=rfl
variable {N:Nat}
theorem zI(h:OkP m C N P){o:Od}(e:P[i]?=some o):P.take (i+1)=P.take i++[o]/\(i=0->∃j,o=.tk j):=by refine⟨by rw[LP,e];rfl,fun z=>?_⟩;subst z;obtain⟨⟨j,P',rfl⟩,_⟩:=h;exact⟨j,(I_ e).symm⟩
theorem oX:∀{P:List Od}{ps:List Plc},Od.ct ps∈P->ps.length<=nPl P
 |o::P,ps,m=>by
  unfold nPl;rw[g_,MU];rcases m_.mp m with e|m
  ·subst e;exact NG _ _
  have:=oX m;unfold nPl at this;lia
theorem Bb:cg (.lst true (os.map ocT))=true:=by simp only[cg,bQ,dS,fJ,Nm]
theorem va:nPl (P.take i)<=nPl P:=by
 unfold nPl
 conv=>rhs;rw[<-F' i P,p_,P9]
 exact NG _ _
theorem qg{l:Int}{tl:List Tl}:(cw l tl P).length<=nPl P:=by have h1:=cQ (ρ:=ocL) (l:=[]) (r:=(wls l P 0).map fun v=>swT (tR tl v.1) v.2);have h2:=oU (l:=l) (P:=P) (t:=0);rw[a_,Mf]at h1;unfold cw;lia
noncomputable def kP(x y:Int):Od->Od
 | .tk i=>.tk i
 | .ov b u v=>.ov b (u+x) (v+y)
 | .ct ps=>.ct (ps.map fun p=>((p.1.1+x,p.1.2+y),p.2))
noncomputable def mkA(t:Tl):List Qt:=mkN t.1 (t.1+t.2.1) (t.1 - -t.1).toNat
noncomputable def mvQ(p:Pt)(m:Qt):Qt:=(m.1+p.1,m.2.1+p.2,m.2.2)
theorem yV(h:tlO t):(mkA t).length<=576:=by
 obtain⟨h1,h2,_⟩:=h;have l1:∀x,(mkC t.1 (t.1+t.2.1) x (t.1 - -t.1).toNat).length<=48:=fun x=>t_ (lC (fun y=>yI) _) (by lia)
 exact t_ (lC l1 _) (by lia)
theorem DM{r R:Int}{m:Qt}:inL (mkQ r R p.1 p.2) (mvQ p m)↔inL (mkQ r R 0 0) m:=by unfold inL mkQ mvQ;dsimp only;lia
theorem yU(h:tlO t):(∃m∈mkA t,q=mvQ p m)↔q.2.2<4/\inL (mkQ t.1 (t.1+t.2.1) p.1 p.2) q:=by
 obtain⟨h1,h2,h3,h4⟩:=h;constructor
 ·rintro⟨m,mm,rfl⟩;obtain⟨a,b⟩:=(zL ⟨h1,h2⟩ ⟨h3,h4⟩).mp mm;exact⟨a,DM.mpr b⟩
 rintro⟨a,b⟩;have e:q=mvQ p (q.1-p.1,q.2.1-p.2,q.2.2):=by unfold mvQ;exact M7 (by dsimp only;lia) (M7 (by dsimp only;lia) rfl)
 rw[e]at b;exact⟨(q.1-p.1,q.2.1-p.2,q.2.2),(zL ⟨h1,h2⟩ ⟨h3,h4⟩).mpr ⟨a,DM.mp b⟩,e⟩
theorem tF{m:Nat}{l:Int}:∀{P:List Od}{t:Nat},t<m->(∀i,Od.tk i∈P->i<m)->∀v∈sps l P t,v.1<m
 | [],_,_,_,_,h=>by cases h
 | .tk i::P,t,_,h,v,hv=>tF (P:=P) (t:=i) (h i o_) (fun j mj=>h j (k_ _ mj)) v hv
 | .ov _ _ _::P,t,ht,h,v,hv=>tF (P:=P) (t:=t) ht (fun j mj=>h j (k_ _ mj)) v hv
 | .ct ps::P,t,ht,h,v,hv=>by
  rw[sps]at hv;rcases x_.mp hv with hv|hv
  ·obtain⟨p,_,rfl⟩:=r_.mp hv;exact ht
  exact tF (P:=P) (t:=t) ht (fun j mj=>h j (k_ _ mj)) v hv
theorem Cy(h:OkP m C N P){l:Int}:∀v∈sps l P 0,v.1<m:=by obtain⟨⟨i,P',rfl⟩,_,_,h⟩:=h;exact tF (P:=P') (t:=i) (h _ o_) fun j mj=>h _ (k_ _ mj)
noncomputable def fnd(tl:List Tl)(S:List (Nat×Pt)):List Qt:=S.flatMap fun v=>(mkA (tl.getD v.1 (0,0,0,0,0))).map (mvQ v.2)
theorem wb{tl:List Tl}(h:∀t∈tl,tlO t)(hi:i<tl.length):tlO (tl.getD i (0,0,0,0,0)):=by rw[LY,c_ hi];exact h _ (Mo hi)
theorem Ec{tl:List Tl}(ht:∀t∈tl,tlO t){S:List (Nat×Pt)}(hS:∀v∈S,v.1<tl.length):q∈fnd tl S↔q.2.2<4/\∃v∈S,inL (mkT (tR tl v.1) v.2) q:=by
 unfold fnd;rw[PU];constructor
 ·rintro⟨v,mv,m⟩;obtain⟨x,mx,rfl⟩:=r_.mp m;obtain⟨a,b⟩:=(yU (wb ht (hS v mv)) (p:=v.2)).mp ⟨x,mx,rfl⟩;exact⟨a,v,mv,b⟩
 rintro⟨a,v,mv,b⟩;obtain⟨x,mx,e⟩:=(yU (wb ht (hS v mv)) (p:=v.2)).mpr ⟨a,b⟩;exact⟨v,mv,r_.mpr ⟨x,mx,e.symm⟩⟩
theorem yR{tl:List Tl}(ht:∀t∈tl,tlO t):∀{S:List (Nat×Pt)},(∀v∈S,v.1<tl.length)->(fnd tl S).length<=576*S.length
 | [],_=>b_ _
 |v::S,h=>by have h1:=yR ht (S:=S) fun w mw=>h w (k_ _ mw);have h2:=yV (wb ht (h v o_));unfold fnd at *;rw[List.flatMap_cons,d_,a_,h_];lia
variable {v:Nat×Pt}
theorem Dm{tl:List Tl}{S:List (Nat×Pt)}:fnd tl (S++[v])=fnd tl S++(mkA (tl.getD v.1 (0,0,0,0,0))).map (mvQ v.2):=by unfold fnd;rw[NN,O6]
theorem K6{tl:List Tl}{o:Bool}(h:j<tl.length):atI (tl.map fun t=>T.dT o (dG cp (mkA t))) (j:Int)=some (.dT o (dG cp (mkA (tl.getD j (0,0,0,0,0))))):=by
 refine cA ?_;rw[B',c_ h,LY,c_ h]
 rfl
noncomputable def ov1(x y:Int):Od->Od
 | .ov b u v=>.ov b (u+x) (v+y)
 |o=>o
noncomputable def GrO(m:Nat)(P:List Od)(lf:Nat):Prop:=(∃i P',P=.tk i::P')/\nPl P+lf=8/\∀o∈P,HQ m 1000100 o
variable {lf:Nat}
theorem Kg(h:GrO m P lf)(hl:P.length<=100):OkP m 1000100 8 P:=⟨h.1,hl,by have:=h.2.1;lia,h.2.2⟩
theorem Lg(h:i<m):GrO m [.tk i] 8:=⟨⟨i,[],rfl⟩,rfl,fun o mo=>by rw[w_.mp mo];exact h⟩
theorem xC{lf':Nat}{o:Od}(h:GrO m P lf)(e:Br o+lf'=lf)(ho:HQ m 1000100 o):GrO m (P++[o]) lf':=by
 obtain⟨⟨i,P',rfl⟩,h1,h2⟩:=h;refine⟨⟨i,P'++[o],rfl⟩,?_,fun x mx=>?_⟩
 ·unfold nPl at *;rw[p_,P9];show _+(Br o+0)+lf'=8;lia
 rcases x_.mp mx with mx|mx
 ·exact h2 x mx
 rw[w_.mp mx];exact ho
theorem G8(h:GrO m P lf)(hi:i<m):GrO m (P++[.tk i]) lf:=xC h (MN _) hi
theorem KO(h:GrO m P lf):GrO m (P++[.ov b x y]) lf:=xC h (MN _) trivial
theorem nN:kM (ps.map plT) none (some (n:Int))=(ps.take n).map plT:=by rw[B9,Qc]
theorem Ks{p:Plc}:Gd (plT p) (n+1):=Lp (lh IB (lh IB (lh IB yS)))
theorem rX{o:Bool}{k:T->Prop}:neT (.lst o (ps.map fun x=>plT x)) (.lst b []) k=k (.bl (!decide (ps=[]))):=by
 have g:GdL (ps.map fun x=>plT x) 1:=EX fun _ _=>Ks;unfold neT;have e:eqD (dt (.lst o (ps.map fun x=>plT x))) (dt (.lst b []))=decide (ps=[]):=by
  cases ps with
  |nil=>rfl
  |cons p ps=>rfl
 rw[e];refine propext ⟨fun h=>h.2.2.2,fun h=>⟨?_,?_,?_,h⟩⟩
 ·rw[isD];exact g.1
 ·rfl
 rw[dt,dpt];exact MC (OV g.2) (by decide)
theorem rC{p:Plc}{k:T->Prop}:slT (plT p) none (some 2) k=k (ptP p.1):=by rw[plT,Ju];exact propext ⟨fun h=>h.2,fun h=>⟨(by show ¬(HT.sIx 3 0 none=0/\HT.sIx 3 3 (some 2)=3);decide),h⟩⟩
theorem Ez{p:Plc}:atI ((ps++[p]).map plT) (-1)=some (plT p):=by
 unfold atI ixN;rw[if_neg (by decide),if_pos (by rw[a_,d_];show -(((ps.length+1:Nat)):Int)<=-1;lia)];show(G' plT (ps++[p]))[_]?=_;rw[B',show(-1+(((ps++[p]).map plT).length:Int)).toNat=ps.length by rw[a_,d_];show(-1+((ps.length+1:Nat):Int)).toNat=_;lia,OA]
 rfl
theorem tW{l:Int}:∀{P:List Od}{t:Nat}{v:Nat×Pt},v∈sps l P t->∃ps p,Od.ct ps∈P/\p∈ps/\p.1=v.2
 | [],_,_,h=>by cases h
 | .tk i::P,t,v,h=>by obtain⟨ps,p,m,r⟩:=tW (P:=P) (t:=i) h;exact⟨ps,p,k_ _ m,r⟩
 | .ov _ _ _::P,t,v,h=>by obtain⟨ps,p,m,r⟩:=tW (P:=P) (t:=t) h;exact⟨ps,p,k_ _ m,r⟩
 | .ct ps::P,t,v,h=>by
  rw[sps]at h;rcases x_.mp h with h|h
  ·obtain⟨p,m,rfl⟩:=r_.mp h;exact⟨ps,p,o_,(LR.mp m).1,rfl⟩
  obtain⟨ps,p,m,r⟩:=tW (P:=P) (t:=t) h;exact⟨ps,p,k_ _ m,r⟩
theorem EW{l:Int}{t:Nat}{v:Nat×Pt×Pt}(h:v∈wls l P t):(v.1,v.2.1)∈sps l P t/\(v.1,v.2.2)∈sps l P t:=by obtain⟨a1,a2⟩:=qJ (l:=l) (P:=P) (t:=t);obtain⟨k,hk,n,e⟩:=a1 v h;exact⟨(a2 _ _).mp ⟨v,h,rfl,(fI hk e).mpr ⟨0,D' _,by unfold gon;simp⟩⟩,(a2 _ _).mp ⟨v,h,rfl,(fI hk e).mpr ⟨n,b_ _,e⟩⟩⟩
theorem Gf(h:OkP m C N P){l:Int}(hv:v∈sps l P 0):(-C<=v.2.1/\v.2.1<=C)/\-C<=v.2.2/\v.2.2<=C:=by obtain⟨ps,p,m1,m2,e⟩:=tW hv;rw[<-e];exact h.2.2.2 _ m1 p m2
theorem FV{tl:List Tl}(ht:∀t∈tl,tlO t)(hi:i<tl.length):E4 (tR tl i)/\(tR tl i).1<=6:=by obtain⟨h1,h2,h3,h4⟩:=wb ht hi;unfold E4 tR;dsimp only;lia
theorem y4{tl:List Tl}{l:Int}(hP:OkP tl.length C N P)(ht:∀t∈tl,tlO t)(h:o∈cw l tl P):∃r R p q,o=swT (r,R) (p,q)/\(1<=r/\r<R/\R<2*r)/\r<=6/\(-C<=p.1/\p.1<=C/\-C<=p.2/\p.2<=C)/\-C<=q.1/\q.1<=C/\-C<=q.2/\q.2<=C:=by obtain⟨v,mv,rfl⟩:=vj.mp h;obtain⟨e1,e2⟩:=EW mv;obtain⟨k1,k2⟩:=FV ht (Cy hP _ e1);have b1:=Gf hP e1;have b2:=Gf hP e2;dsimp only at b1 b2;exact⟨_,_,v.2.1,v.2.2,rfl,k1,k2,by lia,by lia⟩
theorem Gw{tl:List Tl}{l:Int}(hP:OkP tl.length C N P)(ht:∀t∈tl,tlO t)(hN:N<=14)(hB:C+6<=B)(h50:B<2 ^ 50):mT B (cw l tl P):=by
 have h1:=qg (l:=l) (tl:=tl) (P:=P);have h2:=hP.2.2.1;refine⟨by lia,h50,.inl (by lia),fun o m=>?_,fun o m=>?_⟩
 ·obtain⟨r,R,p,q,rfl,h,_⟩:=y4 hP ht m;exact FR (w:=(p,q)) h.1 h.2.1 h.2.2
 obtain⟨r,R,p,q,rfl,h,h6,b1,b2⟩:=y4 hP ht m;exact Jv (w:=(p,q)) b1 b2 (by lia)
noncomputable def Cuts(l:Int)(tl:List Tl)(P:List Od)(qs:List Qt):Prop:=qs.Nodup/\∀q,q∈qs↔q.2.2<4/\∃v∈sps l P 0,inL (mkT (tR tl v.1) v.2) q
theorem Cs{tl:List Tl}{l:Int}(hP:OkP tl.length C N P)(ht:∀t∈tl,tlO t)(hs:mT B (cw l tl P))(hq:Cuts l tl P qs):Ar B (cw l tl P)/2=(qs.length:Int):=by have:=EV hs.2.2.2.2 hq.1 fun q=>(hq.2 q).trans (and_congr_right fun h4=>(J7 (T:=tR tl) (fun o=>vj) (fun v m=>(FV ht (Cy hP v m)).1) h4).symm);lia
theorem tB{l x y:Int}:∀{P:List Od}{t:Nat},sps l (P.map (kP x y)) t=(sps l P t).map fun v=>(v.1,(v.2.1+x,v.2.2+y))
 | [],_=>rfl
 | .tk i::P,t=>tB (P:=P) (t:=i)
 | .ov _ _ _::P,t=>tB (P:=P) (t:=t)
 | .ct ps::P,t=>by
  rw[g_,kP,sps,sps,tB (P:=P) (t:=t),p_,A',List.filter_map,A']
  rfl
theorem FF{tl:List Tl}{l:Int}(h:Cuts l tl P qs):Cuts l tl (P.map (kP x y)) (qs.map (mvQ (x,y))):=by
 have mi:∀{r R:Int}{p:Pt}{q:Qt},inL (mkQ r R (p.1+x) (p.2+y)) (mvQ (x,y) q)↔inL (mkQ r R p.1 p.2) q:=by intro r R p q;unfold inL mkQ mvQ;dsimp only;lia
 refine⟨?_,fun q=>?_⟩
 ·refine K_.mpr (h.1.imp fun{a b} ne e=>ne ?_);unfold mvQ at e;simp only[Prod.mk.injEq]at e;exact M7 (by lia) (M7 (by lia) e.2.2)
 rw[r_,tB];constructor
 ·rintro⟨u,mu,rfl⟩;obtain⟨a,v,mv,b⟩:=(h.2 u).mp mu;exact⟨a,_,r_.mpr ⟨v,mv,rfl⟩,mi.mpr b⟩
 rintro⟨a,w,mw,b⟩;obtain⟨v,mv,rfl⟩:=r_.mp mw;have e:q=mvQ (x,y) (q.1-x,q.2.1-y,q.2.2):=by unfold mvQ;exact M7 (by dsimp only;lia) (M7 (by dsimp only;lia) rfl)
 rw[e]at b;exact⟨_,(h.2 (q.1-x,q.2.1-y,q.2.2)).mpr ⟨a,v,mv,mi.mp b⟩,e.symm⟩
theorem Hw:nPl (P.map (kP x y))=nPl P:=by
 unfold nPl;rw[A'];congr 1;refine Mx fun o _=>?_;cases o with
 |tk i=>rfl
 |ov b u v=>rfl
 |ct ps=>exact a_ ..
theorem KR(h:OkP m C N P)(hx:-9<=x/\x<=9)(hy:-9<=y/\y<=9):OkP m (C+9) N (P.map (kP x y)):=by
 obtain⟨⟨i,P',rfl⟩,h1,h2,h3⟩:=h;refine⟨⟨i,P'.map (kP x y),rfl⟩,by rw[a_];exact h1,by rw[Hw];exact h2,fun o mo=>?_⟩;obtain⟨o',mo',rfl⟩:=r_.mp mo;have:=h3 o' mo';cases o' with
 |tk i=>exact this
 |ov b u v=>trivial
 |ct ps=>
  intro p mp;obtain⟨p',mp',rfl⟩:=r_.mp mp;have:=this p' mp';dsimp only;lia
noncomputable def CO:Od->Bool
 | .ct _=>true
 | _=>false
theorem BN:∀{P:List Od},((P.filter CO).map fun o=>(Br o:Int)).sum=(nPl P:Int)
 | []=>rfl
 |o::P=>by
  have ih:=BN (P:=P);unfold nPl at *;rw[g_,MU,Oa];cases o with
  |tk i=>rw[if_neg (show ¬CO (.tk i)=true from Me),ih];show _=((0+_:Nat):Int);rw[MN]
  |ov b x y=>rw[if_neg (show ¬CO (.ov b x y)=true from Me),ih];show _=((0+_:Nat):Int);rw[MN]
  |ct ps=>rw[if_pos (show CO (.ct ps)=true from rfl),g_,MU,ih];exact(Int.natCast_add _ _).symm
theorem iJ{i:Int}{t:T}{k:T->Prop}:wM (.lst true ts) (.int i) t k=cM (ixN ts.length i) (k:=⟨fun j=>k (.lst true (ts.set j t))⟩):=rfl
theorem js{i:Int}{k:T->Prop}:fU [.int i,.ty "dict"] k=k (.bl false):=rfl
theorem ju{i:Int}{k:T->Prop}:fU [.int i,.ty "list"] k=k (.bl false):=rfl
theorem iy{i:Int}{k:T->Prop}:fU [.int i,.ty "tuple"] k=k (.bl false):=rfl
theorem jC{i:Int}{k:T->Prop}:fU [.int i,.ty "str"] k=k (.bl false):=rfl
theorem jz{o:Bool}{k:T->Prop}:fU [.lst o ts,.ty "dict"] k=k (.bl false):=rfl
theorem gZ{o:Bool}{k:T->Prop}:fU [.lst o ts,.ty "list"] k=k (.bl true):=rfl
theorem iL{o:Bool}{k:T->Prop}:fU [.lst o ts,.ty "tuple"] k=k (.bl false):=rfl
theorem ja{gs:tf}{env:Ev}{k:Ev->Prop}:gTp n gs (ptP p) env k=gTp n gs (.tup [.int p.1,.int p.2]) env k:=rfl
noncomputable def kF(p:Pt):List Int:=[p.1,p.2]
theorem qe{f:α->β}{l m:List β}(p:l.Perm m):∀{xs:List α},m=xs.map f->∃ys:List α,ys.Perm xs/\l=ys.map f:=by
 induction p with
 |nil=>exact fun{xs} e=>⟨xs,.refl _,e⟩
 |cons x p ih=>
  intro xs e;cases xs with
  |nil=>cases e
  |cons y xs=>
   obtain⟨e1,e2⟩:=M8 e;obtain⟨ys,q,r⟩:=ih e2;exact⟨y::ys,.cons y q,by rw[r,e1];rfl⟩
 |swap x y l=>
  intro xs e
  match xs,e with
  |a::b::xs,e=>
   obtain⟨e1,e2⟩:=M8 e;obtain⟨e2,e3⟩:=M8 e2;exact⟨b::a::xs,.swap _ _ _,by rw[e1,e2,e3];rfl⟩
 |trans p q ih jh=>
  intro xs e;obtain⟨ys,y1,y2⟩:=jh e;obtain⟨zs,z1,z2⟩:=ih y2;exact⟨zs,z1.trans y1,z2⟩
noncomputable def Eb(l:List Pt):List Pt:=(uC (l.map kF)).map fun r=>(r.getD 0 0,r.getD 1 0)
theorem su(l:List Pt):∃ys:List Pt,ys.Perm l/\uC (l.map kF)=ys.map kF/\Eb l=ys:=by obtain⟨ys,y1,y2⟩:=qe (mD (lt:=ZS.ltL) (l.map kF)) (f:=kF) (xs:=l) rfl;refine⟨ys,y1,y2,?_⟩;unfold Eb;rw[show uC (l.map kF)=ys.map kF from y2,A'];exact Oy _
theorem nz{o:Bool}{l:List Pt}{k:T->Prop}:uH [.lst o (l.map ptP)] k=k (.lst true ((Eb l).map ptP)):=by
 obtain⟨ys,y1,y2,y3⟩:=su l;rw[y3];show got (rowsOf (l.map ptP)) (fun ks=>k (.lst true ((uC ks).map iT)))=_;have e:rowsOf (l.map ptP)=some (l.map kF):=oF ptP kF (fun x=>rfl) (fun x=>OY _ _) _;rw[e];show k (.lst true ((uC (l.map kF)).map iT))=_;rw[y2,A']
 rfl
theorem Dn{P:QL}{w:QP}{K:Qz}{mg:Str->Option Qy}{base:QR}{k:Nat}{f:QA}{ps:List Str}(h:n=ps.length):FnOk P w K mg base CX0 k f fd ps (aG K n fun _ _=>False):=
 ⟨by rintro _ _ _ _ ⟨_,_,_,_,h2,_⟩;exact h2.trans h,by rintro _ _ _ _ _ _ _ _ _ _ _ _ _ ⟨_,_,_,_,_,_,z,_⟩;exact z.elim⟩
theorem Fy{m:Int}:∃U:List Oc,U.Perm os/\Eb (spn os m)=spn U m/\(spn U m).Pairwise fun p q=>p.1<=q.1:=by
 obtain⟨ys,y1,y2,y3⟩:=su (spn os m);obtain⟨U,p,r⟩:=qe y1 (f:=fun o=>(loM o m,hiM o m)) (xs:=os) rfl;refine⟨U,p,y3.trans r,?_⟩;have s:=gI ZS.Ca ((spn os m).map kF);rw[show y6 ZS.ltL ((spn os m).map kF)=ys.map kF from y2,K_,r]at s;refine s.imp fun{a b} h=>PY fun z=>?_;have:ZS.ltL (kF b) (kF a)=true:=by show(if b.1=a.1 then _ else decide (b.1<a.1))=true;rw[if_neg (by lia)];exact decide_eq_true z
 rw[this]at h;cases h
theorem BU{m:Int}{x:Oc}(h:os[i]?=some x):spn (os.take (i+1)) m=spn (os.take i) m++[(loM x m,hiM x m)]:=by
 unfold spn;rw[LP,h,p_]
 rfl
noncomputable def obT(b u:Bool)(o:Oc):T:=if b then .lst u ((ocL o).map T.int)else ocT o
noncomputable def ogT(c o b u:Bool)(os:List Oc):T:=if c then .tup (os.map (obT b u))else .lst o (os.map (obT b u))
variable {u:Bool}
theorem jZ:er (obT b u o)=obT b false o:=by cases b <;> rfl
theorem d6:isAny (obT b u o)=false:=by cases b <;> rfl
theorem dr:aW (obT b false o)=true:=by cases b <;> rfl
theorem jA{k:T->Prop}:qc [obT b u o] k=k (ocT o):=by cases b <;> rfl
theorem Ci:erL (os.map (obT b u))=os.map (obT b false):=by rw[cy];exact Mx fun k _=>jZ
theorem jV{c o:Bool}:er (ogT c o b u os)=ogT c false b false os:=by
 cases c
 ·show er (.lst o (os.map (obT b u)))=.lst false (os.map (obT b false));rw[er,Ci]
 show er (.tup (os.map (obT b u)))=.tup (os.map (obT b false));rw[er,Ci]
theorem df{c o:Bool}:items (ogT c o b u os)=some (os.map (obT b u)):=by cases c <;> rfl
theorem dH{c o:Bool}:isAny (ogT c o b u os)=false:=by cases c <;> rfl
theorem dv{c:Bool}:aW (ogT c false b false os)=true:=by have:er (ogT c false b false os)=ogT c false b false os:=jV;rw[<-this];exact bu _
variable {ws:List Oc}
theorem Fo(h:(ws.map ocL).Pairwise fun x y=>ZS.ltL x y=false):ws.Pairwise fun x y=>y.a<=x.a:=by
 rw[K_]at h;refine h.imp fun{x y} g=>PY fun z=>?_;have:ZS.ltL (ocL x) (ocL y)=true:=by show(if x.a=y.a then _ else decide (x.a<y.a))=true;rw[if_neg (by lia)];exact decide_eq_true z
 rw[this]at g;cases g
theorem Cj(l:ws.length<=os.length)(m:∀x∈ws,x∈os)(h:mT B os):mT B ws:=⟨t_ l h.1,h.2.1,h.2.2.1.elim (fun z=>.inl (t_ l z)) .inr,fun x hx=>h.2.2.2.1 x (m x hx),fun x hx=>h.2.2.2.2 x (m x hx)⟩
theorem L5:kM ts (some 1) none=ts.drop 1:=AH ts 1
theorem CT:G' (fun p:T×T=>T.tup [p.1,p.2]) ((G' (fun x=>T.int x) S).zip (erL (List.drop 1 (G' (fun x=>T.int x) S))))=(S.zip (S.drop 1)).map ptP:=by
 rw[<-Ph,cy,Ql,A']
 rfl
theorem IV{l r:Int}(h:(S.zip (S.drop 1))[i]?=some (l,r)):S[i]?=some l/\S[i+1]?=some r:=by rw[OK]at h;refine⟨h.1,?_⟩;have:=h.2;rw[M4,Nat.add_comm]at this;exact this
theorem Ej(V:List Oc)(x:Oc):atI (G' (fun x=>ocT x) (V.concat x)) (-1)=some (ocT x):=by
 have e:G' (fun x=>ocT x) (V.concat x)=V.map ocT++[ocT x]:=by rw[ML,p_];rfl
 rw[e];unfold atI ixN;rw[d_,O7,if_neg (by lia),if_pos (by lia)];show(V.map ocT++[ocT x])[_]?=_;rw[show((-1:Int)+((G' ocT V).length+1:Nat)).toNat=(V.map ocT).length by lia,LV (b_ _),Nh]
 rfl
theorem wk(V:List Oc)(x:Oc):(G' ocT (V.concat x))[(V.concat x).length-1]?=some (ocT x)/\(G' ocT (V.concat x)).dropLast=V.map ocT:=by
 rw[Pw,ML,p_,Nat.add_sub_cancel];refine⟨?_,Oj⟩;rw[LV (by rw[a_];exact b_ _),a_,Nh]
 rfl
noncomputable def AK(ws:List Oc)(l:Int)(V th:List Oc):Prop:=(V.Pairwise fun x y=>y.a<=x.a)/\(∀x∈V,x∈ws)/\(∀x∈th,x∈ws/\2*x.a<=l)/\(∀x∈ws,x∈V\/x∈th\/2*x.b<l)/\V.length+th.length<=ws.length
variable {th:List Oc}
theorem HU{l:Int}{V:List Oc}{x:Oc}(h:AK ws l (V.concat x) th)(g:2*x.a<=l):AK ws l V (th++[x]):=by
 obtain⟨h1,h2,h3,h4,h5⟩:=h;rw[ML]at h1 h2 h4 h5;refine⟨(C_.mp h1).1,fun y m=>h2 y (y_ _ m),fun y m=>?_,fun y m=>?_,by rw[d_]at h5 ⊢;exact(by lia)⟩
 ·rcases x_.mp m with m|m
  ·exact h3 y m
  rw[w_.mp m];exact⟨h2 x (n_ _ o_),g⟩
 rcases h4 y m with m|m|m
 ·rcases x_.mp m with m|m
  ·exact .inl m
  exact .inr (.inl (n_ _ m))
 ·exact .inr (.inl (y_ _ m))
 exact .inr (.inr m)
noncomputable def AJ(B:Nat)(ws:List Oc)(S:List Int)(i:Nat)(V th:List Oc)(D:Int):Prop:=(S=[]->D=0)/\∀l,S[i]?=some l->AK ws l V th/\∀w,S[0]?=some w->w<=l/\D=Sm (fun j=>Lm B ws (2*j+1)) w (l-w).toNat
theorem Le(h:ws.Pairwise fun x y=>y.a<=x.a):AJ B ws S 0 ws [] 0:=⟨fun _=>rfl,fun l e=>⟨⟨h,fun x m=>m,(fun x m=>by cases m),fun x m=>.inl m,by rw[Mf];lia⟩,fun w e'=>by rw[e]at e';cases e';exact⟨Mm _,by rw[show(l-l).toNat=0 by lia];rfl⟩⟩⟩
theorem CU{l r:Int}(hw:mT B ws)(hS:Sds B ws S)(sl:S[i]?=some l)(sr:S[i+1]?=some r):l<r/\-(2 ^ 60)<l/\r<2 ^ 60:=by
 obtain⟨u,_,n,s,_⟩:=hS;have ne:ws≠[]:=fun z=>by rw[n z]at sl;cases sl
 obtain⟨w,e,s0,s1,b1,b2,b3,_⟩:=s ne;have hB:=hw.2.1;have lr:=jU u sl sr (Nj i);have il:=(f_.mp sl).1;have ir:=(f_.mp sr).1;have g1:w<=l:=by
  by_cases z:i=0
  ·subst z;rw[s0]at sl;cases sl;exact Mm _
  exact Qm (jU u s0 sl (by lia))
 have g2:r<=e:=by
  by_cases z:i+1=S.length-1
  ·rw[<-z,sr]at s1;cases s1;exact Mm _
  exact Qm (jU u sr s1 (by omega))
 exact⟨lr,by lia,by lia⟩
theorem DY{V U:List Oc}{D l r:Int}(hw:mT B ws)(hS:Sds B ws S)(sl:S[i]?=some l)(sr:S[i+1]?=some r)(J0:∀w,S[0]?=some w->w<=l/\D=Sm (fun j=>Lm B ws (2*j+1)) w (l-w).toNat)(K:AK ws l V th)(hV:∀x∈V,l<2*x.a)(pU:U.Perm (th.filter fun x=>decide (r<=2*x.b)))(sU:(spn U (l+r)).Pairwise fun p q=>p.1<=q.1) :
  AJ B ws S (i+1) V (th.filter fun x=>decide (r<=2*x.b)) (D+(r-l)*sw (xN (spn U (l+r))) (spn U (l+r))):=by
 obtain⟨lr,_⟩:=CU hw hS sl sr;obtain⟨k1,k2,k3,k4,k5⟩:=K;have fl:=MB (fun x:Oc=>decide (r<=2*x.b)) th;have mem:∀x,x∈U↔x∈ws/\2*x.a<=l/\r<=2*x.b:=fun x=>by
  rw[pU.mem_iff,LR,decide_eq_true_iff];refine⟨fun⟨a,b⟩=>⟨(k3 x a).1,(k3 x a).2,b⟩,fun⟨a,b,c⟩=>⟨?_,c⟩⟩;rcases k4 x a with m|m|m
  ·have:=hV x m;lia
  ·exact m
  lia
 refine⟨fun z=>(by rw[z]at sl;cases sl),fun r' er=>?_⟩;rw[sr]at er;cases er;refine⟨⟨k1,k2,fun x m=>?_,fun x m=>?_,by lia⟩,fun w ew=>?_⟩
 ·have:=(k3 x (LR.mp m).1);exact⟨this.1,by lia⟩
 ·rcases k4 x m with m'|m'|m'
  ·exact .inl m'
  ·by_cases c:r<=2*x.b
   ·exact .inr (.inl (LR.mpr ⟨m',decide_eq_true c⟩))
   exact .inr (.inr (by lia))
  exact .inr (.inr (by lia))
 obtain⟨g1,g2⟩:=J0 w ew;refine⟨by lia,?_⟩;rw[g2,Bq (B:=B) lr (hS.2.2.2.2 i l r sl sr) hw.2.2.2.1 hw.2.2.2.2 mem sU,show(r-w).toNat=(l-w).toNat+(r-l).toNat by lia,ur,show w+((l-w).toNat:Int)=l by lia]
theorem Il{V:List Oc}{D:Int}(hw:mT B ws)(hS:Sds B ws S)(J:AJ B ws S ((S.zip (S.drop 1)).map ptP).length V th D):D=Ar B ws:=by
 rw[a_,P6,H_,show min S.length (S.length-1)=S.length-1 by lia]at J;obtain⟨u,_,n,s,_⟩:=hS;by_cases ne:ws=[]
 ·rw[J.1 (n ne),ne];unfold Ar Lm;exact(fN fun j _ _=>fN fun y _ _=>if_neg fun⟨o,ho,_⟩=>by cases ho).symm
 obtain⟨w,e,s0,s1,b1,b2,b3,b4⟩:=s ne;rw[((J.2 e s1).2 w s0).2];exact Be (fun x m=>(b4 x m).1) (fun x m=>(b4 x m).2) b2 b1 b3
noncomputable def AE:=And.intro @Mp.DF (@Mp.DF)
noncomputable def AF:=@PL.bu
end Mp
local macro_rules | `(tactic| walk_at "go")=>do
 let l<-("!PL.sM !PL.nY !PL.rh !PL.iP !PL.nW !PL.ng !PL.jg !PL.mB !PL.i5 !PL.iq !PL.dk !PL.eK !PL.jy !PL.fw !PL.iQ !PL.i8 !PL.nI !PL.iu !PL.fy !PL.jj !PL.hZ !PL.nE !PL.jx !PL.jG !PL.iF !PL.iM !PL.f9 !PL.ff !PL.nD !PL.jB !PL.iA !PL.eY !PL.hJ !PL.eM !PL.hX !PL.m9 !PL.ip !PL.j8 !PL.mh !PL.jF !PL.d0 !PL.jd !PL.rF !PL.gY !PL.eR !PL.iR !PL.fk !PL.jv !PL.mP !PL.lR !PL.lU !PL.nL !PL.mH !PL.iK !PL.jq !PL.jf !PL.iU !PL.ij !PL.eO !PL.mQ !PL.mS !PL.nF !PL.lX !PL.m5 !PL.mV !PL.lT !PL.lO !PL.mN !PL.k9 !PL.iC !PL.iH !PL.iZ !PL.jm !PL.eZ !PL.fG !PL.fC !PL.iw !PL.mU !PL.md !PL.mW !PL.nk !PL.mJ !PL.ny !PL.nP !PL.fA !PL.o8 !PL.rA !PL.nX !PL.lQ !PL.cJ !PL.cI !PL.gS !PL.nZ !PL.gX PL.mY PL.j7 PL.fE PL.eS PL.sk PL.sO PL.sC PL.rb PL.rJ PL.rR PL.rj PL.rq PL.dB PL.dP PL.cL PL.iY PL.cy PL.jc PL.cq PL.bP PL.bu PL.bQ PL.fJ PL.d4 PL.gR PL.dc PL.fv PL.d5 PL.ik PL.dw PL.d9 PL.iV PL.dJ PL.dC PL.dF PL.hC PL.dD PL.fB PL.ig PL.dg PL.cY PL.er PL.erL PL.aW PL.bF PL.cg PL.cT PL.lend PL.back PL.outs PL.frA PL.xf g_ Nb h_ Mf a_ Nl MV Po Oz MX Mj Oi List.zipWith_cons_cons List.zipWith_nil_left List.zipWith_nil_right decide_eq_true_eq decide_true decide_false Pf O9 Nm Bool.and_self true_and Option.map_some MN Nh PySem.sizeLine_eq PL.Th.v if_true if_false Mp.jo Nat.reduceAdd Nat.reduceSub Nat.reduceLeDiff Mp.nr Mp.dS Mp.d7 Mp.dE !Mp.nS !PL.jD !PL.iD !PL.ni !PL.iG Mp.cS Mp.fg Mp.bS Mp.b8 Mp.aR Mp.bD !Mp.bA !Mp.cn !Mp.bE Mp.bS Mp.b8 Mp.aR Mp.bD !Mp.bA !Mp.cn !Mp.bE Mp.nC Mp.fx Mp.dA Mp.dh !Mp.iB !Mp.ji !PL.iX !PL.sF Mp.sh Mp.nO Mp.dq Mp.eX !Mp.iI Mp.Az Mp.B0 Mp.nQ Mp.d8 Mp.de Mp.fF !Mp.jl !Mp.jw Mp.jP Mp.cG Mp.eP Mp.mE Mp.du Mp.dm Mp.A7 Mp.AR Mp.AM Mp.AU Mp.A9 Mp.Ay !Mp.jt !Mp.gU !Mp.iO !Mp.lZ Mp.eW Mp.nN !Mp.rX !Mp.rC !PL.mZ !Mp.iJ !Mp.js !Mp.ju !Mp.iy !Mp.jC !Mp.jz !Mp.gZ !Mp.iL Mp.bS Mp.b8 Mp.aR !Mp.bA !Mp.ja !Mp.nz Mp.jZ Mp.d6 Mp.dr !Mp.jA Mp.jV Mp.df Mp.dH Mp.dv !Mp.AE Mp.AF".splitOn " ").toArray.mapM fun s=>let i:Lean.Ident:=Lean.mkIdent (s.replace "!" "").toName;if s.front=='!' then `(Lean.Parser.Tactic.simpLemma|↓$i:ident) else `(Lean.Parser.Tactic.simpLemma|$i:ident)
 `(tactic| simp only[$l,*])
local macro_rules | `(tactic| walk_at "take")=>`(tactic| refine⟨_,_,_,rfl,by lia,by first|decide|lia,by first|decide|lia,?_⟩)
namespace Mp
open PySem L2 PL
noncomputable def oG:FP:=fun ts k=>∃(o:Bool) (os:List Oc) (i:Nat),ts=[.lst o (os.map ocT),.int (i:Int)]/\i<7/\os.length<=100/\∀(ms:List Int) (z:T),ms.Pairwise (·<·)->(∀z,z∈ms↔∃o∈os,z=gA i o\/z=gA (i+1) o)->k (.lst true (ms.map T.int)) [.lst o (os.map ocT),.int (i:Int)]
variable {f:QA}{fd:QW}
section
variable{P:QL}{w:QP}{K:Qz}{mg:Str->Option Qy}{base:QR}
theorem lJ:FnScope ["octos","at"] ["octos","at"] (ax gv):=⟨rfl,rfl,rfl,by decide +kernel,rfl,by decide +kernel,by decide +kernel⟩
theorem uU(F:Fun K "bounds_at" "bounds_at" gv f fd)(TX:Txt mg)  :FnOk P w K mg base CX0 1 f fd ["octos","at"] (aG K 2 oG):=by
 refine bz F lJ [true,true] rfl (fun cdv A outer s H E hr=>?_);have sc:=@lJ;have nd1:(["octo","at"]:List Str).Nodup:=by decide +kernel
 have nd2:(["octo","at"]:List Str).Nodup:=by decide +kernel
 refine⟨_,(ai (aE (aB (kT (by rfl) (by rfl) TX.sorted (by rfl) TX.set (aj aA (b6 sc ["octo","at"] [none,some 1] nd1 (by decide +kernel) (aO (ab 0)) (fun _ _ _=>(ak (i:=0) nd1 (by rfl) (e_ rfl) (by rfl) (hf:=(s_ rfl)))) (fun _ _ _=>b7) (fun _ _ _=>(ay hr (ab 0) (ab 1)))) (b6 sc ["octo","at"] [none,some 1] nd2 (by decide +kernel) (aO (ab 0)) (fun _ _ _=>(ak (i:=0) nd2 (by rfl) (e_ rfl) (by rfl) (hf:=(s_ rfl)))) (fun _ _ _=>b7) (fun _ _ _=>(ay hr (ab 0) (aj aA (ab 1) ge_int))))))))),fun ts kk hl hp=>?_⟩;clear hl;obtain⟨o,os,i,rfl,hi,hz,q⟩:=hp;walk_at "go";refine aL (by rw[a_,sizeLine_eq];lia) (fun j acc ie=>∃z1,acc=(os.take j).map (fun o=>T.int (gA i o))/\ie=[z1,.int (i:Int)]) ⟨_,rfl,rfl⟩ ?_ ?_
 ·rintro j t _ _ ⟨z1,rfl,rfl⟩ ei;obtain⟨o',eo,rfl⟩:=aK ei;walk_at "go";refine aY (FU (by lia)) ?_;walk_at "go";exact⟨_,by rw[map_take eo],rfl⟩
 rintro _ _ ⟨z1,rfl,rfl⟩;rw[a_,u_];walk_at "go";refine aL (by rw[a_,sizeLine_eq];lia) (fun j acc ie=>∃z1,acc=(os.take j).map (fun o=>T.int (gA (i+1) o))/\ie=[z1,.int (i:Int)]) ⟨_,rfl,rfl⟩ ?_ ?_
 ·rintro j t _ _ ⟨z1,rfl,rfl⟩ ei;obtain⟨o',eo,rfl⟩:=aK ei;walk_at "go";refine aY (FU (i:=i+1) (by lia)) ?_;walk_at "go";exact⟨_,by rw[map_take eo],rfl⟩
 rintro _ _ ⟨z1,rfl,rfl⟩;rw[a_,u_];walk_at "go";refine⟨by lia,aY A8 ?_⟩;walk_at "go";refine⟨by rw[d_,a_,a_];lia,fun ms h1 h2=>?_⟩;refine q ms .non h1 fun z=>?_;rw[h2 z,x_,r_,r_];exact⟨fun h=>h.elim (fun⟨o,m,e⟩=>⟨o,m,.inl e.symm⟩) fun⟨o,m,e⟩=>⟨o,m,.inr e.symm⟩,fun⟨o,m,e⟩=>e.elim (fun e=>.inl ⟨o,m,e.symm⟩) fun e=>.inr ⟨o,m,e.symm⟩⟩
end
noncomputable def jN:FP:=fun ts k=>∃(o:Bool) (os:List Oc) (B:Nat),ts=[.lst o (os.map ocT)]/\mT B os/\∀(S:List Int),Sds B os S->k (.lst true (S.map T.int)) [.lst o (os.map ocT)]
section
variable{P:QL}{w:QP}{K:Qz}{mg:Str->Option Qy}{base:QR}
theorem gx:FnScope ["octos","west","east","levels","falls","rises","sides","fall","rise"] ["octos"] (ax eD):=⟨rfl,rfl,rfl,by decide +kernel,rfl,by decide +kernel,by decide +kernel⟩
theorem qE(F:Fun K "strip_sides" "strip_sides" eD f fd)(TX:Txt mg)  (G_bounds_at:Cal P w K mg base 1 "bounds_at" ["octos","at"] (aG K 2 oG)):FnOk P w K mg base CX0 2 f fd ["octos"] (aG K 1 jN):=by
 refine bz F gx [true] rfl (fun cdv A outer s H E hr=>?_);have sc:=@gx;have nd1:(["octo"]:List Str).Nodup:=by decide +kernel
 have nd2:(["octo"]:List Str).Nodup:=by decide +kernel
 have nd3:(["bound"]:List Str).Nodup:=by decide +kernel
 have nd4:(["level","fall"]:List Str).Nodup:=by decide +kernel
 have nd5:(["rise","fall"]:List Str).Nodup:=by decide +kernel
 have nd6:(["level","rise"]:List Str).Nodup:=by decide +kernel
 have nd7:(["side","west","east"]:List Str).Nodup:=by decide +kernel
 refine⟨_,(ag (bj (cf (pT (cC (ab 0)))) (ai (aE (aB (bq af)))) aM) (ag (az (i:=1) sc.nd (by rfl) (s_ rfl) (by rfl) (aB (aj aH ge_int (aq (fD rfl) (by rfl) TX.min (by decide +kernel) (ae (b6 sc ["octo"] [none] nd1 (by decide +kernel) (aO (ab 0)) (fun _ _ _=>(ak (i:=0) nd1 (by rfl) (e_ rfl) (by rfl) (hf:=(s_ rfl)))) (fun _ _ _=>b7) (fun _ _ _=>(ay hr (ab 0) ge_int))) af))))) (ag (az (i:=2) sc.nd (by rfl) (s_ rfl) (by rfl) (aB (aj aH ge_int (aq (dI rfl) (by rfl) TX.max (by decide +kernel) (ae (b6 sc ["octo"] [none] nd2 (by decide +kernel) (aO (ab 0)) (fun _ _ _=>(ak (i:=0) nd2 (by rfl) (e_ rfl) (by rfl) (hf:=(s_ rfl)))) (fun _ _ _=>b7) (fun _ _ _=>(ay hr (ab 0) ge_int))) af))))) (ag (az (i:=3) sc.nd (by rfl) (e_ rfl) (by rfl) (aB (au G_bounds_at hr (by rfl) (ah (ab 0) (ah ge_int av))))) (ag (az (i:=4) sc.nd (by rfl) (e_ rfl) (by rfl) (aB (au G_bounds_at hr (by rfl) (ah (ab 0) (ah ge_int av))))) (ag (az (i:=5) sc.nd (by rfl) (e_ rfl) (by rfl) (aB (au G_bounds_at hr (by rfl) (ah (ab 0) (ah ge_int av))))) (ag (bj (cf (aT kD (aj bc (ab 2) (ab 1)) (aj aA (aj aH (aq aV (by rfl) TX.len (by decide +kernel) (ae (ab 3) af)) (aj aA (aq aV (by rfl) TX.len (by decide +kernel) (ae (ab 4) af)) (aq aV (by rfl) TX.len (by decide +kernel) (ae (ab 5) af)))) (aj aH (aq aV (by rfl) TX.len (by decide +kernel) (ae (ab 4) af)) (aq aV (by rfl) TX.len (by decide +kernel) (ae (ab 5) af)))) (aJ _))) (ai (aE (aB (qU (by rfl) (by rfl) TX.list (by rfl) TX.range (ae (ab 1) (ae (aj aA (ab 2) ge_int) af)))))) aM) (ag (pW sc (i:=6) ["bound"] [none] nd3 (by decide +kernel) (by rfl) (e_ rfl) (by rfl) (aO (au G_bounds_at hr (by rfl) (ah (ab 0) (ah ge_int av)))) (fun _ _ _=>(ak (i:=0) nd3 (by rfl) (e_ rfl) (by rfl) (hf:=(s_ rfl)))) (fun _ _ _=>b7) (fun _ _ _=>(aj aH ge_int (ab 0))) (by rfl)) (ag (bp QX (by rfl) (aO (bB 4)) (ak (i:=7) sc.nd (by rfl) (s_ rfl) (by rfl)) (ag (bJ (bL 6 S9 S_ jO (ae (aB (b6 sc ["level","fall"] [none,some 7] nd4 (by decide +kernel) (aO (ab 3)) (fun _ _ _=>(ak (i:=0) nd4 (by rfl) (e_ rfl) (by rfl) (hf:=(s_ rfl)))) (fun _ _ _=>b7) (fun _ _ _=>(aj aH ge_int (aj bc (ab 1) (ab 0)))))) af))) (ai (bJ (bL 6 S9 S_ jO (ae (aB (b6 sc ["rise","fall"] [none,some 7] nd5 (by decide +kernel) (aO (ab 5)) (fun _ _ _=>(ak (i:=0) nd5 (by rfl) (e_ rfl) (by rfl) (hf:=(s_ rfl)))) (fun _ _ _=>b7) (fun _ _ _=>(aj aA (ab 1) (ab 0))))) af)))))) (ag (bp QX (by rfl) (aO (bB 5)) (ak (i:=8) sc.nd (by rfl) (s_ rfl) (by rfl)) (ai (bJ (bL 6 S9 S_ jO (ae (aB (b6 sc ["level","rise"] [none,some 8] nd6 (by decide +kernel) (aO (ab 3)) (fun _ _ _=>(ak (i:=0) nd6 (by rfl) (e_ rfl) (by rfl) (hf:=(s_ rfl)))) (fun _ _ _=>b7) (fun _ _ _=>(aj aH ge_int (aj aA (ab 1) (ab 0)))))) af))))) (ai (aE (aB (kT (by rfl) (by rfl) TX.sorted (by rfl) TX.set (b6 sc ["side","west","east"] [none,some 1,some 2] nd7 (by decide +kernel) (aO (ab 6)) (fun _ _ _=>(ak (i:=0) nd7 (by rfl) (e_ rfl) (by rfl) (hf:=(s_ rfl)))) (fun _ _ _=>(tm (Bl kD kD (ab 1) (ab 0) (ab 2)))) (fun _ _ _=>(ab 0))))))))))))))))),fun ts kk hl hp=>?_⟩;clear hl;obtain⟨o,os,B,rfl,⟨hz,hB,hc,vo,bd⟩,q⟩:=hp;walk_at "go";refine nA (fun h=>?_) (fun h=>?_)
 ·have e0:os=[]:=Nk.mp (PZ.mp h);walk_at "go";refine q [] ⟨.nil,by decide,fun _=>rfl,fun z=>absurd e0 z,fun i l r e=>by cases e⟩
 have ne:os≠[]:=fun z=>by rw[z]at h;cases h
 have hne:∀j,os.map (gA j)≠[]:=fun j z=>ne (Nk.mp z);walk_at "go";refine aL (by rw[a_,sizeLine_eq];lia) (fun j acc ie=>∃z1,acc=(os.take j).map (fun o=>T.int (gA 0 o))/\ie=[z1]) ⟨_,rfl,rfl⟩ ?_ ?_
 ·rintro j t _ _ ⟨z1,rfl,rfl⟩ ei;obtain⟨o',eo,rfl⟩:=aK ei;walk_at "go";exact⟨_,by rw[map_take eo];rfl,rfl⟩
 rintro _ _ ⟨z1,rfl,rfl⟩;rw[a_,u_];walk_at "go";refine⟨hne 0,fun W hW=>⟨c2 _,?_⟩⟩;refine aL (by rw[a_,sizeLine_eq];lia) (fun j acc ie=>∃z1,acc=(os.take j).map (fun o=>T.int (gA 1 o))/\ie=[z1]) ⟨_,rfl,rfl⟩ ?_ ?_
 ·rintro j t _ _ ⟨z1,rfl,rfl⟩ ei;obtain⟨o',eo,rfl⟩:=aK ei;walk_at "go";exact⟨_,by rw[map_take eo];rfl,rfl⟩
 rintro _ _ ⟨z1,rfl,rfl⟩;rw[a_,u_];walk_at "go";refine⟨hne 1,fun E hE=>⟨c2 _,?_⟩⟩;refine⟨false,os,2,rfl,by decide,by lia,fun lv _ lv1 lv2=>?_⟩;walk_at "go";refine⟨false,os,4,rfl,by decide,by lia,fun fa _ fa1 fa2=>?_⟩;walk_at "go";refine⟨false,os,6,rfl,by decide,by lia,fun ri _ ri1 ri2=>?_⟩;walk_at "go";have bl:=p0 lv1 lv2;have bf:=p0 fa1 fa2;have br:=p0 ri1 ri2;have w1:∃o∈os,W=o.a:=by obtain⟨x,m,e⟩:=r_.mp hW.1;exact⟨x,m,e.symm⟩
 have w2:∀o∈os,W<=o.a:=fun x m=>hW.2 _ (Mk (f:=gA 0) m);have e1:∃o∈os,E=o.b:=by obtain⟨x,m,e⟩:=r_.mp hE.1;exact⟨x,m,e.symm⟩
 have e2:∀o∈os,o.b<=E:=fun x m=>hE.2 _ (Mk (f:=gA 1) m);have bW:-(B:Int)<=W/\W<=E/\E<=B:=by obtain⟨x,m,e⟩:=w1;obtain⟨y,m',e'⟩:=e1;have g1:=(bd x m).1;have g2:=(bd y m').1;have g3:=e2 x m;have g4:=(vo x m).1.1;lia
 refine⟨.inl ⟨by lia,by lia⟩,.inl ⟨by lia,by lia⟩,ba (fun h2=>?_) (fun h2=>?_)⟩
 ·have hl:2*E-2*W<=50000:=by
   have p1:lv.length*(fa.length+ri.length)<=128*256:=M3 (by lia) (by lia);have p2:fa.length*ri.length<=128*128:=M3 (by lia) (by lia);have p1':(lv.length:Int)*((fa.length:Int)+ri.length)<=128*256:=by exact_mod_cast p1
   have p2':(fa.length:Int)*ri.length<=128*128:=by exact_mod_cast p2
   lia
  walk_at "go";refine⟨⟨by lia,by lia,by lia,by lia,by lia⟩,?_⟩;have:=q _ (AA ne vo bd w1 w2 e1 e2 hl);rw[A']at this;refine⟨?_,this⟩;unfold jI;rw[bQ];exact Nf.mpr fun _ _=>rfl
 walk_at "go";refine⟨false,os,0,rfl,by decide,by lia,fun xb _ xb1 xb2=>?_⟩;walk_at "go";have bx:=p0 xb1 xb2;refine aL (by rw[a_,sizeLine_eq];lia) (fun j acc ie=>∃z1,acc=(xb.take j).map (fun x=>T.int (2*x))/\ie=[z1]) ⟨_,rfl,rfl⟩ ?_ ?_
 ·rintro j t _ _ ⟨z1,rfl,rfl⟩ ei;obtain⟨x,ex,rfl⟩:=aK ei;walk_at "go";exact⟨c2 _,_,by rw[map_take ex],rfl⟩
 rintro _ _ ⟨z1,rfl,rfl⟩;rw[a_,u_];walk_at "go";refine aS (fun i env=>∃(L:List Int) (z7 z8:T),L.length=xb.length+i*(lv.length+ri.length)/\(∀x∈xb,2*x∈L)/\(∀f∈fa.take i,(∀l∈lv,2*(f-l)∈L)/\∀r∈ri,f+r∈L)/\env=[.lst o (os.map ocT),.int (2*W),.int (2*E),.lst true (lv.map T.int),.lst false (fa.map T.int),.lst true (ri.map T.int),.lst true (L.map T.int),z7,z8]) ⟨xb.map fun x=>2*x,_,_,by rw[a_];lia,fun x m=>r_.mpr ⟨x,m,rfl⟩,(fun f m=>by cases m),by rw[A'];rfl⟩ ?_ ?_
 ·rintro i t _ ⟨L,z7,z8,hL,k1,k2,rfl⟩ ei;obtain⟨f,ef,rfl⟩:=aK ei;have hi:i<fa.length:=(f_.mp ef).1;have hm:i*(lv.length+ri.length)<=128*256:=M3 (by lia) (by lia);walk_at "go";refine aL (by rw[a_,sizeLine_eq];lia) (fun j acc ie=>∃z1,acc=(lv.take j).map (fun l=>T.int (2*(f-l)))/\ie=[z1,.int f]) ⟨_,rfl,rfl⟩ ?_ ?_
  ·rintro j t _ _ ⟨z1,rfl,rfl⟩ ej;obtain⟨x,ex,rfl⟩:=aK ej;walk_at "go";exact⟨c2 _,_,by rw[map_take ex],rfl⟩
  rintro _ _ ⟨z1,rfl,rfl⟩;rw[a_,u_];walk_at "go";refine⟨by lia,aL (by rw[a_,sizeLine_eq];lia) (fun j acc ie=>∃z1,acc=(ri.take j).map (fun r=>T.int (f+r))/\ie=[z1,.int f]) ⟨_,rfl,rfl⟩ ?_ ?_⟩
  ·rintro j t _ _ ⟨z1,rfl,rfl⟩ ej;obtain⟨x,ex,rfl⟩:=aK ej;walk_at "go";exact⟨_,by rw[map_take ex],rfl⟩
  rintro _ _ ⟨z1,rfl,rfl⟩;rw[a_,u_];walk_at "go";refine⟨by first|omega|(rw[d_,a_,a_];lia),L++(lv.map fun l=>2*(f-l))++ri.map (fun r=>f+r),_,_,?_,fun x m=>y_ _ (y_ _ (k1 x m)),fun g m=>?_,by rw[p_,p_,A',A'];rfl⟩
  ·rw[d_,d_,a_,a_,hL,Qn];lia
  rw[LP,ef]at m;rcases x_.mp m with m|m
  ·exact⟨fun l ml=>y_ _ (y_ _ ((k2 g m).1 l ml)),fun r mr=>y_ _ (y_ _ ((k2 g m).2 r mr))⟩
  obtain rfl:g=f:=w_.mp m;exact⟨fun l ml=>y_ _ (n_ _ (r_.mpr ⟨l,ml,rfl⟩)),fun r mr=>n_ _ (r_.mpr ⟨r,mr,rfl⟩)⟩
 rintro _ ⟨L,z7,z8,hL,k1,k2,rfl⟩;rw[a_]at hL k2;rw[u_]at k2;walk_at "go";have hm:fa.length*(lv.length+ri.length)<=128*256:=M3 (by lia) (by lia);refine aS (fun i env=>∃(M:List Int) (z7 z8:T),M.length=L.length+i*lv.length/\(∀x∈L,x∈M)/\(∀r∈ri.take i,∀l∈lv,2*(r+l)∈M)/\env=[.lst o (os.map ocT),.int (2*W),.int (2*E),.lst true (lv.map T.int),.lst false (fa.map T.int),.lst false (ri.map T.int),.lst true (M.map T.int),z7,z8]) ⟨L,_,_,by lia,fun x m=>m,(fun f m=>by cases m),rfl⟩ ?_ ?_
 ·rintro i t _ ⟨M,z7,z8,hM,j1,j2,rfl⟩ ei;obtain⟨r,er,rfl⟩:=aK ei;have hi:i<ri.length:=(f_.mp er).1;have hm2:i*lv.length<=128*128:=M3 (by lia) (by lia);walk_at "go";refine aL (by rw[a_,sizeLine_eq];lia) (fun j acc ie=>∃z1,acc=(lv.take j).map (fun l=>T.int (2*(r+l)))/\ie=[z1,.int r]) ⟨_,rfl,rfl⟩ ?_ ?_
  ·rintro j t _ _ ⟨z1,rfl,rfl⟩ ej;obtain⟨x,ex,rfl⟩:=aK ej;walk_at "go";exact⟨c2 _,_,by rw[map_take ex],rfl⟩
  rintro _ _ ⟨z1,rfl,rfl⟩;rw[a_,u_];walk_at "go";refine⟨by lia,M++lv.map (fun l=>2*(r+l)),_,_,?_,fun x m=>y_ _ (j1 x m),fun g m l ml=>?_,by rw[p_,A'];rfl⟩
  ·rw[d_,a_,hM,Qn];lia
  rw[LP,er]at m;rcases x_.mp m with m|m
  ·exact y_ _ (j2 g m l ml)
  obtain rfl:g=r:=w_.mp m;exact n_ _ (r_.mpr ⟨l,ml,rfl⟩)
 rintro _ ⟨M,z7,z8,hM,j1,j2,rfl⟩;rw[a_]at hM j2;rw[u_]at j2;walk_at "go";have hm3:ri.length*lv.length<=128*128:=M3 (by lia) (by lia);refine aL (by rw[a_,sizeLine_eq];lia) (fun j acc ie=>∃z1,acc=((M.take j).filter fun x=>decide (2*W<=x/\x<=2*E)).map T.int/\ie=[z1,.int (2*W),.int (2*E)]) ⟨_,rfl,rfl⟩ ?_ ?_
 ·rintro j t _ _ ⟨z1,rfl,rfl⟩ ej;obtain⟨x,ex,rfl⟩:=aK ej;walk_at "go";rw[iS ex];refine ba (fun g1=>?_) (fun g1=>?_)
  ·walk_at "go";refine ba (fun g2=>?_) (fun g2=>?_)
   ·walk_at "go";exact⟨_,by rw[if_pos ⟨g1,g2⟩],rfl⟩
   walk_at "go";exact⟨_,by rw[if_neg fun z=>g2 z.2,E_],rfl⟩
  walk_at "go";exact⟨_,by rw[if_neg fun z=>g1 z.1,E_],rfl⟩
 rintro _ _ ⟨z1,rfl,rfl⟩;rw[a_,u_];walk_at "go";have fl:=MB (fun x=>decide (2*W<=x/\x<=2*E)) M;have small:M.length<4095:=by
  have n1:=Qs fa.length lv.length ri.length;have n2:=Qs lv.length fa.length ri.length;have n3:=Qo lv.length fa.length;have n4:=Qo lv.length ri.length;have h3:lv.length*(fa.length+ri.length)+fa.length*ri.length<(2*E-2*W).toNat:=by
   have:((lv.length*(fa.length+ri.length)+fa.length*ri.length:Nat):Int)<2*E-2*W:=by push_cast;lia
   lia
  rcases hc with hc|hc
  ·have m1:fa.length*(lv.length+ri.length)<=28*56:=M3 (by lia) (by lia);have m2:ri.length*lv.length<=28*28:=M3 (by lia) (by lia);lia
  lia
 refine⟨by omega,fun S h1 h2=>q S (yB (c:=fun z=>z∈M) ne vo bd w1 w2 e1 e2 ⟨fun x m=>?_,fun x m t' et y m' u eu y' m'' v ev=>?_⟩ h1 (fun z=>?_) ?_)⟩
 ·exact⟨j1 _ (k1 _ ((xb2 _).mpr ⟨x,m,.inl rfl⟩)),j1 _ (k1 _ ((xb2 _).mpr ⟨x,m,.inr rfl⟩))⟩
 ·have il:t'∈lv:=(lv2 _).mpr ⟨x,m,et⟩;have if':u∈fa:=(fa2 _).mpr ⟨y,m',eu⟩;have ir:v∈ri:=(ri2 _).mpr ⟨y',m'',ev⟩;exact⟨j1 _ ((k2 u if').1 _ il),j2 v ir _ il,j1 _ ((k2 u if').2 _ ir)⟩
 ·rw[h2 z,LR,decide_eq_true_iff]
 have:=DH (FZ h1) fun z hz=>(h2 z).mp hz;lia
end
noncomputable def gn:FP:=fun ts k=>∃(o:Bool) (os:List Oc) (m:Int),ts=[.lst o (os.map ocT),.int m]/\os.length<=1000/\∀(U:List Oc) (z:T),U.Perm os->(spn U m).Pairwise (fun p q=>p.1<=q.1)->k (.int (sw (xN (spn U m)) (spn U m))) [z,.int m]
section
variable{P:QL}{w:QP}{K:Qz}{mg:Str->Option Qy}{base:QR}
theorem fS:FnScope ["octos","middle","spans","octo","low","high","length","top"] ["octos","middle"] (ax dO):=⟨rfl,rfl,rfl,by decide +kernel,rfl,by decide +kernel,by decide +kernel⟩
theorem oN(F:Fun K "length_along" "length_along" dO f fd)(TX:Txt mg)  :FnOk P w K mg base CX0 1 f fd ["octos","middle"] (aG K 2 gn):=by
 refine bz F fS [true,true] rfl (fun cdv A outer s H E hr=>?_);have sc:=@fS;refine⟨_,(ag (az (i:=2) sc.nd (by rfl) (e_ rfl) (by rfl) (aB (bq af))) (ag (bp QX (by rfl) (aO (bB 0)) (ak (i:=3) sc.nd (by rfl) (e_ rfl) (by rfl)) (ag (az (i:=4) sc.nd (by rfl) (e_ rfl) (by rfl) (aB (aq (dI rfl) (by rfl) TX.max (by decide +kernel) (ae (aj aH ge_int (ay hr (ab 3) ge_int)) (ae (aj bc (aj aH ge_int (ay hr (ab 3) ge_int)) (ab 1)) (ae (aj bc (ab 1) (aj aH ge_int (ay hr (ab 3) ge_int))) af)))))) (ag (az (i:=5) sc.nd (by rfl) (e_ rfl) (by rfl) (aB (aq (fD rfl) (by rfl) TX.min (by decide +kernel) (ae (aj aH ge_int (ay hr (ab 3) ge_int)) (ae (aj bc (aj aH ge_int (ay hr (ab 3) ge_int)) (ab 1)) (ae (aj bc (ab 1) (aj aH ge_int (ay hr (ab 3) ge_int))) af)))))) (ai (bJ (bL 2 Q3 Q4 bh (ae (aB (aD (ae (ab 4) (ae (ab 5) af)))) af))))))) (ag (az (i:=2) sc.nd (by rfl) (e_ rfl) (by rfl) (aB (aq qV (by rfl) TX.sorted (by decide +kernel) (ae (ab 2) af)))) (ag (az (i:=6) sc.nd (by rfl) (e_ rfl) (by rfl) ge_int) (ag (az (i:=7) sc.nd (by rfl) (e_ rfl) (by rfl) (aB (ge_if (cC (ab 2)) (ay hr (ay hr (ab 2) ge_int) ge_int) ge_int))) (ag (bp QX (by rfl) (aO (bB 2)) (cB (n:=2) (by rfl) (aC (ak (i:=4) sc.nd (by rfl) (e_ rfl) (by rfl)) (aC (ak (i:=5) sc.nd (by rfl) (e_ rfl) (by rfl)) bT))) (ai (bj (cf (aT pS (ab 5) (ab 7) (aJ _))) (ag (C4 (i:=6) sc.nd (by rfl) (e_ rfl) (by rfl) (aB (aj bc (ab 5) (aq (dI rfl) (by rfl) TX.max (by decide +kernel) (ae (ab 4) (ae (ab 7) af))))) yC) (ai (az (i:=7) sc.nd (by rfl) (e_ rfl) (by rfl) (bB 5)))) aM))) (ai (aE (qL 6))))))))),fun ts kk hl hp=>?_⟩;clear hl;obtain⟨o,os,m,rfl,hz,q⟩:=hp;walk_at "go";refine aS (fun i env=>∃z3 z4 z5,env=[.lst false (os.map ocT),.int m,.lst true ((spn (os.take i) m).map ptP),z3,z4,z5,.any,.any]) ⟨_,_,_,rfl⟩ ?_ ?_
 ·rintro i t _ ⟨z3,z4,z5,rfl⟩ ei;obtain⟨x,ex,rfl⟩:=aK ei;have hi:=(f_.mp ex).1;have ll:(spn (os.take i) m).length<=i:=by unfold spn;rw[a_,D_];lia
  walk_at "go";exact⟨c4 _,c4 _,c4 _,c4 _,c4 _,c4 _,by lia,_,_,_,by rw[BU ex,p_];rfl⟩
 rintro _ ⟨z3,z4,z5,rfl⟩;rw[a_,u_];walk_at "go";obtain⟨U,pU,eU,sU⟩:=Fy (os:=os) (m:=m);rw[eU];have hq:∀z,kk _ _:=fun z=>q U z pU sU;clear q;have ln:(spn U m).length=os.length:=by unfold spn;rw[a_,pU.length_eq]
 generalize spn U m=sp at *;cases sp with
 |nil=>
  refine nA (fun _=>?_) (fun h=>by cases h);walk_at "go";refine aS (fun i env=>env=[.lst false (os.map ocT),.int m,.lst false [],z3,z4,z5,.int 0,.int 0]) rfl (fun i t env _ e=>by cases e) ?_;rintro _ rfl;walk_at "go";exact hq _
 |cons p r=>
  refine nA (fun h=>by cases h) (fun _=>?_);walk_at "go";have el:ptP p::G' (fun x=>ptP x) r=(p::r).map ptP:=rfl;rw[el];have e0:xN (p::r)=p.1:=rfl;rw[e0]at hq;generalize p.1=t0 at *;generalize p::r=sp at *;refine aS (fun i env=>∃(a t:Int) (z4 z5:T),a+sw t (sp.drop i)=sw t0 sp/\env=[.lst false (os.map ocT),.int m,.lst false (sp.map ptP),z3,z4,z5,.int a,.int t]) ⟨0,t0,_,_,by rw[Na];lia,rfl⟩ ?_ ?_
  ·rintro i t _ ⟨a,t,z4,z5,ha,rfl⟩ ei;obtain⟨x,ex,rfl⟩:=aK ei;have hi:=(f_.mp ex).1;have ed:sp.drop i=x::sp.drop (i+1):=by rw[NP hi];congr 1;exact(f_.mp ex).2
   rw[ed,sw]at ha;walk_at "go";refine ba (fun g=>?_) (fun g=>?_)
   ·rw[if_pos g]at ha;walk_at "go";exact⟨_,_,_,_,by rw[<-ha];lia,rfl⟩
   rw[if_neg g]at ha;walk_at "go";exact⟨_,_,_,_,ha,rfl⟩
  rintro _ ⟨a,t,z4,z5,ha,rfl⟩;rw[a_,List.drop_length]at ha;have ha:a+0=_:=ha;rw[Oo]at ha;subst ha;walk_at "go";exact hq _
end
noncomputable def m8:FP:=fun ts k=>∃(c o b u:Bool) (os:List Oc) (B:Nat),ts=[ogT c o b u os]/\mT B os/\∀z:T,k (.int (Ar B os/2)) [z]
section
variable{P:QL}{w:QP}{K:Qz}{mg:Str->Option Qy}{base:QR}
theorem qC:FnScope ["octos","waiting","sides","there","doubled","left","right"] ["octos"] (ax nV):=⟨rfl,rfl,rfl,by decide +kernel,rfl,by decide +kernel,by decide +kernel⟩
theorem xg(F:Fun K "area_of" "area_of" nV f fd)(TX:Txt mg)  (G_strip_sides:Cal P w K mg base 2 "strip_sides" ["octos"] (aG K 1 jN))(G_length_along:Cal P w K mg base 1 "length_along" ["octos","middle"] (aG K 2 gn)):FnOk P w K mg base CX0 3 f fd ["octos"] (aG K 1 m8):=by
 refine bz F qC [true] rfl (fun cdv A outer s H E hr=>?_);have sc:=@qC;have nd1:(["octo"]:List Str).Nodup:=by decide +kernel
 have nd2:(["octo","right"]:List Str).Nodup:=by decide +kernel
 refine⟨_,(ag (az (i:=1) sc.nd (by rfl) (e_ rfl) (by rfl) (aB (uX (by rfl) TX.sorted (b6 sc ["octo"] [none] nd1 (by decide +kernel) (aO (ab 0)) (fun _ _ _=>(ak (i:=0) nd1 (by rfl) (e_ rfl) (by rfl) (hf:=(s_ rfl)))) (fun _ _ _=>b7) (fun _ _ _=>(cN cv (by rfl) TX.tuple (by decide +kernel) (ae (ab 0) af))))))) (ag (az (i:=2) sc.nd (by rfl) (e_ rfl) (by rfl) (aB (au G_strip_sides hr (by rfl) (ah (ab 1) av)))) (ag (az (i:=3) sc.nd (by rfl) (e_ rfl) (by rfl) (aB (bq af))) (ag (az (i:=4) sc.nd (by rfl) (e_ rfl) (by rfl) ge_int) (ag (bp QX (by rfl) (y9 (by rfl) TX.zip (ae (bB 2) (ae (aB (pM (ab 2) (uI ge_int) ui)) af))) (cB (n:=2) (by rfl) (aC (ak (i:=5) sc.nd (by rfl) (e_ rfl) (by rfl)) (aC (ak (i:=6) sc.nd (by rfl) (s_ rfl) (by rfl)) bT))) (dX (BE QX (cf (x6 (t9 (cC (ab 1)) (pq (aT kD (aj aH ge_int (ay hr (ay hr (ab 1) (bC ge_int)) ge_int)) (ab 5) (aJ _)))))) (ai (bJ (bL 3 Q3 Q4 bh (ae (Bp 1 PySem.F.slot_list_pop PySem.F.type_list_pop Fz) af))))) (ag (pW sc (i:=3) ["octo","right"] [none,some 6] nd2 (by decide +kernel) (by rfl) (e_ rfl) (by rfl) (aO (ab 3)) (fun _ _ _=>(ak (i:=0) nd2 (by rfl) (e_ rfl) (by rfl) (hf:=(s_ rfl)))) (fun _ _ _=>(tm (aT GY (aj aH ge_int (ay hr (ab 0) ge_int)) (ab 1) (aJ _)))) (fun _ _ _=>(ab 0)) (by rfl)) (ai (C4 (i:=4) sc.nd (by rfl) (e_ rfl) (by rfl) (aB (aj aH (aj bc (ab 6) (ab 5)) (au G_length_along hr (by rfl) (ah (ab 3) (ah (aj aA (ab 5) (ab 6)) av))))) yC))))) (ai (aE (aB (aj tM (ab 4) ge_int))))))))),fun ts kk hl hp=>?_⟩;clear hl;obtain⟨c,o,b,u,os,B,rfl,hs,q⟩:=hp;walk_at "go";have hlen:=hs.1;refine aL (by rw[a_,sizeLine_eq];lia) (fun j acc ie=>∃z1,acc=(os.take j).map ocT/\ie=[z1]) ⟨_,rfl,rfl⟩ ?_ ?_
 ·rintro j t _ _ ⟨z1,rfl,rfl⟩ ei;obtain⟨x,ex,rfl⟩:=aK ei;walk_at "go";exact⟨_,by rw[map_take ex],rfl⟩
 rintro _ _ ⟨z1,rfl,rfl⟩;rw[a_,u_];walk_at "go";refine aY (oF ocT ocL HD (fun x=>OY _ _) os) ?_;intro ls pl sl;obtain⟨ws,pw,rfl⟩:=qe pl rfl;have dn:=Fo sl;have hw:mT B ws:=Cj (by rw[pw.length_eq];exact b_ _) (fun x m=>pw.mem_iff.mp m) hs;have hA:Ar B ws=Ar B os:=IY fun x=>pw.mem_iff;rw[<-hA]at q;clear hA pl sl;have el:(ws.map ocL).map iT=ws.map ocT:=by rw[A'];rfl
 rw[el];walk_at "go";refine⟨false,ws,B,rfl,hw,fun S hS=>?_⟩;walk_at "go";rw[L5 (ts:=G' (fun x=>T.int x) S)];refine⟨by rw[<-Ph,bQ];exact Nf.mpr fun _ _=>rfl,?_⟩;rw[CT];refine aS (fun i env=>∃(V th:List Oc) (D:Int) (z5 z6:T),AJ B ws S i V th D/\env=[ogT c o b u os,.lst true (V.map ocT),.lst false (S.map T.int),.lst true (th.map ocT),.int D,z5,z6]) ⟨ws,[],0,_,_,Le dn,rfl⟩ ?_ ?_
 ·rintro i t _ ⟨V,th,D,z5,z6,J,rfl⟩ ei;obtain⟨⟨l,r⟩,ex,rfl⟩:=aK ei;obtain⟨sl,sr⟩:=IV ex;have J':=J.2 l sl;walk_at "go";refine gC (fun env=>∃(V th:List Oc),AK ws l V th/\(∀x∈V,l<2*x.a)/\env=[ogT c o b u os,.lst true (V.map ocT),.lst false (S.map T.int),.lst true (th.map ocT),.int D,.int l,.int r]) ?_ ?_
  ·walk_at "go";refine AN (fun m env=>∃(V th:List Oc),m=V.length/\AK ws l V th/\env=[ogT c o b u os,.lst true (V.map ocT),.lst false (S.map T.int),.lst true (th.map ocT),.int D,.int l,.int r]) V.length ⟨V,th,rfl,J'.1,rfl⟩ ?_;rintro m _ ⟨V,th,rfl,K',rfl⟩;walk_at "go";rcases List.eq_nil_or_concat V with rfl|⟨V',x,rfl⟩
   ·refine nA (fun _=>?_) (fun h=>by cases h);walk_at "go";exact⟨[],th,K',(fun x m=>by cases m),rfl⟩
   have lc:=Pw (as:=V') (a:=x);refine nA (fun h=>?_) (fun _=>?_)
   ·rw[PZ,Nk]at h;rw[h]at lc;cases lc
   walk_at "go";refine aY (Ej V' x) ?_;walk_at "go";refine⟨c2 _,ba (fun g=>?_) (fun g=>?_)⟩
   ·walk_at "go";refine aY (wk V' x).1 ?_;rw[(wk V' x).2];walk_at "go";have:=K'.2.2.2.2;have:=hw.1;refine⟨by lia,V'.length,by lia,V',th++[x],rfl,HU K' g,by rw[p_];rfl⟩
   walk_at "go";refine⟨V'.concat x,th,K',fun y m=>?_,rfl⟩;rw[ML]at m;have:=K'.1;rw[ML,C_]at this;rcases x_.mp m with m|m
   ·have:=this.2.2 y m x o_;lia
   rw[w_.mp m];lia
  have J0:=J'.2;clear J' z5 z6 V th J;rintro _ ⟨V,th,K',hV,rfl⟩;walk_at "go";have tl:=K'.2.2.2.2;have wl:=hw.1;refine aL (by rw[a_,sizeLine_eq];lia) (fun j acc ie=>∃z1,acc=((th.take j).filter fun x=>decide (r<=2*x.b)).map ocT/\ie=[z1,.int r]) ⟨_,rfl,rfl⟩ ?_ ?_
  ·rintro j t _ _ ⟨z1,rfl,rfl⟩ ej;obtain⟨x,ex,rfl⟩:=aK ej;walk_at "go";rw[iS ex];refine⟨c2 _,ba (fun g=>?_) (fun g=>?_)⟩
   ·walk_at "go";exact⟨_,by rw[if_pos g],rfl⟩
   walk_at "go";exact⟨_,by rw[if_neg g,E_],rfl⟩
  rintro _ _ ⟨z1,rfl,rfl⟩;rw[a_,u_];walk_at "go";have fl:=MB (fun x:Oc=>decide (r<=2*x.b)) th;refine⟨false,_,l+r,rfl,by lia,fun U z pU sU=>?_⟩;walk_at "go";have lr:=CU hw hS sl sr;exact⟨.inl ⟨by lia,by lia⟩,V,_,_,_,_,DY hw hS sl sr J0 K' hV pU sU,rfl⟩
 rintro _ ⟨V,th,D,z5,z6,J,rfl⟩;walk_at "go";refine⟨⟨by decide,by decide⟩,?_⟩;rw[Il hw hS J];exact q _
end
noncomputable def ra:FP:=fun ts k=>∃(p:Pt) (d:Nat) (m:Int),ts=[ptP p,.int d,.int m]/\d<8/\k (ptP (vK p d m)) ts
section
variable{P:QL}{w:QP}{K:Qz}{mg:Str->Option Qy}{base:QR}
theorem qS:FnScope ["corner","direction","many","step"] ["corner","direction","many"] (ax lY):=⟨rfl,rfl,rfl,by decide +kernel,rfl,by decide +kernel,by decide +kernel⟩
theorem y0(F:Fun K "stepped" "stepped" lY f fd)(TX:Txt mg)(C_STEPS:Glb K mg "STEPS" tO) :FnOk P w K mg base CX0 1 f fd ["corner","direction","many"] (aG K 3 ra):=by refine bz F qS [true,true,true] rfl (fun cdv A outer s H E hr=>?_);have sc:=@qS;refine⟨_,(ag (az (i:=3) sc.nd (by rfl) (e_ rfl) (by rfl) (aB (ay hr (KL C_STEPS (by rfl)) (ab 1)))) (ai (aE (aB (aD (ae (aj aA (ay hr (ab 0) ge_int) (aj aH (ay hr (ab 3) ge_int) (ab 2))) (ae (aj aA (ay hr (ab 0) ge_int) (aj aH (ay hr (ab 3) ge_int) (ab 2))) af))))))),fun ts kk hl hp=>?_⟩;clear hl;obtain⟨p,d,m,rfl,hd,q⟩:=hp;walk_at "go";refine aY (Cg hd) ?_;have:=Al d hd;walk_at "go";exact⟨.inl (by lia),.inl (by lia),q⟩
end
noncomputable def qf:FP:=fun ts k=>∃(p q:Pt),ts=[ptP p,ptP q]/\k (yv p q) ts
section
variable{P:QL}{w:QP}{K:Qz}{mg:Str->Option Qy}{base:QR}
theorem og:FnScope ["one","other","many","direction"] ["one","other"] (ax kj):=⟨rfl,rfl,rfl,by decide +kernel,rfl,by decide +kernel,by decide +kernel⟩
theorem vc(F:Fun K "straight" "straight" kj f fd)(TX:Txt mg)(C_STEPS:Glb K mg "STEPS" tO)(G_stepped:Cal P w K mg base 1 "stepped" ["corner","direction","many"] (aG K 3 ra)):FnOk P w K mg base CX0 2 f fd ["one","other"] (aG K 2 qf):=by
 refine bz F og [true,true] rfl (fun cdv A outer s H E hr=>?_);have sc:=@og;refine⟨_,(ag (az (i:=2) sc.nd (by rfl) (e_ rfl) (by rfl) (aB (aq (dI rfl) (by rfl) TX.max (by decide +kernel) (ae (aq i9 (by rfl) TX.abs (by decide +kernel) (ae (aj bc (ay hr (ab 1) ge_int) (ay hr (ab 0) ge_int)) af)) (ae (aq i9 (by rfl) TX.abs (by decide +kernel) (ae (aj bc (ay hr (ab 1) ge_int) (ay hr (ab 0) ge_int)) af)) af))))) (ag (bj (cf (aT (bR hr) (ab 2) ge_int (aJ _))) (ai (aE mX)) aM) (ag (bp QX (by rfl) (cK (by rfl) TX.range (ae (aB (aq aV (by rfl) TX.len (by decide +kernel) (ae (KL C_STEPS (by rfl)) af))) af)) (ak (i:=3) sc.nd (by rfl) (e_ rfl) (by rfl)) (ai (bj (cf (aT (bR hr) (au G_stepped hr (by rfl) (ah (ab 0) (ah (ab 3) (ah (ab 2) av)))) (cN cv (by rfl) TX.tuple (by decide +kernel) (ae (ab 1) af)) (aJ _))) (ai (aE (aB (aD (ae (ab 3) (ae (ab 2) af)))))) aM))) (ai (aE mX))))),fun ts kk hl hp=>?_⟩;clear hl;obtain⟨a,b,rfl,q⟩:=hp;unfold yv lead far at q;walk_at "go";refine ba (fun h=>?_) (fun h=>?_)
 ·walk_at "go";rw[if_pos h]at q;exact q
 walk_at "go";rw[if_neg h]at q;refine⟨by decide,aS (fun i env=>(∀j,j<i->vK a j (far a b)≠b)/\∃z,env=[ptP a,ptP b,.int (far a b),z]) ⟨fun j hj=>by lia,_,rfl⟩ ?_ ?_⟩
 ·rintro i t _ ⟨hb,z,rfl⟩ ei;have hi:i<8:=eI ei;have et:=qM ei;subst et;walk_at "go";refine⟨a,i,far a b,by rw[NV],hi,?_⟩;walk_at "go";refine ba (fun h2=>?_) (fun h2=>?_)
  ·walk_at "go";have ef:(A_ 8).find? (fun d=>decide (vK a d (far a b)=b))=some i:=by rw[List.find?_range_eq_some];exact⟨decide_eq_true h2,Kk.mpr hi,fun j hj=>by rw[decide_eq_false (hb j hj)];rfl⟩
   unfold far at ef ⊢;rw[ef]at q;rw[NV];exact q
  walk_at "go";refine⟨fun j hj=>?_,_,rfl⟩;rcases Nat.lt_succ_iff_lt_or_eq.mp hj with hj|rfl
  ·exact hb j hj
  exact h2
 rintro _ ⟨hb,z,rfl⟩;walk_at "go";have ef:(A_ 8).find? (fun d=>decide (vK a d (far a b)=b))=none:=by rw[List.find?_range_eq_none];intro j hj;rw[decide_eq_false (hb j (by rw[cj];exact hj))];rfl
 unfold far at ef;rw[ef]at q;exact q
end
noncomputable def mI:FP:=fun ts k=>∃(o:Bool) (ps:List Pt),ts=[.lst o (ps.map ptP)]/\ps≠[]/\ps.length<sizeLine/\∀oc,Dj ps oc->k (ocT oc) ts
section
variable{P:QL}{w:QP}{K:Qz}{mg:Str->Option Qy}{base:QR}
theorem qA:FnScope ["corners","bounds","numbers"] ["corners"] (ax nH):=⟨rfl,rfl,rfl,by decide +kernel,rfl,by decide +kernel,by decide +kernel⟩
theorem xK(F:Fun K "octo_of" "octo_of" nH f fd)(TX:Txt mg)  :FnOk P w K mg base CX0 1 f fd ["corners"] (aG K 1 mI):=by
 refine bz F qA [true] rfl (fun cdv A outer s H E hr=>?_);have sc:=@qA;have nd1:(["corner"]:List Str).Nodup:=by decide +kernel
 have nd2:(["corner"]:List Str).Nodup:=by decide +kernel
 have nd3:(["corner"]:List Str).Nodup:=by decide +kernel
 have nd4:(["corner"]:List Str).Nodup:=by decide +kernel
 refine⟨_,(ag (az (i:=1) sc.nd (by rfl) (e_ rfl) (by rfl) (aB (bq af))) (ag (bp QX (by rfl) (aO (aD (ae (aB (b6 sc ["corner"] [none] nd4 (by decide +kernel) (aO (ab 0)) (fun _ _ _=>(ak (i:=0) nd4 (by rfl) (e_ rfl) (by rfl) (hf:=(s_ rfl)))) (fun _ _ _=>b7) (fun _ _ _=>(ay hr (ab 0) ge_int)))) (ae (aB (b6 sc ["corner"] [none] nd3 (by decide +kernel) (aO (ab 0)) (fun _ _ _=>(ak (i:=0) nd3 (by rfl) (e_ rfl) (by rfl) (hf:=(s_ rfl)))) (fun _ _ _=>b7) (fun _ _ _=>(ay hr (ab 0) ge_int)))) (ae (aB (b6 sc ["corner"] [none] nd2 (by decide +kernel) (aO (ab 0)) (fun _ _ _=>(ak (i:=0) nd2 (by rfl) (e_ rfl) (by rfl) (hf:=(s_ rfl)))) (fun _ _ _=>b7) (fun _ _ _=>(aj aA (ay hr (ab 0) ge_int) (ay hr (ab 0) ge_int))))) (ae (aB (b6 sc ["corner"] [none] nd1 (by decide +kernel) (aO (ab 0)) (fun _ _ _=>(ak (i:=0) nd1 (by rfl) (e_ rfl) (by rfl) (hf:=(s_ rfl)))) (fun _ _ _=>b7) (fun _ _ _=>(aj bc (ay hr (ab 0) ge_int) (ay hr (ab 0) ge_int))))) af)))))) (ak (i:=2) sc.nd (by rfl) (e_ rfl) (by rfl)) (ag (bJ (bL 1 Q3 Q4 bh (ae (aB (aq (fD rfl) (by rfl) TX.min (by decide +kernel) (ae (ab 2) af))) af))) (ai (bJ (bL 1 Q3 Q4 bh (ae (aB (aq (dI rfl) (by rfl) TX.max (by decide +kernel) (ae (ab 2) af))) af)))))) (ai (aE (aB (cN cv (by rfl) TX.tuple (by decide +kernel) (ae (ab 1) af))))))),fun ts kk hl hp=>?_⟩;clear hl;obtain⟨o,ps,rfl,hne,hz,q⟩:=hp;have hne':∀j,ps.map (gO j)≠[]:=fun j z=>hne (Nk.mp z);walk_at "go";refine aL (by rw[a_];exact hz) (fun i acc ie=>∃z,acc=(ps.take i).map (fun p=>T.int (gO 0 p))/\ie=[z]) ⟨_,rfl,rfl⟩ ?_ ?_
 ·rintro i u _ _ ⟨z,rfl,rfl⟩ eu;obtain⟨p,ep,rfl⟩:=aK eu;walk_at "go";exact⟨_,by rw[map_take ep];rfl,rfl⟩
 rintro _ _ ⟨z,rfl,rfl⟩;rw[a_,u_];walk_at "go";refine aL (by rw[a_];exact hz) (fun i acc ie=>∃z,acc=(ps.take i).map (fun p=>T.int (gO 1 p))/\ie=[z]) ⟨_,rfl,rfl⟩ ?_ ?_
 ·rintro i u _ _ ⟨z,rfl,rfl⟩ eu;obtain⟨p,ep,rfl⟩:=aK eu;walk_at "go";exact⟨_,by rw[map_take ep];rfl,rfl⟩
 rintro _ _ ⟨z,rfl,rfl⟩;rw[a_,u_];walk_at "go";refine aL (by rw[a_];exact hz) (fun i acc ie=>∃z,acc=(ps.take i).map (fun p=>T.int (gO 2 p))/\ie=[z]) ⟨_,rfl,rfl⟩ ?_ ?_
 ·rintro i u _ _ ⟨z,rfl,rfl⟩ eu;obtain⟨p,ep,rfl⟩:=aK eu;walk_at "go";exact⟨_,by rw[map_take ep];rfl,rfl⟩
 rintro _ _ ⟨z,rfl,rfl⟩;rw[a_,u_];walk_at "go";refine aL (by rw[a_];exact hz) (fun i acc ie=>∃z,acc=(ps.take i).map (fun p=>T.int (gO 3 p))/\ie=[z]) ⟨_,rfl,rfl⟩ ?_ ?_
 ·rintro i u _ _ ⟨z,rfl,rfl⟩ eu;obtain⟨p,ep,rfl⟩:=aK eu;walk_at "go";exact⟨_,by rw[map_take ep];rfl,rfl⟩
 rintro _ _ ⟨z,rfl,rfl⟩;rw[a_,u_];walk_at "go";have eL:[T.lst false (G' (fun p=>T.int (gO 0 p)) ps),T.lst false (G' (fun p=>T.int (gO 1 p)) ps),T.lst false (G' (fun p=>T.int (gO 2 p)) ps),T.lst false (G' (fun p=>T.int (gO 3 p)) ps)]=(A_ 4).map fun j=>T.lst false (G' (fun p=>T.int (gO j p)) ps):=rfl;rw[eL];refine aS (fun i env=>∃(f:Nat->Int×Int) (z:T),(∀j,j<i->fW (ps.map (gO j)) (f j).1/\fV (ps.map (gO j)) (f j).2)/\env=[.lst o (ps.map ptP),.lst true ((A_ i).flatMap fun j=>[.int (f j).1,.int (f j).2]),z]) ⟨fun _=>(0,0),_,fun j hj=>by lia,rfl⟩ ?_ ?_
 ·rintro i t _ ⟨f,z,hf,rfl⟩ ei;obtain⟨j,ej,rfl⟩:=aK ei;have hi:i<4:=by have:=(f_.mp ej).1;rwa[Ml]at this
  rw[Ov hi]at ej;cases ej;have ll:∀n,((A_ n).flatMap fun j=>[T.int (f j).1,T.int (f j).2]).length=2*n:=fun n=>by
   induction n with
   |zero=>rfl
   |succ n ih=>rw[NR,NN,d_,ih];rfl
  walk_at "go";refine⟨hne' i,fun m hm=>⟨by rw[ll];lia,hne' i,fun M hM=>⟨by rw[d_,ll];show 2*i+1<_;lia,fun j=>if j=i then(m,M)else f j,.lst false (ps.map fun p=>T.int (gO i p)),fun j hj=>?_,by rw[Dc]⟩⟩⟩;show fW _ (if j=i then(m,M)else f j).1/\fV _ (if j=i then(m,M)else f j).2;by_cases e:j=i
  ·rw[if_pos e,e];exact⟨hm,hM⟩
  rw[if_neg e];exact hf j (by lia)
 rintro _ ⟨f,z,hf,rfl⟩;have e4:(A_ (G' (fun j=>T.lst false (G' (fun p=>T.int (gO j p)) ps)) (A_ 4)).length).flatMap (fun j=>[T.int (f j).1,T.int (f j).2])=[T.int (f 0).1,T.int (f 0).2,T.int (f 1).1,T.int (f 1).2,T.int (f 2).1,T.int (f 2).2,T.int (f 3).1,T.int (f 3).2]:=by rw[a_];rfl
 rw[e4];rw[a_]at hf;have f0:=hf 0 (by decide);have f1:=hf 1 (by decide);have f2:=hf 2 (by decide);have f3:=hf 3 (by decide);walk_at "go";exact q ⟨(f 0).1,(f 0).2,(f 1).1,(f 1).2,(f 2).1,(f 2).2,(f 3).1,(f 3).2⟩ ⟨⟨f0,f1⟩,f2,f3⟩
end
noncomputable def uK:FP:=fun ts k=>∃o q,ts=[ocT o,ocT q]/\k (ocT (vD o q)) ts
section
variable{P:QL}{w:QP}{K:Qz}{mg:Str->Option Qy}{base:QR}
theorem wg:FnScope ["one","other"] ["one","other"] (ax tY):=⟨rfl,rfl,rfl,by decide +kernel,rfl,by decide +kernel,by decide +kernel⟩
theorem BS(F:Fun K "added" "added" tY f fd)(TX:Txt mg)  :FnOk P w K mg base CX0 1 f fd ["one","other"] (aG K 2 uK):=by
 refine bz F wg [true,true] rfl (fun cdv A outer s H E hr=>?_);have sc:=@wg;have nd1:(["bound","more"]:List Str).Nodup:=by decide +kernel
 refine⟨_,(ai (aE (aB (cN cv (by rfl) TX.tuple (by decide +kernel) (ae (b6 sc ["bound","more"] [none,none] nd1 (by decide +kernel) (y9 (by rfl) TX.zip (ae (ab 0) (ae (ab 1) af))) (fun _ _ _=>(cB (n:=2) (by rfl) (aC (ak (i:=0) nd1 (by rfl) (e_ rfl) (by rfl) (hf:=(s_ rfl))) (aC (ak (i:=1) nd1 (by rfl) (e_ rfl) (by rfl) (hf:=(s_ rfl))) bT)))) (fun _ _ _=>b7) (fun _ _ _=>(aj aA (ab 0) (ab 1)))) af))))),fun ts kk hl hp=>?_⟩;clear hl;obtain⟨o,q',rfl,q⟩:=hp;have e1:∀o:Oc,ocT o=.tup ((ocL o).map T.int):=fun o=>rfl;rw[e1,e1];walk_at "go";have ez:(G' (fun p=>T.tup [p.1,p.2]) ((G' (fun x=>T.int x) (ocL o)).zip (G' (fun x=>T.int x) (ocL q'))))=((ocL o).zip (ocL q')).map fun p=>T.tup [.int p.1,.int p.2]:=by rw[Ql,A'];rfl
 rw[ez];refine aL (by rw[a_];show 8<sizeLine;decide) (fun i acc ie=>∃z1 z2,acc=(((ocL o).zip (ocL q')).take i).map (fun p=>T.int (p.1+p.2))/\ie=[z1,z2]) ⟨_,_,rfl,rfl⟩ ?_ ?_
 ·rintro i u _ _ ⟨z1,z2,rfl,rfl⟩ eu;obtain⟨p,ep,rfl⟩:=aK eu;walk_at "go";exact⟨_,_,by rw[map_take ep],rfl⟩
 rintro _ _ ⟨z1,z2,rfl,rfl⟩;rw[a_,u_];walk_at "go";exact q
end
noncomputable def A2:FP:=fun ts k=>∃o p,ts=[ocT o,ptP p]/\k (ocT (vD o (oc1 p))) ts
section
variable{P:QL}{w:QP}{K:Qz}{mg:Str->Option Qy}{base:QR}
theorem vq:FnScope ["octo","corner"] ["octo","corner"] (ax tJ):=⟨rfl,rfl,rfl,by decide +kernel,rfl,by decide +kernel,by decide +kernel⟩
theorem CD(F:Fun K "moved" "moved" tJ f fd)(TX:Txt mg)  (G_octo_of:Cal P w K mg base 1 "octo_of" ["corners"] (aG K 1 mI))(G_added:Cal P w K mg base 1 "added" ["one","other"] (aG K 2 uK)):FnOk P w K mg base CX0 2 f fd ["octo","corner"] (aG K 2 A2):=by refine bz F vq [true,true] rfl (fun cdv A outer s H E hr=>?_);have sc:=@vq;refine⟨_,(ai (aE (aB (au G_added hr (by rfl) (ah (ab 0) (ah (au G_octo_of hr (by rfl) (ah (bq (ae (ab 1) af)) av)) av)))))),fun ts kk hl hp=>?_⟩;clear hl;obtain⟨o,p,rfl,q⟩:=hp;walk_at "go";refine⟨true,[p],rfl,(fun z=>nomatch z),by show 1<sizeLine;decide,fun oc h=>?_⟩;rw[JI h];walk_at "go";refine⟨o,oc1 p,rfl,?_⟩;walk_at "go";exact q
end
noncomputable def rL:FP:=fun ts k=>∃(r kk:Int) (xs:List T) (p:Pt),ts=[.tup (.int r::.int kk::xs),ptP p]/\bF xs=true/\erL xs=xs/\k (ocT (mkO r kk p)) ts
section
variable{P:QL}{w:QP}{K:Qz}{mg:Str->Option Qy}{base:QR}
theorem pJ:FnScope ["tool","corner","r","both"] ["tool","corner"] (ax nq):=⟨rfl,rfl,rfl,by decide +kernel,rfl,by decide +kernel,by decide +kernel⟩
theorem wZ(F:Fun K "mark_of" "mark_of" nq f fd)(TX:Txt mg)  (G_moved:Cal P w K mg base 2 "moved" ["octo","corner"] (aG K 2 A2)):FnOk P w K mg base CX0 3 f fd ["tool","corner"] (aG K 2 rL):=by refine bz F pJ [true,true] rfl (fun cdv A outer s H E hr=>?_);have sc:=@pJ;refine⟨_,(ag (az (i:=2) sc.nd (by rfl) (e_ rfl) (by rfl) (aB (ay hr (ab 0) ge_int))) (ag (az (i:=3) sc.nd (by rfl) (e_ rfl) (by rfl) (aB (aj aA (ay hr (ab 0) ge_int) (ay hr (ab 0) ge_int)))) (ai (aE (aB (au G_moved hr (by rfl) (ah (aD (ae (bC (ab 2)) (ae (ab 2) (ae (bC (ab 2)) (ae (ab 2) (ae (bC (ab 3)) (ae (ab 3) (ae (bC (ab 3)) (ae (ab 3) af))))))))) (ah (ab 1) av)))))))),fun ts kk hl hp=>?_⟩;clear hl;obtain⟨r,k',xs,p,rfl,hx,ex,q⟩:=hp;walk_at "go";refine⟨⟨-r,r,-r,r,-(r+k'),r+k',-(r+k'),r+k'⟩,p,rfl,?_⟩;walk_at "go";exact q
end
noncomputable def zD:FP:=fun ts k=>∃(r kk:Int) (xs:List T) (p q:Pt),ts=[.tup (.int r::.int kk::xs),ptP p,ptP q]/\bF xs=true/\erL xs=xs/\k (ocT (swO r kk p q)) ts
section
variable{P:QL}{w:QP}{K:Qz}{mg:Str->Option Qy}{base:QR}
theorem vg:FnScope ["tool","one","other"] ["tool","one","other"] (ax uk):=⟨rfl,rfl,rfl,by decide +kernel,rfl,by decide +kernel,by decide +kernel⟩
theorem C8(F:Fun K "swept" "swept" uk f fd)(TX:Txt mg)  (G_octo_of:Cal P w K mg base 1 "octo_of" ["corners"] (aG K 1 mI))(G_added:Cal P w K mg base 1 "added" ["one","other"] (aG K 2 uK))(G_mark_of:Cal P w K mg base 3 "mark_of" ["tool","corner"] (aG K 2 rL)):FnOk P w K mg base CX0 4 f fd ["tool","one","other"] (aG K 3 zD):=by refine bz F vg [true,true,true] rfl (fun cdv A outer s H E hr=>?_);have sc:=@vg;refine⟨_,(ai (aE (aB (au G_added hr (by rfl) (ah (au G_mark_of hr (by rfl) (ah (ab 0) (ah (aD (ae ge_int (ae ge_int af))) av))) (ah (au G_octo_of hr (by rfl) (ah (bq (ae (ab 1) (ae (ab 2) af))) av)) av)))))),fun ts kk hl hp=>?_⟩;clear hl;obtain⟨r,k',xs,p,q',rfl,hx,ex,q⟩:=hp;walk_at "go";refine⟨r,k',erL xs,(0,0),rfl,by rw[ex];exact hx,by rw[ex];exact ex,?_⟩;walk_at "go";refine⟨true,[p,q'],rfl,(fun z=>nomatch z),by show 2<sizeLine;decide,fun oc h=>?_⟩;rw[JB h];walk_at "go";refine⟨mkO r k' (0,0),oc2 p q',rfl,?_⟩;walk_at "go";exact q
end
noncomputable def rY:FP:=fun ts k=>∃(w:Ed) (c:Pt),ts=[edT w,ptP c]/\k (.bl (gOn w c)) ts
section
variable{P:QL}{w:QP}{K:Qz}{mg:Str->Option Qy}{base:QR}
theorem pB:FnScope ["way","corner","ahead","whole"] ["way","corner"] (ax nv):=⟨rfl,rfl,rfl,by decide +kernel,rfl,by decide +kernel,by decide +kernel⟩
theorem xS(F:Fun K "goes_on" "goes_on" nv f fd)(TX:Txt mg)  (G_straight:Cal P w K mg base 2 "straight" ["one","other"] (aG K 2 qf)):FnOk P w K mg base CX0 3 f fd ["way","corner"] (aG K 2 rY):=by
 refine bz F pB [true,true] rfl (fun cdv A outer s H E hr=>?_);have sc:=@pB;refine⟨_,(ag (bj (cf (aT (bR hr) (ab 1) (ay hr (ab 0) ge_int) (aJ _))) (ai (aE cR)) aM) (ag (az (i:=2) sc.nd (by rfl) (e_ rfl) (by rfl) (aB (au G_straight hr (by rfl) (ah (ay hr (ab 0) ge_int) (ah (ay hr (ab 0) ge_int) av))))) (ag (az (i:=3) sc.nd (by rfl) (e_ rfl) (by rfl) (aB (au G_straight hr (by rfl) (ah (ay hr (ab 0) ge_int) (ah (ab 1) av))))) (ag (bj (cf (aT t7 (ab 3) mX (aJ _))) (ai (aE cR)) aM) (ai (aE (aB (ge_if (aT t7 (ab 2) mX (aJ _)) (nu (bR hr) (ay hr (ab 3) ge_int) ge_int (aJ _)) (nu (bR hr) (ab 3) (aD (ae (ay hr (ab 2) ge_int) (ae (aj aA (ay hr (ab 2) ge_int) ge_int) af))) (aJ _)))))))))),fun ts kk hl hp=>?_⟩;clear hl;obtain⟨w,c,rfl,q⟩:=hp;walk_at "go";refine ba (fun h=>?_) (fun h=>?_)
 ·walk_at "go";have:gOn w c=true:=by unfold gOn;rw[if_pos h]
  rw[this]at q;exact q
 have g:=CN h;walk_at "go";refine⟨_,_,rfl,?_⟩;walk_at "go";refine⟨by unfold yv;cases lead w.1 w.2 <;> rfl,_,_,rfl,?_⟩;walk_at "go";unfold yv;cases e1:lead w.1 c with
 |none=>
  rw[e1]at g;walk_at "go";rw[g]at q;exact q
 |some d=>
  rw[e1]at g;cases e2:lead w.1 w.2 with
  |none=>
   rw[e2]at g;walk_at "go";rw[g]at q;exact q
  |some d'=>
   rw[e2]at g;walk_at "go";rw[g]at q;have e:decide ((d:Int)=(d':Int)/\far w.1 c=far w.1 w.2+1)=decide (d=d'/\far w.1 c=far w.1 w.2+1):=decide_eq_decide.mpr (and_congr_left fun _=>by lia);rw[e];exact q
end
noncomputable def rW:FP:=fun ts k=>∃(l:Int) (ps:List (Pt×Int)),ts=[.tup (ps.map plT),.int l]/\ps.length<=100/\k (.lst true ((wys l ps ([],false)).1.reverse.map edT)) ts
section
variable{P:QL}{w:QP}{K:Qz}{mg:Str->Option Qy}{base:QR}
theorem qo:FnScope ["places","layer","ways","is_in","x","y","z"] ["places","layer"] (ax nJ):=⟨rfl,rfl,rfl,by decide +kernel,rfl,by decide +kernel,by decide +kernel⟩
theorem xw(F:Fun K "ways_at" "ways_at" nJ f fd)(TX:Txt mg)  (G_goes_on:Cal P w K mg base 3 "goes_on" ["way","corner"] (aG K 2 rY)):FnOk P w K mg base CX0 4 f fd ["places","layer"] (aG K 2 rW):=by
 refine bz F qo [true,true] rfl (fun cdv A outer s H E hr=>?_);have sc:=@qo;refine⟨_,(ag (az (i:=2) sc.nd (by rfl) (e_ rfl) (by rfl) (aB (bq af))) (ag (az (i:=3) sc.nd (by rfl) (e_ rfl) (by rfl) cR) (ag (bp QX (by rfl) (aO (bB 0)) (cB (n:=3) (by rfl) (aC (ak (i:=4) sc.nd (by rfl) (e_ rfl) (by rfl)) (aC (ak (i:=5) sc.nd (by rfl) (e_ rfl) (by rfl)) (aC (ak (i:=6) sc.nd (by rfl) (e_ rfl) (by rfl)) bT)))) (ai (bj (cf (aT kD (ab 6) (ab 1) (aJ _))) (ai (az (i:=3) sc.nd (by rfl) (e_ rfl) (by rfl) cR)) (ai (bj (cf (x6 (t9 (cC (ab 3)) (pq (cC (au G_goes_on hr (by rfl) (ah (ay hr (ab 2) (bC ge_int)) (ah (aD (ae (ab 4) (ae (ab 5) af))) av)))))))) (ai (jQ (aB (aD (ae (ay hr (ay hr (ab 2) (bC ge_int)) ge_int) (ae (aD (ae (ab 4) (ae (ab 5) af))) af)))) (pD (i:=2) hr (aB (bC ge_int))))) (ag (bJ (bL 2 Q3 Q4 bh (ae (aB (aD (ae (aD (ae (ab 4) (ae (ab 5) af))) (ae (aD (ae (ab 4) (ae (ab 5) af))) af)))) af))) (ai (az (i:=3) sc.nd (by rfl) (e_ rfl) (by rfl) cR)))))))) (ai (aE (qL 2)))))),fun ts kk hl hp=>?_⟩;clear hl;obtain⟨l,ps,rfl,hl,q⟩:=hp;have app:∀(xs:List (Pt×Int)) (x:Pt×Int) (s:List (Pt×Pt)×Bool),wys l (xs++[x]) s=wy1 l x (wys l xs s):=fun xs x=>by
  induction xs with
  |nil=>intro s;rfl
  |cons y xs ih=>intro s;exact ih _
 walk_at "go";refine aS (fun i env=>∃(W:List (Pt×Pt)) (b:Bool) (z4 z5 z6:T),wys l (ps.take i) ([],false)=(W,b)/\W.length<=i/\(b=true->W≠[])/\env=[.tup (ps.map plT),.int l,.lst true (W.reverse.map edT),.bl b,z4,z5,z6]) ⟨[],false,_,_,_,rfl,b_ _,(fun z=>by cases z),rfl⟩ ?_ ?_
 ·rintro i t _ ⟨W,b,z4,z5,z6,hw,hW,hb,rfl⟩ ei;obtain⟨⟨⟨x,y⟩,z⟩,ep,rfl⟩:=aK ei;rw[plT];have hi:i<ps.length:=(f_.mp ep).1;have hs:wys l (ps.take (i+1)) ([],false)=wy1 l ((x,y),z) (W,b):=by rw[LP,ep];exact(app _ _ _).trans (by rw[hw])
  unfold wy1 at hs;dsimp only at hs;walk_at "go";refine ba (fun h=>?_) (fun h=>?_)
  ·walk_at "go";rw[if_pos h]at hs;exact⟨W,false,_,_,_,hs,by lia,(fun z=>by cases z),rfl⟩
  rw[if_neg h]at hs;walk_at "go";cases b with
  |false=>
   refine Fv rfl ?_;walk_at "go";have e:wys l (ps.take (i+1)) ([],false)=(((x,y),(x,y))::W,true):=by rw[hs];cases W <;> rfl
   exact⟨by rw[LU];lia,_::W,true,_,_,_,e,by rw[h_];lia,(fun _ z=>by cases z),by rw[Ny,p_];rfl⟩
  |true=>
   cases W with
   |nil=>exact absurd rfl (hb rfl)
   |cons w W'=>
   refine oR rfl ?_;walk_at "go";refine aY vd ?_;walk_at "go";refine⟨w,(x,y),rfl,?_⟩;walk_at "go";cases eg:gOn w (x,y)with
   |true=>
    walk_at "go";refine aY vd ?_;walk_at "go";have e:wys l (ps.take (i+1)) ([],false)=((w.1,(x,y))::W',true):=by rw[hs];dsimp only;rw[eg];rfl
    have ei:ixN (w::W').reverse.length (-1)=some W'.reverse.length:=by unfold ixN;rw[if_neg (by decide),if_pos (by rw[LU,h_];lia)];congr 1;rw[LU,LU,h_];lia
    refine aY ei ?_;walk_at "go";have es:((w::W').reverse.map edT).set W'.reverse.length (.tup [ptP w.1,.tup [.int x,.int y]])=((w.1,(x,y))::W').reverse.map edT:=by
     rw[Ny,Ny,p_,p_,O_ _ _ (by rw[a_];lia),a_,Nh]
     rfl
    exact⟨_,true,_,_,_,e,N3 hW,(fun _ z=>by cases z),by rw[<-es]⟩
   |false=>
    walk_at "go";have e:wys l (ps.take (i+1)) ([],false)=(((x,y),(x,y))::w::W',true):=by rw[hs];dsimp only;rw[eg];rfl
    exact⟨by rw[LU];lia,_::w::W',true,_,_,_,e,by rw[h_];lia,(fun _ z=>by cases z),by rw[Ny (a:=((x,y),(x,y))),p_];rfl⟩
 rintro _ ⟨W,b,z4,z5,z6,hw,hW,hb,rfl⟩;rw[a_,u_]at hw;rw[hw]at q;walk_at "go";exact q
end
noncomputable def gD:FP:=fun ts k=>∃(o o2:Bool) (P:List Od) (tl:List Tl) (l C:Int) (N:Nat),ts=[.lst o (P.map odT),.lst o2 (tl.map tvT),.int l]/\OkP tl.length C N P/\N<=100/\k (.lst true ((cw l tl P).map ocT)) [.lst false (P.map odT),.lst o2 (tl.map tvT),.int l]
section
variable{P:QL}{w:QP}{K:Qz}{mg:Str->Option Qy}{base:QR}
theorem kR:FnScope ["program","tools","layer","octos","tool","order","one","other"] ["program","tools","layer"] (ax gc):=⟨rfl,rfl,rfl,by decide +kernel,rfl,by decide +kernel,by decide +kernel⟩
theorem uN(F:Fun K "cut_octos" "cut_octos" gc f fd)(TX:Txt mg)  (G_swept:Cal P w K mg base 4 "swept" ["tool","one","other"] (aG K 3 zD))(G_ways_at:Cal P w K mg base 4 "ways_at" ["places","layer"] (aG K 2 rW)):FnOk P w K mg base CX0 5 f fd ["program","tools","layer"] (aG K 3 gD):=by
 refine bz F kR [true,true,true] rfl (fun cdv A outer s H E hr=>?_);have sc:=@kR;refine⟨_,(ag (az (i:=3) sc.nd (by rfl) (e_ rfl) (by rfl) (aB ux)) (ag (az (i:=4) sc.nd (by rfl) (e_ rfl) (by rfl) mX) (ag (bp QX (by rfl) (aO (bB 0)) (ak (i:=5) sc.nd (by rfl) (e_ rfl) (by rfl)) (ai (bj (cf (aT (bR hr) (ay hr (ab 5) ge_int) ge_str (aJ _))) (ai (az (i:=4) sc.nd (by rfl) (e_ rfl) (by rfl) (aB (ay hr (ab 1) (ay hr (ab 5) ge_int))))) (ai (bj (cf (aT (bR hr) (ay hr (ab 5) ge_int) ge_str (aJ _))) (ai (bp QX (by rfl) (aO (aB (au G_ways_at hr (by rfl) (ah (ay hr (ab 5) ge_int) (ah (ab 2) av))))) (cB (n:=2) (by rfl) (aC (ak (i:=6) sc.nd (by rfl) (e_ rfl) (by rfl)) (aC (ak (i:=7) sc.nd (by rfl) (e_ rfl) (by rfl)) bT))) (ai (jQ cR (pD (i:=3) hr (aB (au G_swept hr (by rfl) (ah (ab 4) (ah (ab 6) (ah (ab 7) av)))))))))) aM))))) (ai (aE (aB (cN (vZ rfl) (by rfl) TX.list (by decide +kernel) (ae (ab 3) af)))))))),fun ts kk hl hp=>?_⟩;clear hl;obtain⟨o,o2,P,tl,l,C,N,rfl,hP,hN,q⟩:=hp;walk_at "go";refine⟨rfl,aS (fun i env=>∃(tool z5 z6 z7:T),(0<i->tool=tvT (tl.getD (tlA (P.take i) 0) (0,0,0,0,0)))/\cg tool=true/\env=[.lst false (P.map odT),.lst o2 (tl.map tvT),.int l,.dT true (dG ocL (cw l tl (P.take i))),tool,z5,z6,z7]) ⟨_,_,_,_,(fun z=>absurd z (MJ _)),rfl,rfl⟩ ?_ ?_⟩
 ·rintro i t _ ⟨tool,z5,z6,z7,ht,nt,rfl⟩ ei;obtain⟨od,eo,rfl⟩:=aK ei;obtain⟨et,e0⟩:=zI hP eo;have hm:=hP.2.2.2 od (F_ eo);have hw:=gp (l:=l) (o:=od) (P:=P.take i) (t:=0);rw[<-et]at hw;cases od with
  |tk j=>
   have hj:j<tl.length:=hm;rw[nR];walk_at "go";refine aY (Jo hj) ?_;walk_at "go";have e:cw l tl (P.take (i+1))=cw l tl (P.take i):=by unfold cw;rw[hw.1,show wls l [Od.tk j] (tlA (P.take i) 0)=[]from rfl,E_]
   exact⟨tvT (tl.getD j (0,0,0,0,0)),_,_,_,fun _=>by rw[hw.2.2];rfl,rfl,by rw[e]⟩
  |ov b x y=>
   have h0:0<i:=Mg fun z=>by obtain⟨j,hj⟩:=e0 z;cases hj
   rw[mL];walk_at "go";have e:cw l tl (P.take (i+1))=cw l tl (P.take i):=by unfold cw;rw[hw.1,show wls l [Od.ov b x y] (tlA (P.take i) 0)=[]from rfl,E_]
   exact⟨tool,_,_,_,fun _=>by rw[hw.2.2];exact ht h0,nt,by rw[e]⟩
  |ct ps=>
   have h0:0<i:=Mg fun z=>by obtain⟨j,hj⟩:=e0 z;cases hj
   have ht:=ht h0;subst ht;have hl:=oX (F_ eo);rw[kA];walk_at "go";refine⟨l,ps,rfl,by have:=hP.2.2.1;lia,?_⟩;walk_at "go";have eo2:cw l tl (P.take (i+1))=ck ocL (cw l tl (P.take i)) (((wys l ps ([],false)).1.reverse.map fun w=>(tlA (P.take i) 0,w)).map fun v=>swT (tR tl v.1) v.2):=by unfold cw;rw[hw.1,p_,eV,show wls l [Od.ct ps] (tlA (P.take i) 0)=((wys l ps ([],false)).1.reverse.map fun w=>(tlA (P.take i) 0,w))from E_ _]
   have lo:(cw l tl (P.take i)).length<=100:=by have h1:=qg (l:=l) (tl:=tl) (P:=P.take i);have h2:=va (P:=P) (i:=i);have h3:=hP.2.2.1;lia
   have lw:(wys l ps ([],false)).1.reverse.length<=100:=by have h1:=(uZ (l:=l) (ps:=ps) (W:=[]) (b:=false) fun w m=>by cases m).2.2;have h3:=hP.2.2.1;rw[Mf]at h1;rw[LU];lia
   have ht2:tlA (P.take (i+1)) 0=tlA (P.take i) 0:=hw.2.2;clear hw;generalize (wys l ps ([],false)).1.reverse=W at *;generalize cw l tl (P.take i)=os at *;generalize tlA (P.take i) 0=tn at *;rw[A']at eo2;refine aS (fun j env=>∃z5 z6 z7,env=[.lst false (P.map odT),.lst o2 (tl.map tvT),.int l,.dT true (dG ocL (ck ocL os ((W.map (swT (tR tl tn))).take j))),tvT (tl.getD tn (0,0,0,0,0)),z5,z6,z7]) ⟨_,_,_,rfl⟩ ?_ ?_
   ·rintro j t _ ⟨z5,z6,z7,rfl⟩ ej;obtain⟨w,ew,rfl⟩:=aK ej;have hj:=(f_.mp ew).1;rw[edT];walk_at "go";refine⟨_,_,_,w.1,w.2,rfl,rfl,rfl,?_⟩;walk_at "go";have la:=cQ (ρ:=ocL) (l:=os) (r:=(W.map (swT (tR tl tn))).take j);rw[D_]at la;rw[rT (a:=swT (tR tl tn) w) (by rw[B',ew];rfl),sw_eq];exact⟨by rw[qQ];lia,_,_,_,by rw[<-tL];rfl⟩
   rintro _ ⟨z5,z6,z7,rfl⟩;rw[a_];have e3:ck ocL os ((W.map (swT (tR tl tn))).take W.length)=cw l tl (P.take (i+1)):=by
    rw[eo2,show W.length=(W.map (swT (tR tl tn))).length from(a_ ..).symm,u_]
    rfl
   exact⟨_,_,_,_,fun _=>by rw[ht2],rfl,by rw[e3]⟩
 rintro _ ⟨tool,z5,z6,z7,ht,nt,rfl⟩;rw[a_,u_];walk_at "go";rw[BO];refine⟨(cw l tl P).map ocL,?_,?_,fun _=>⟨?_,?_⟩⟩
 ·unfold dG;rw[A',A'];rfl
 ·intro r m;obtain⟨o',_,rfl⟩:=r_.mp m;exact OY _ _
 ·rw[A'];exact Bb
 rw[A'];exact q
end
noncomputable def oA:FP:=fun ts k=>∃i:Int,ts=[.int i]/\k (.bl true) ts
section
variable{P:QL}{w:QP}{K:Qz}{mg:Str->Option Qy}{base:QR}
theorem lu:FnScope ["thing"] ["thing"] (ax gG):=⟨rfl,rfl,rfl,by decide +kernel,rfl,by decide +kernel,by decide +kernel⟩
theorem tH(F:Fun K "is_number" "is_number" gG f fd)(TX:Txt mg)  :FnOk P w K mg base CX0 1 f fd ["thing"] (aG K 1 oA):=by refine bz F lu [true] rfl (fun cdv A outer s H E hr=>?_);have sc:=@lu;refine⟨_,(ai (aE (aB (gL (aq b9 (by rfl) TX.isinstance (by decide +kernel) (ae (ab 0) (ae (dZ (n:="int") (by rfl) TX.int (by decide +kernel)) af))) (uR (D4 (aq b9 (by rfl) TX.isinstance (by decide +kernel) (ae (ab 0) (ae (dZ (n:="bool") (by rfl) TX.bool (by decide +kernel)) af))))))))),fun ts kk hl hp=>?_⟩;clear hl;obtain⟨i,rfl,q⟩:=hp;walk_at "go";exact q
end
noncomputable def vU:FP:=fun ts k=>∃o:Oc,ts=[ocT o]/\k (.bl true) ts
section
variable{P:QL}{w:QP}{K:Qz}{mg:Str->Option Qy}{base:QR}
theorem rn:FnScope ["thing"] ["thing"] (ax qi):=⟨rfl,rfl,rfl,by decide +kernel,rfl,by decide +kernel,by decide +kernel⟩
theorem Af(F:Fun K "is_row" "is_row" qi f fd)(TX:Txt mg)  :FnOk P w K mg base CX0 1 f fd ["thing"] (aG K 1 vU):=by refine bz F rn [true] rfl (fun cdv A outer s H E hr=>?_);have sc:=@rn;refine⟨_,(ai (aE (aB (aq b9 (by rfl) TX.isinstance (by decide +kernel) (ae (ab 0) (ae (aD (ae (dZ (n:="list") (by rfl) TX.list (by decide +kernel)) (ae (dZ (n:="tuple") (by rfl) TX.tuple (by decide +kernel)) af))) af)))))),fun ts kk hl hp=>?_⟩;clear hl;obtain⟨o,rfl,q⟩:=hp;walk_at "go";exact q
end
noncomputable def jM:FP:=fun ts k=>∃o:Oc,ts=[ocT o,.int 8]/\k (.bl true) ts
section
variable{P:QL}{w:QP}{K:Qz}{mg:Str->Option Qy}{base:QR}
theorem gF:FnScope ["thing","many"] ["thing","many"] (ax eF):=⟨rfl,rfl,rfl,by decide +kernel,rfl,by decide +kernel,by decide +kernel⟩
theorem pR(F:Fun K "are_numbers" "are_numbers" eF f fd)(TX:Txt mg)  (G_is_number:Cal P w K mg base 1 "is_number" ["thing"] (aG K 1 oA))(G_is_row:Cal P w K mg base 1 "is_row" ["thing"] (aG K 1 vU)):FnOk P w K mg base CX0 2 f fd ["thing","many"] (aG K 2 jM):=by
 refine bz F gF [true,true] rfl (fun cdv A outer s H E hr=>?_);have sc:=@gF;have nd1:(["part"]:List Str).Nodup:=by decide +kernel
 refine⟨_,(ai (aE (aB (gL (au G_is_row hr (by rfl) (ah (ab 0) av)) (gL (nu (bR hr) (aq aV (by rfl) TX.len (by decide +kernel) (ae (ab 0) af)) (ab 1) (aJ _)) (uR (aq (jr rfl) (by rfl) TX.all (by decide +kernel) (ae (b6 sc ["part"] [none] nd1 (by decide +kernel) (aO (ab 0)) (fun _ _ _=>(ak (i:=0) nd1 (by rfl) (e_ rfl) (by rfl) (hf:=(s_ rfl)))) (fun _ _ _=>b7) (fun _ _ _=>(au G_is_number hr (by rfl) (ah (ab 0) av)))) af)))))))),fun ts kk hl hp=>?_⟩;clear hl;obtain⟨o,rfl,q⟩:=hp;walk_at "go";refine⟨o,rfl,?_⟩;walk_at "go";refine aL (by rw[a_,sizeLine_eq];show 8<_;lia) (fun i acc ie=>∃z,acc=((ocL o).take i).map (fun _=>T.bl true)/\ie=[z]) ⟨_,rfl,rfl⟩ ?_ ?_
 ·rintro i t _ _ ⟨z,rfl,rfl⟩ ei;obtain⟨x,ex,rfl⟩:=aK ei;walk_at "go";refine⟨x,rfl,?_⟩;walk_at "go";exact⟨_,by rw[map_take ex],rfl⟩
 rintro _ _ ⟨z,rfl,rfl⟩;walk_at "go";refine aY rfl ?_;walk_at "go";exact q
end
noncomputable def pF:FP:=fun ts k=>∃w e s n a b c d:Int,ts=[.int w,.int e,.int s,.int n,.int a,.int b,.int c,.int d]/\w<=e/\cV w s n a b c d/\cV e s n a b c d/\k (.bl true) ts
section
variable{P:QL}{w:QP}{K:Qz}{mg:Str->Option Qy}{base:QR}
theorem oE:FnScope ["w","e","s","n","a","b","c","d","x"] ["w","e","s","n","a","b","c","d"] (ax kx):=⟨rfl,rfl,rfl,by decide +kernel,rfl,by decide +kernel,by decide +kernel⟩
theorem vv(F:Fun K "ends_met" "ends_met" kx f fd)(TX:Txt mg)  :FnOk P w K mg base CX0 1 f fd ["w","e","s","n","a","b","c","d"] (aG K 8 pF):=by
 refine bz F oE [true,true,true,true,true,true,true,true] rfl (fun cdv A outer s H E hr=>?_);have sc:=@oE;refine⟨_,(ag (bp QX (by rfl) (aO (aD (ae (bB 0) (ae (bB 1) af)))) (ak (i:=8) sc.nd (by rfl) (e_ rfl) (by rfl)) (ai (bj (cf (aT pS (aq (dI rfl) (by rfl) TX.max (by decide +kernel) (ae (ab 2) (ae (aj bc (ab 4) (ab 8)) (ae (aj bc (ab 8) (ab 7)) af)))) (aq (fD rfl) (by rfl) TX.min (by decide +kernel) (ae (ab 3) (ae (aj bc (ab 5) (ab 8)) (ae (aj bc (ab 8) (ab 6)) af)))) (aJ _))) (ai (aE cR)) aM))) (ai (aE (aB (nu kD (ab 0) (ab 1) (aJ _)))))),fun ts kk hl hp=>?_⟩;clear hl;obtain⟨w,e,s,n,a,b,c,d,rfl,h1,h2,h3,q⟩:=hp;walk_at "go";refine aS (fun i env=>∃z,env=[.int w,.int e,.int s,.int n,.int a,.int b,.int c,.int d,z]) ⟨_,rfl⟩ ?_ ?_
 ·rintro i t _ ⟨z,rfl⟩ ei;have ht:∃x,t=.int x/\cV x s n a b c d:=by
   match i,ei with
   |0,ei=>cases ei;exact⟨w,rfl,h2⟩
   |1,ei=>cases ei;exact⟨e,rfl,h3⟩
  obtain⟨x,rfl,hx⟩:=ht;walk_at "go";refine ba (fun g=>absurd g (Ee hx)) fun g=>?_;walk_at "go";exact⟨_,rfl⟩
 rintro _ ⟨z,rfl⟩;walk_at "go";rw[decide_eq_true h1];exact q
end
noncomputable def sD:FP:=fun ts k=>∃w e s n a b c d:Int,ts=[.int w,.int e,.int s,.int n,.int a,.int b,.int c,.int d]/\w<=e/\s<=n/\a<=b/\c<=d/\(cV w s n a b c d/\cV e s n a b c d)/\(cV s w e a b (-d) (-c)/\cV n w e a b (-d) (-c))/\(cV a c d (2*w) (2*e) (2*s) (2*n)/\cV b c d (2*w) (2*e) (2*s) (2*n))/\(cV c a b (2*w) (2*e) (-2*n) (-2*s)/\cV d a b (2*w) (2*e) (-2*n) (-2*s))/\k (.bl true) ts
section
variable{P:QL}{w:QP}{K:Qz}{mg:Str->Option Qy}{base:QR}
theorem pH:FnScope ["w","e","s","n","a","b","c","d"] ["w","e","s","n","a","b","c","d"] (ax mG):=⟨rfl,rfl,rfl,by decide +kernel,rfl,by decide +kernel,by decide +kernel⟩
theorem xY(F:Fun K "all_met" "all_met" mG f fd)(TX:Txt mg)  (G_ends_met:Cal P w K mg base 1 "ends_met" ["w","e","s","n","a","b","c","d"] (aG K 8 pF)):FnOk P w K mg base CX0 2 f fd ["w","e","s","n","a","b","c","d"] (aG K 8 sD):=by refine bz F pH [true,true,true,true,true,true,true,true] rfl (fun cdv A outer s H E hr=>?_);have sc:=@pH;refine⟨_,(ai (aE (aB (gL (au G_ends_met hr (by rfl) (ah (ab 0) (ah (ab 1) (ah (ab 2) (ah (ab 3) (ah (ab 4) (ah (ab 5) (ah (ab 6) (ah (ab 7) av))))))))) (gL (au G_ends_met hr (by rfl) (ah (ab 2) (ah (ab 3) (ah (ab 0) (ah (ab 1) (ah (ab 4) (ah (ab 5) (ah (bC (ab 7)) (ah (bC (ab 6)) av))))))))) (gL (au G_ends_met hr (by rfl) (ah (ab 4) (ah (ab 5) (ah (ab 6) (ah (ab 7) (ah (aj aH ge_int (ab 0)) (ah (aj aH ge_int (ab 1)) (ah (aj aH ge_int (ab 2)) (ah (aj aH ge_int (ab 3)) av))))))))) (uR (au G_ends_met hr (by rfl) (ah (ab 6) (ah (ab 7) (ah (ab 4) (ah (ab 5) (ah (aj aH ge_int (ab 0)) (ah (aj aH ge_int (ab 1)) (ah (aj aH (bC ge_int) (ab 3)) (ah (aj aH (bC ge_int) (ab 2)) av)))))))))))))))),fun ts kk hl hp=>?_⟩;clear hl;obtain⟨w,e,s,n,a,b,c,d,rfl,h1,h2,h3,h4,m1,m2,m3,m4,q⟩:=hp;walk_at "go";refine⟨_,_,_,_,_,_,_,_,rfl,h1,m1.1,m1.2,?_⟩;walk_at "go";refine⟨_,_,_,_,_,_,_,_,rfl,h2,m2.1,m2.2,?_⟩;walk_at "go";refine⟨.inl ⟨by decide,by decide⟩,.inl ⟨by decide,by decide⟩,.inl ⟨by decide,by decide⟩,.inl ⟨by decide,by decide⟩,_,_,_,_,_,_,_,_,rfl,h3,m3.1,m3.2,?_⟩;walk_at "go";refine⟨.inl ⟨by decide,by decide⟩,.inl ⟨by decide,by decide⟩,.inl ⟨by decide,by decide⟩,.inl ⟨by decide,by decide⟩,_,_,_,_,_,_,_,_,rfl,h4,m4.1,m4.2,?_⟩;walk_at "go";exact q
end
noncomputable def sj:FP:=fun ts k=>∃(r R:Int) (p q:Pt),ts=[ocT (swT (r,R) (p,q))]/\1<=r/\r<R/\R<2*r/\k (.bl true) ts
section
variable{P:QL}{w:QP}{K:Qz}{mg:Str->Option Qy}{base:QR}
theorem pE:FnScope ["thing"] ["thing"] (ax mF):=⟨rfl,rfl,rfl,by decide +kernel,rfl,by decide +kernel,by decide +kernel⟩
theorem x4(F:Fun K "is_octo" "is_octo" mF f fd)(TX:Txt mg)  (G_are_numbers:Cal P w K mg base 2 "are_numbers" ["thing","many"] (aG K 2 jM))(G_all_met:Cal P w K mg base 2 "all_met" ["w","e","s","n","a","b","c","d"] (aG K 8 sD)):FnOk P w K mg base CX0 3 f fd ["thing"] (aG K 1 sj):=by refine bz F pE [true] rfl (fun cdv A outer s H E hr=>?_);have sc:=@pE;refine⟨_,(ag (bj (cf (pT (cC (au G_are_numbers hr (by rfl) (ah (ab 0) (ah ge_int av)))))) (ai (aE cR)) aM) (ai (aE (aB (au G_all_met hr (by rfl) (ah (ay hr (ab 0) ge_int) (ah (ay hr (ab 0) ge_int) (ah (ay hr (ab 0) ge_int) (ah (ay hr (ab 0) ge_int) (ah (ay hr (ab 0) ge_int) (ah (ay hr (ab 0) ge_int) (ah (ay hr (ab 0) ge_int) (ah (ay hr (ab 0) ge_int) av))))))))))))),fun ts kk hl hp=>?_⟩;clear hl;obtain⟨r,R,p,q',rfl,h0,h1,h2,q⟩:=hp;obtain⟨m1,m2,m3,m4⟩:=GJ p q' h0 h1 h2 _ rfl;have v:Vo (swT (r,R) (p,q')):=FR (w:=(p,q')) h0 h1 h2;generalize swT (r,R) (p,q')=o at *;walk_at "go";refine⟨o,rfl,?_⟩;walk_at "go";refine⟨_,_,_,_,_,_,_,_,rfl,v.1.1,v.1.2,v.2.1.1,v.2.1.2,m1,m2,m3,m4,?_⟩;walk_at "go";exact q
end
noncomputable def pV:FP:=fun ts k=>∃(o o2:Bool) (P:List Od) (tl:List Tl) (l C:Int) (N B:Nat),ts=[.lst o (P.map odT),.lst o2 (tl.map tvT),.int l]/\OkP tl.length C N P/\N<=100/\mT B (cw l tl P)/\k (.int (Ar B (cw l tl P)/2)) ts
section
variable{P:QL}{w:QP}{K:Qz}{mg:Str->Option Qy}{base:QR}
theorem oh:FnScope ["program","tools","layer"] ["program","tools","layer"] (ax jR):=⟨rfl,rfl,rfl,by decide +kernel,rfl,by decide +kernel,by decide +kernel⟩
theorem wj(F:Fun K "cut_area" "cut_area" jR f fd)(TX:Txt mg)  (G_area_of:Cal P w K mg base 3 "area_of" ["octos"] (aG K 1 m8))(G_cut_octos:Cal P w K mg base 5 "cut_octos" ["program","tools","layer"] (aG K 3 gD)):FnOk P w K mg base CX0 6 f fd ["program","tools","layer"] (aG K 3 pV):=by refine bz F oh [true,true,true] rfl (fun cdv A outer s H E hr=>?_);have sc:=@oh;refine⟨_,(ai (aE (aB (au G_area_of hr (by rfl) (ah (au G_cut_octos hr (by rfl) (ah (ab 0) (ah (ab 1) (ah (ab 2) av)))) av))))),fun ts kk hl hp=>?_⟩;clear hl;obtain⟨o,o2,P,tl,l,C,N,B,rfl,hP,hN,hs,q⟩:=hp;walk_at "go";refine⟨false,false,P,tl,l,C,N,rfl,hP,hN,?_⟩;walk_at "go";refine⟨false,_,false,true,cw l tl P,B,rfl,hs,fun z=>?_⟩;walk_at "go";exact q
end
noncomputable def sT:FP:=fun ts k=>∃(t:Tl) (x y:Int) (s:Nat),ts=[tvT t,.int x,.int y,.int (s:Int)]/\s<4/\k (.bl (inM (t.1+t.2.1) (x,y,s))) ts
section
variable{P:QL}{w:QP}{K:Qz}{mg:Str->Option Qy}{base:QR}
theorem qx:FnScope ["_law_tool_here","_law_x","_law_y","_law_side","_law_ends","_law_points"] ["_law_tool_here","_law_x","_law_y","_law_side"] (ax nM):=⟨rfl,rfl,rfl,by decide +kernel,rfl,by decide +kernel,by decide +kernel⟩
theorem xt(F:Fun K "_law_in_mark" "_law_in_mark" nM f fd)(TX:Txt mg)  :FnOk P w K mg base CX0 1 f fd ["_law_tool_here","_law_x","_law_y","_law_side"] (aG K 4 sT):=by
 refine bz F qx [true,true,true,true] rfl (fun cdv A outer s H E hr=>?_);have sc:=@qx;have nd1:(["_law_one","_law_other","_law_y","_law_x"]:List Str).Nodup:=by decide +kernel
 have nd2:(["_law_one","_law_other","_law_tool_here"]:List Str).Nodup:=by decide +kernel
 refine⟨_,(@ag _ _ _ _ _ _ (@az _ _ _ _ _ 4 _ _ sc.nd (by rfl) (e_ rfl) (by rfl) (@aB _ _ _ (@ay _ _ _ _ _ _ _ hr (@bq _ _ _ _ (@ae _ _ _ _ _ (@bq _ _ _ _ (@ae _ _ _ _ _ (@aD _ _ _ _ _ (@ae _ _ _ _ _ (@ge_int _ _ _ _) (@ae _ _ _ _ _ (@ge_int _ _ _ _) (@af _) (by rfl)) (by rfl))) (@ae _ _ _ _ _ (@aD _ _ _ _ _ (@ae _ _ _ _ _ (@ge_int _ _ _ _) (@ae _ _ _ _ _ (@ge_int _ _ _ _) (@af _) (by rfl)) (by rfl))) (@af _) (by rfl)) (by rfl))) (@ae _ _ _ _ _ (@bq _ _ _ _ (@ae _ _ _ _ _ (@aD _ _ _ _ _ (@ae _ _ _ _ _ (@ge_int _ _ _ _) (@ae _ _ _ _ _ (@ge_int _ _ _ _) (@af _) (by rfl)) (by rfl))) (@ae _ _ _ _ _ (@aD _ _ _ _ _ (@ae _ _ _ _ _ (@ge_int _ _ _ _) (@ae _ _ _ _ _ (@ge_int _ _ _ _) (@af _) (by rfl)) (by rfl))) (@af _) (by rfl)) (by rfl))) (@ae _ _ _ _ _ (@bq _ _ _ _ (@ae _ _ _ _ _ (@aD _ _ _ _ _ (@ae _ _ _ _ _ (@ge_int _ _ _ _) (@ae _ _ _ _ _ (@ge_int _ _ _ _) (@af _) (by rfl)) (by rfl))) (@ae _ _ _ _ _ (@aD _ _ _ _ _ (@ae _ _ _ _ _ (@ge_int _ _ _ _) (@ae _ _ _ _ _ (@ge_int _ _ _ _) (@af _) (by rfl)) (by rfl))) (@af _) (by rfl)) (by rfl))) (@ae _ _ _ _ _ (@bq _ _ _ _ (@ae _ _ _ _ _ (@aD _ _ _ _ _ (@ae _ _ _ _ _ (@ge_int _ _ _ _) (@ae _ _ _ _ _ (@ge_int _ _ _ _) (@af _) (by rfl)) (by rfl))) (@ae _ _ _ _ _ (@aD _ _ _ _ _ (@ae _ _ _ _ _ (@ge_int _ _ _ _) (@ae _ _ _ _ _ (@ge_int _ _ _ _) (@af _) (by rfl)) (by rfl))) (@af _) (by rfl)) (by rfl))) (@af _) (by rfl)) (by rfl)) (by rfl)) (by rfl))) (@ab _ _ 3 _ (by rfl) (by first|exact e_ rfl|exact s_ (e_ rfl)|exact s_ (s_ rfl)) (by decide) (by decide)) (by intro _ _;rfl))) (by rfl) (by first|exact .inl rfl|exact .inr rfl)) (@ag _ _ _ _ _ _ (@az _ _ _ _ _ 5 _ _ sc.nd (by rfl) (e_ rfl) (by rfl) (@aB _ _ _ (@aj _ _ _ _ _ _ _ _ aA (@bq _ _ _ _ (@ae _ _ _ _ _ (@aD _ _ _ _ _ (@ae _ _ _ _ _ (@aj _ _ _ _ _ _ _ _ aA (@aj _ _ _ _ _ _ _ _ aH (@ge_int _ _ _ _) (@ab _ _ 1 _ (by rfl) (by first|exact e_ rfl|exact s_ (e_ rfl)|exact s_ (s_ rfl)) (by decide) (by decide))) (@ge_int _ _ _ _)) (@ae _ _ _ _ _ (@aj _ _ _ _ _ _ _ _ aA (@aj _ _ _ _ _ _ _ _ aH (@ge_int _ _ _ _) (@ab _ _ 2 _ (by rfl) (by first|exact e_ rfl|exact s_ (e_ rfl)|exact s_ (s_ rfl)) (by decide) (by decide))) (@ge_int _ _ _ _)) (@af _) (by rfl)) (by rfl))) (@af _) (by rfl))) (@b6 _ _ _ _ sc ["_law_one","_law_other","_law_y","_law_x"] [none,none,some 2,some 1] nd1 _ _ _ _ _ _ _ _ _ _ (by decide +kernel) (@aO _ _ _ _ (@ab _ _ 4 _ (by rfl) (by first|exact e_ rfl|exact s_ (e_ rfl)|exact s_ (s_ rfl)) (by decide) (by decide))) (fun _ _ _=>(@cB _ _ _ _ _ _ 2 (by rfl) (@aC _ _ _ _ _ _ (@ak _ _ _ 0 _ nd1 (by rfl) (e_ rfl) (by rfl) (s_ rfl)) (@aC _ _ _ _ _ _ (@ak _ _ _ 1 _ nd1 (by rfl) (e_ rfl) (by rfl) (s_ rfl)) (@bT _ _) (by rfl)) (by rfl)) (by rfl) (by rfl))) (fun _ _ _=>(@b7 _)) (fun _ _ _=>(@aD _ _ _ _ _ (@ae _ _ _ _ _ (@aj _ _ _ _ _ _ _ _ aH (@ge_int _ _ _ _) (@aj _ _ _ _ _ _ _ _ aA (@ab _ _ 3 _ (by rfl) (by first|exact e_ rfl|exact s_ (e_ rfl)|exact s_ (s_ rfl)) (by decide) (by decide)) (@ab _ _ 0 _ (by rfl) (by first|exact e_ rfl|exact s_ (e_ rfl)|exact s_ (s_ rfl)) (by decide) (by decide)))) (@ae _ _ _ _ _ (@aj _ _ _ _ _ _ _ _ aH (@ge_int _ _ _ _) (@aj _ _ _ _ _ _ _ _ aA (@ab _ _ 2 _ (by rfl) (by first|exact e_ rfl|exact s_ (e_ rfl)|exact s_ (s_ rfl)) (by decide) (by decide)) (@ab _ _ 1 _ (by rfl) (by first|exact e_ rfl|exact s_ (e_ rfl)|exact s_ (s_ rfl)) (by decide) (by decide)))) (@af _) (by rfl)) (by rfl)))) (by rfl) (by rfl) (by rfl) (by intro _;rfl)))) (by rfl) (by first|exact .inl rfl|exact .inr rfl)) (@ai _ _ _ _ (@aE _ _ _ _ _ (@aB _ _ _ (@aq _ _ _ _ _ _ _ _ _ (jr rfl) (by rfl) TX.all (by decide +kernel) (@ae _ _ _ _ _ (@b6 _ _ _ _ sc ["_law_one","_law_other","_law_tool_here"] [none,none,some 0] nd2 _ _ _ _ _ _ _ _ _ _ (by decide +kernel) (@aO _ _ _ _ (@ab _ _ 5 _ (by rfl) (by first|exact e_ rfl|exact s_ (e_ rfl)|exact s_ (s_ rfl)) (by decide) (by decide))) (fun _ _ _=>(@cB _ _ _ _ _ _ 2 (by rfl) (@aC _ _ _ _ _ _ (@ak _ _ _ 0 _ nd2 (by rfl) (e_ rfl) (by rfl) (s_ rfl)) (@aC _ _ _ _ _ _ (@ak _ _ _ 1 _ nd2 (by rfl) (e_ rfl) (by rfl) (s_ rfl)) (@bT _ _) (by rfl)) (by rfl)) (by rfl) (by rfl))) (fun _ _ _=>(@b7 _)) (fun _ _ _=>(@nu _ _ _ _ _ _ _ _ kD (@aj _ _ _ _ _ _ _ _ aA (@aq _ _ _ _ _ _ _ _ _ i9 (by rfl) TX.abs (by decide +kernel) (@ae _ _ _ _ _ (@ab _ _ 0 _ (by rfl) (by first|exact e_ rfl|exact s_ (e_ rfl)|exact s_ (s_ rfl)) (by decide) (by decide)) (@af _) (by rfl)) (by decide) (by decide) (by rfl) (by rfl)) (@aq _ _ _ _ _ _ _ _ _ i9 (by rfl) TX.abs (by decide +kernel) (@ae _ _ _ _ _ (@ab _ _ 1 _ (by rfl) (by first|exact e_ rfl|exact s_ (e_ rfl)|exact s_ (s_ rfl)) (by decide) (by decide)) (@af _) (by rfl)) (by decide) (by decide) (by rfl) (by rfl))) (@aj _ _ _ _ _ _ _ _ aH (@ge_int _ _ _ _) (@aj _ _ _ _ _ _ _ _ aA (@ay _ _ _ _ _ _ _ hr (@ab _ _ 2 _ (by rfl) (by first|exact e_ rfl|exact s_ (e_ rfl)|exact s_ (s_ rfl)) (by decide) (by decide)) (@ge_int _ _ _ _) (by intro _ _;rfl)) (@ay _ _ _ _ _ _ _ hr (@ab _ _ 2 _ (by rfl) (by first|exact e_ rfl|exact s_ (e_ rfl)|exact s_ (s_ rfl)) (by decide) (by decide)) (@ge_int _ _ _ _) (by intro _ _;rfl)))) (aJ _))) (by rfl) (by rfl) (by rfl) (by intro _;rfl)) (@af _) (by rfl)) (by decide) (by decide) (by rfl) (by rfl))))))),fun ts kk hl hp=>?_⟩;clear hl;obtain⟨t,x,y,s,rfl,hs,q⟩:=hp;walk_at "go";refine aY (yL hs).1 ?_;have l2:=(yL hs).2;unfold inM ptM at q;dsimp only at q;generalize edL.getD s []=es at *;walk_at "go";refine⟨.inl ⟨by decide,by decide⟩,.inl ⟨by decide,by decide⟩,aL (by rw[a_,sizeLine_eq];lia) (fun i acc ie=>∃z1 z2,acc=(es.take i).map (fun e=>ptP (2*(x+e.1),2*(y+e.2)))/\ie=[z1,z2,.int y,.int x]) ⟨_,_,rfl,rfl⟩ ?_ ?_⟩
 ·rintro i u _ _ ⟨z1,z2,rfl,rfl⟩ ei;obtain⟨e,ee,rfl⟩:=aK ei;walk_at "go";exact⟨.inl ⟨by decide,by decide⟩,.inl ⟨by decide,by decide⟩,_,_,by rw[map_take ee];rfl,rfl⟩
 rintro _ _ ⟨z1,z2,rfl,rfl⟩;rw[a_,u_];walk_at "go";have ep:T.tup [T.int (2*x+1),T.int (2*y+1)]::G' (fun e=>ptP (2*(x+e.1),2*(y+e.2))) es=((2*x+1,2*y+1)::es.map fun e=>((2*(x+e.1),2*(y+e.2)):Pt)).map ptP:=by rw[g_,A'];rfl
 have lp:((2*x+1,2*y+1)::es.map fun e=>((2*(x+e.1),2*(y+e.2)):Pt)).length=3:=by rw[h_,a_,l2]
 rw[ep];generalize ((2*x+1,2*y+1)::es.map fun e=>((2*(x+e.1),2*(y+e.2)):Pt))=ps at *;refine⟨by lia,aL (by rw[a_,sizeLine_eq];lia) (fun i acc ie=>∃z1 z2,acc=(ps.take i).map (fun p=>T.bl (decide ((p.1.natAbs:Int)+p.2.natAbs<=2*(t.1+t.2.1))))/\ie=[z1,z2,tvT t]) ⟨_,_,rfl,rfl⟩ ?_ ?_⟩
 ·rintro i u _ _ ⟨z1,z2,rfl,rfl⟩ ei;obtain⟨p,ee,rfl⟩:=aK ei;walk_at "go";exact⟨.inl ⟨by decide,by decide⟩,_,_,by rw[map_take ee],rfl⟩
 rintro _ _ ⟨z1,z2,rfl,rfl⟩;rw[a_,u_];walk_at "go";refine aY (dU _ _) ?_;walk_at "go";rw[Ng];exact q
end
noncomputable def Dl:FP:=fun ts k=>∃(t:Tl),ts=[tvT t,ptP (0,0)]/\tlO t/\k (.dT true (dG cp (mkA t))) ts
section
variable{P:QL}{w:QP}{K:Qz}{mg:Str->Option Qy}{base:QR}
theorem zj:FnScope ["_law_tool_here","_law_corner","_law_found","_law_x","_law_y","_law_side"] ["_law_tool_here","_law_corner"] (ax xV):=⟨rfl,rfl,rfl,by decide +kernel,rfl,by decide +kernel,by decide +kernel⟩
theorem Ef(F:Fun K "_law_mark" "_law_mark" xV f fd)(TX:Txt mg)  (G_in_mark:Cal P w K mg base 1 "_law_in_mark" ["_law_tool_here","_law_x","_law_y","_law_side"] (aG K 4 sT)):FnOk P w K mg base CX0 2 f fd ["_law_tool_here","_law_corner"] (aG K 2 Dl):=by
 refine bz F zj [true,true] rfl (fun cdv A outer s H E hr=>?_);have sc:=@zj;refine⟨_,(ag (az (i:=2) sc.nd (by rfl) (e_ rfl) (by rfl) (aB ux)) (ag (bp QX (by rfl) (sN (by rfl) TX.range (ae (aB (bC (ay hr (ab 0) ge_int))) (ae (aB (ay hr (ab 0) ge_int)) af))) (ak (i:=3) sc.nd (by rfl) (e_ rfl) (by rfl)) (ai (bp QX (by rfl) (sN (by rfl) TX.range (ae (aB (bC (ay hr (ab 0) ge_int))) (ae (aB (ay hr (ab 0) ge_int)) af))) (ak (i:=4) sc.nd (by rfl) (e_ rfl) (by rfl)) (ai (bp QX (by rfl) (cK (by rfl) TX.range (ae ge_int af)) (ak (i:=5) sc.nd (by rfl) (e_ rfl) (by rfl)) (ai (bj (cf (cC (au G_in_mark hr (by rfl) (ah (ab 0) (ah (ab 3) (ah (ab 4) (ah (ab 5) av))))))) (ai (jQ cR (pD (i:=2) hr (aB (aD (ae (aj aA (ay hr (ab 1) ge_int) (ab 3)) (ae (aj aA (ay hr (ab 1) ge_int) (ab 4)) (ae (ab 5) af)))))))) aM))))))) (ai (aE (qL 2))))),fun ts kk hl hp=>?_⟩;clear hl;obtain⟨t,rfl,ht,q⟩:=hp;obtain⟨t1,t2,t3,t4⟩:=ht;walk_at "go";refine⟨rfl,by lia,aS (fun i env=>∃z3 z4 z5,env=[tvT t,ptP (0,0),.dT true (dG cp (mkN t.1 (t.1+t.2.1) i)),z3,z4,z5]) ⟨_,_,_,rfl⟩ ?_ ?_⟩
 ·rintro i u _ ⟨z3,z4,z5,rfl⟩ ei;have hi:=eI ei;have et:=qM ei;subst et;walk_at "go";refine⟨by lia,aS (fun j env=>∃z4 z5,env=[tvT t,ptP (0,0),.dT true (dG cp (mkN t.1 (t.1+t.2.1) i++mkC t.1 (t.1+t.2.1) (-t.1+i) j)),.int (-t.1+i),z4,z5]) ⟨_,_,by rw[show mkC t.1 (t.1+t.2.1) (-t.1+i) 0=[]from rfl,E_]⟩ ?_ ?_⟩
  ·rintro j u _ ⟨z4,z5,rfl⟩ ej;have hj:=eI ej;have et:=qM ej;subst et;walk_at "go";refine⟨by decide,aS (fun s env=>∃z5,env=[tvT t,ptP (0,0),.dT true (dG cp (mkN t.1 (t.1+t.2.1) i++mkC t.1 (t.1+t.2.1) (-t.1+i) j++((A_ s).filter fun s=>decide (inM (t.1+t.2.1) (-t.1+i,-t.1+j,s)=true)).map fun s=>(-t.1+(i:Int),-t.1+(j:Int),s))),.int (-t.1+i),.int (-t.1+j),z5]) ⟨_,by rw[List.range_zero,List.filter_nil,Nb,E_]⟩ ?_ ?_⟩
   ·rintro s u _ ⟨z5,rfl⟩ es;have hs4:s<4:=eI es;have et:=qM es;subst et;rw[NV];walk_at "go";refine⟨t,-t.1+i,-t.1+j,s,rfl,hs4,?_⟩;walk_at "go";rw[NR,Pu,p_];refine nA (fun h=>?_) (fun h=>?_)
    ·walk_at "go";have l1:=GL (r:=t.1) (R:=t.1+t.2.1) (i:=i) (j:=j) (s:=s) (by lia);have ef:((PK (fun s=>decide (inM (t.1+t.2.1) (-t.1+i,-t.1+j,s)=true)) [s]).map fun s=>((-t.1+(i:Int),-t.1+(j:Int),s):Qt))=[(-t.1+(i:Int),-t.1+(j:Int),s)]:=by rw[Oa,h];rfl
     rw[NV,NV];exact⟨by rw[qQ];lia,_,by rw[ef,<-l_,<-Bk (ρ:=cp) Hq,<-tL];rfl⟩
    walk_at "go";have ef:((PK (fun s=>decide (inM (t.1+t.2.1) (-t.1+i,-t.1+j,s)=true)) [s]).map fun s=>((-t.1+(i:Int),-t.1+(j:Int),s):Qt))=[]:=by rw[Oa,h];rfl
    exact⟨_,by rw[ef,E_]⟩
   rintro _ ⟨z5,rfl⟩;have e1:mkC t.1 (t.1+t.2.1) (-t.1+i) (j+1)=mkC t.1 (t.1+t.2.1) (-t.1+i) j++_:=fu;exact⟨_,_,by rw[e1,<-l_];rfl⟩
  rintro _ ⟨z4,z5,rfl⟩;rw[cj];have e1:mkN t.1 (t.1+t.2.1) (i+1)=mkN t.1 (t.1+t.2.1) i++_:=fu;exact⟨_,_,_,by rw[e1]⟩
 rintro _ ⟨z3,z4,z5,rfl⟩;rw[cj];walk_at "go";exact q
end
noncomputable def Ct:FP:=fun ts k=>∃c n m,ts=[stT c n,.int m]/\n<2 ^ 39/\2<=m/\m<=6/\∀(c':Cells) (t:Tl),tlO t->k (tvT t) [stT c' (n+5),.int m]
section
variable{P:QL}{w:QP}{K:Qz}{mg:Str->Option Qy}{base:QR}
theorem yG:FnScope ["_law_state","_law_most","_law_r","_law_k"] ["_law_state","_law_most"] (ax xM):=⟨rfl,rfl,rfl,by decide +kernel,rfl,by decide +kernel,by decide +kernel⟩
theorem Ft(F:Fun K "_law_tool" "_law_tool" xM f fd)(TX:Txt mg)  (G_take:Cal P w K mg base 1 "_law_take" ["_law_state","_law_many"] (aG K 2 kB)):FnOk P w K mg base CX0 2 f fd ["_law_state","_law_most"] (aG K 2 Ct):=by refine bz F yG [true,true] rfl (fun cdv A outer s H E hr=>?_);have sc:=@yG;refine⟨_,(ag (az (i:=2) sc.nd (by rfl) (e_ rfl) (by rfl) (aj aA ge_int (au G_take hr (by rfl) (aU 0 (ah (aB (aj bc (ab 1) ge_int)) av))))) (ag (az (i:=3) sc.nd (by rfl) (e_ rfl) (by rfl) (aj aA ge_int (au G_take hr (by rfl) (aU 0 (ah (aB (aj bc (ab 2) ge_int)) av))))) (ai (aE (aD (ae (bB 2) (ae (bB 3) (ae (aj aA ge_int (au G_take hr (by rfl) (aU 0 (ah ge_int av)))) (ae (aj aA ge_int (au G_take hr (by rfl) (aU 0 (ah ge_int av)))) (ae (aj aA ge_int (au G_take hr (by rfl) (aU 0 (ah ge_int av)))) af)))))))))),fun ts kk hl hp=>?_⟩;clear hl;obtain⟨c,n,m,rfl,hn,m0,m1,q⟩:=hp;walk_at "go";walk_at "take";intro r c1 a1 b1;walk_at "go";walk_at "take";intro kk c2 a2 b2;walk_at "go";walk_at "take";intro u c3 a3 b3;walk_at "go";walk_at "take";intro v c4 a4 b4;walk_at "go";walk_at "take";intro w' c5 a5 b5;walk_at "go";exact q c5 (2+r,1+kk,_,_,_) ⟨by dsimp only;lia,by dsimp only;lia,by dsimp only;lia,by dsimp only;lia⟩
end
noncomputable def zM:FP:=fun ts k=>∃c n m,ts=[stT c n,.int m]/\n<2 ^ 38/\2<=m/\m<=6/\∀(c':Cells) (n':Nat) (tl:List Tl),n<=n'->n'<=n+100->0<tl.length->tl.length<=5->(∀t∈tl,tlO t)->k (.lst true (tl.map tvT)) [stT c' n',.int m]
section
variable{P:QL}{w:QP}{K:Qz}{mg:Str->Option Qy}{base:QR}
theorem vk:FnScope ["_law_state","_law_most"] ["_law_state","_law_most"] (ax uP):=⟨rfl,rfl,rfl,by decide +kernel,rfl,by decide +kernel,by decide +kernel⟩
theorem BZ(F:Fun K "_law_tools" "_law_tools" uP f fd)(TX:Txt mg)  (G_take:Cal P w K mg base 1 "_law_take" ["_law_state","_law_many"] (aG K 2 kB))(G_tool:Cal P w K mg base 2 "_law_tool" ["_law_state","_law_most"] (aG K 2 Ct)):FnOk P w K mg base CX0 3 f fd ["_law_state","_law_most"] (aG K 2 zM):=by
 refine bz F vk [true,true] rfl (fun cdv A outer s H E hr=>?_);have sc:=@vk;have nd1:(["_law_turn","_law_most","_law_state"]:List Str).Nodup:=by decide +kernel
 refine⟨_,(ai (aE (b6 sc ["_law_turn","_law_most","_law_state"] [none,some 1,some 0] nd1 (by decide +kernel) (cK (by rfl) TX.range (ae (ay hr (aB (bq (ae ge_int (ae ge_int (ae ge_int (ae ge_int (ae ge_int (ae ge_int af)))))))) (au G_take hr (by rfl) (aU 0 (ah ge_int av)))) af)) (fun _ _ _=>(ak (i:=0) nd1 (by rfl) (e_ rfl) (by rfl) (hf:=(s_ rfl)))) (fun _ _ _=>b7) (fun _ _ _=>(au G_tool hr (by rfl) (aU 2 (ah (bB 1) av))))))),fun ts kk hl hp=>?_⟩;clear hl;obtain⟨c,n,m,rfl,hn,m0,m1,q⟩:=hp;walk_at "go";walk_at "take";intro r c1 a1 b1;walk_at "go";obtain⟨h,ef,f0,f1⟩:=i6 (fun v=>1<=v/\v<=5) (ns:=[1,2,3,1,2,5]) (i:=r) (by omega) (by show r<6;omega) (by intro v hv;simp only[m_,Ms,or_false]at hv;lia)
 refine aY ef ?_;walk_at "go";refine⟨by lia,aL (by rw[cj,sizeLine_eq];lia) (fun i acc ie=>∃(c':Cells) (n':Nat) (tl:List Tl) (z:T),n<=n'/\n'<=n+1+5*i/\tl.length=i/\(∀t∈tl,tlO t)/\acc=tl.map tvT/\ie=[z,.int m,stT c' n']) ⟨c1,n+1,[],_,by lia,by lia,rfl,(fun _ h=>by cases h),rfl,rfl⟩ ?_ ?_⟩
 ·rintro i u _ _ ⟨c',n',tl,z,l2,l3,l4,ht,rfl,rfl⟩ ei;have hi:=eI ei;walk_at "go";refine⟨c',n',m,rfl,by lia,m0,m1,fun c2 t h=>?_⟩;walk_at "go";refine⟨c2,n'+5,tl++[t],_,by lia,by lia,by rw[d_,l4];rfl,fun v mv=>?_,by rw[p_];rfl,rfl⟩;rcases x_.mp mv with mv|mv
  ·exact ht v mv
  rw[w_.mp mv];exact h
 rintro _ _ ⟨c',n',tl,z,l2,l3,l4,ht,rfl,rfl⟩;rw[cj]at l3 l4;walk_at "go";exact q c' n' tl (by omega) (by lia) (by lia) (by lia) ht
end
noncomputable def wH:FP:=fun ts k=>∃c n p m,ts=[stT c n,ptP p,.int m]/\n<2 ^ 38/\0<=m/\m<=40/\∀(c':Cells) (n':Nat) (ps:List Plc) (e:Pt),n'<=n+300->(∀p'∈ps,(p.1-m<=p'.1.1/\p'.1.1<=p.1+m)/\p.2-m<=p'.1.2/\p'.1.2<=p.2+m)->ps.length<=41->0<ps.length->k (.tup [.lst true (ps.map plT),ptP e]) [stT c' n',ptP p,.int m]
section
variable{P:QL}{w:QP}{K:Qz}{mg:Str->Option Qy}{base:QR}
theorem sH:FnScope ["_law_state","_law_corner","_law_many","_law_x","_law_y","_law_z","_law_places_here","_law_direction","_law_turn","_law_way"] ["_law_state","_law_corner","_law_many"] (ax qm):=⟨rfl,rfl,rfl,by decide +kernel,rfl,by decide +kernel,by decide +kernel⟩
theorem B6(F:Fun K "_law_places" "_law_places" qm f fd)(TX:Txt mg)  (G_take:Cal P w K mg base 1 "_law_take" ["_law_state","_law_many"] (aG K 2 kB)):FnOk P w K mg base CX0 2 f fd ["_law_state","_law_corner","_law_many"] (aG K 3 wH):=by
 refine bz F sH [true,true,true] rfl (fun cdv A outer s H E hr=>?_);have sc:=@sH;refine⟨_,(ag (jQ (bB 1) (cB (n:=2) (by rfl) (aC (ak (i:=3) sc.nd (by rfl) (e_ rfl) (by rfl)) (aC (ak (i:=4) sc.nd (by rfl) (e_ rfl) (by rfl)) bT)))) (ag (az (i:=5) sc.nd (by rfl) (e_ rfl) (by rfl) (au G_take hr (by rfl) (aU 0 (ah ge_int av)))) (ag (az (i:=6) sc.nd (by rfl) (e_ rfl) (by rfl) (aB (bq (ae (aD (ae (ab 3) (ae (ab 4) (ae (ab 5) af)))) af)))) (ag (az (i:=7) sc.nd (by rfl) (e_ rfl) (by rfl) (au G_take hr (by rfl) (aU 0 (ah ge_int av)))) (ag (bp QX (by rfl) (cK (by rfl) TX.range (ae (bB 2) af)) (ak (i:=8) sc.nd (by rfl) (e_ rfl) (by rfl)) (dX (bj (aT (bR hr) (au G_take hr (by rfl) (aU 0 (ah ge_int av))) ge_int (aJ _)) (ai (az (i:=7) sc.nd (by rfl) (e_ rfl) (by rfl) (au G_take hr (by rfl) (aU 0 (ah ge_int av))))) aM) (ag (az (i:=9) sc.nd (by rfl) (e_ rfl) (by rfl) (au G_take hr (by rfl) (aU 0 (ah ge_int av)))) (dX (bj (cf (x6 (t9 (aT (bR hr) (ab 9) ge_int (aJ _)) (pq (aT Hf (ab 5) ge_int (aJ _)))))) (ai (az (i:=5) sc.nd (by rfl) (e_ rfl) (by rfl) (aB (aj aA (ab 5) ge_int)))) (ag (az (i:=3) sc.nd (by rfl) (e_ rfl) (by rfl) (aB (aj aA (ab 3) (ay hr (bq (ae ge_int (ae ge_int (ae ge_int (ae (bC ge_int) (ae (bC ge_int) (ae (bC ge_int) (ae ge_int (ae ge_int af))))))))) (ab 7))))) (ag (az (i:=4) sc.nd (by rfl) (e_ rfl) (by rfl) (aB (aj aA (ab 4) (ay hr (bq (ae ge_int (ae ge_int (ae ge_int (ae ge_int (ae ge_int (ae (bC ge_int) (ae (bC ge_int) (ae (bC ge_int) af))))))))) (ab 7))))) (ai (az (i:=5) sc.nd (by rfl) (e_ rfl) (by rfl) (ay hr (bq (ae (bB 5) (ae (bB 5) (ae (aB (aq (fD rfl) (by rfl) TX.min (by decide +kernel) (ae ge_int (ae (aj aA (ab 5) ge_int) af)))) (ae (au G_take hr (by rfl) (aU 0 (ah (aB (aj aA (ab 5) ge_int)) av))) (ae (bB 5) (ae (bB 5) af))))))) (bB 9))))))) (ai (bJ (bL 6 Q3 Q4 bh (ae (aB (aD (ae (ab 3) (ae (ab 4) (ae (ab 5) af))))) af)))))))) (ai (aE (aD (ae (qL 6) (ae (aB (aD (ae (ab 3) (ae (ab 4) af)))) af)))))))))),fun ts kk hl hp=>?_⟩;clear hl;obtain⟨c,n,p,m,rfl,hn,m0,m1,q⟩:=hp;rw[ptP,pt];walk_at "go";walk_at "take";intro z c1 a1 b1;walk_at "go";walk_at "take";intro d c2 a2 b2;walk_at "go";refine⟨by lia,aS (fun i env=>∃(c':Cells) (n':Nat) (ps:List Plc) (x y z d:Int) (z8 z9:T),n'<=n+2+5*i/\ps.length=i+1/\(p.1-i<=x/\x<=p.1+i/\p.2-i<=y/\y<=p.2+i/\0<=z/\z<=6/\0<=d/\d<8)/\(∀p'∈ps,(p.1-i<=p'.1.1/\p'.1.1<=p.1+i)/\p.2-i<=p'.1.2/\p'.1.2<=p.2+i)/\env=[stT c' n',ptP p,.int m,.int x,.int y,.int z,.lst true (ps.map plT),.int d,z8,z9]) ⟨c2,n+1+1,[(p,z)],p.1,p.2,z,d,_,_,b_ _,rfl,by lia,fun p' m'=>?_,rfl⟩ ?_ ?_⟩
 ·rw[w_.mp m'];dsimp only;lia
 ·rintro i t _ ⟨c',n',ps,x,y,z,d,z8,z9,l2,l3,hb,hm,rfl⟩ ei;have hi:=eI ei;walk_at "go";refine gC (fun env=>∃(c':Cells) (n':Nat) (d:Int) (z8:T),n'<=n+4+5*i/\(0<=d/\d<8)/\env=[stT c' n',ptP p,.int m,.int x,.int y,.int z,.lst true (ps.map plT),.int d,z8,z9]) ?_ ?_
  ·walk_at "go";walk_at "take";intro r c3 r1 r2;walk_at "go";refine ba (fun g=>?_) (fun g=>?_)
   ·walk_at "go";walk_at "take";intro r' c4 r3 r4;walk_at "go";exact⟨_,_,_,_,by lia,⟨r3,r4⟩,rfl⟩
   walk_at "go";exact⟨_,_,_,_,by lia,⟨hb.2.2.2.2.2.2.1,hb.2.2.2.2.2.2.2⟩,rfl⟩
  clear l2;rintro _ ⟨c',n',d,z8,l2,hd,rfl⟩;walk_at "go";walk_at "take";intro w c5 w1 w2;walk_at "go";refine gC (fun env=>∃(c':Cells) (n':Nat) (x' y' z':Int) (z8:T),n'<=n+7+5*i/\(x-1<=x'/\x'<=x+1/\y-1<=y'/\y'<=y+1/\0<=z'/\z'<=6)/\env=[stT c' n',ptP p,.int m,.int x',.int y',.int z',.lst true (ps.map plT),.int d,z8,.int w]) ?_ ?_
  ·walk_at "go";refine ba (fun g=>?sa) (fun g=>?sb)
   case' sb=>
    walk_at "go";clear g
   case' sa=>
    walk_at "go";refine ba (fun g2=>?sc) (fun g2=>?sd)
   case sc=>
    walk_at "go";exact⟨_,_,x,y,z+1,_,by lia,by lia,rfl⟩
   case' sd=>
    walk_at "go";clear g g2;refine ?sb
   case sb=>
    obtain⟨u,eu,u0,u1⟩:=i6 (fun v=>-1<=v/\v<=1) (ns:=[1,1,0,-1,-1,-1,0,1]) (i:=d) hd.1 hd.2 (by decide);refine aY eu ?_;walk_at "go";obtain⟨v,ev,v0,v1⟩:=i6 (fun v=>-1<=v/\v<=1) (ns:=[0,1,1,1,0,-1,-1,-1]) (i:=d) hd.1 hd.2 (by decide);refine aY ev ?_;walk_at "go";walk_at "take";intro r c6 r1 r2;walk_at "go";obtain⟨z',ez,z0,z1⟩:=i6 (fun v=>0<=v/\v<=6) (ns:=[z,z,min 6 (z+1),r,z,z]) (i:=w) w1 w2 (by intro v hv;simp only[m_,Ms,or_false]at hv;lia)
    refine aY ez ?_;walk_at "go";exact⟨_,_,_,_,_,_,by lia,by lia,rfl⟩
  rintro _ ⟨c',n',x',y',z',z8,l2,hb',rfl⟩;walk_at "go";refine⟨by lia,c',n',ps++[((x',y'),z')],x',y',z',d,_,_,by lia,by rw[d_,l3];rfl,by lia,fun p' m'=>?_,by rw[p_];rfl⟩;rcases x_.mp m' with m'|m'
  ·have:=hm p' m';lia
  rw[w_.mp m'];dsimp only;omega
 rintro _ ⟨c',n',ps,x,y,z,d,z8,z9,l2,l3,hb,hm,rfl⟩;rw[cj]at *;walk_at "go";exact q c' n' ps (x,y) (by lia) (fun p' m'=>by have:=hm p' m';omega) (by lia) (by lia)
end
noncomputable def FY:FP:=fun ts k=>∃(o o2:Bool) (P:List Od) (tl:List Tl) (l C:Int) (N:Nat),ts=[.lst o (P.map odT),.lst o2 (tl.map tvT),.int l]/\OkP tl.length C N P/\N<=100/\(tl.length<=5/\∀t∈tl,tlO t)/\∀qs:List Qt,Cuts l tl P qs->k (.dT true (dG cp qs)) [.lst false (P.map odT),.lst o2 (tl.map tvT),.int l]
section
variable{P:QL}{w:QP}{K:Qz}{mg:Str->Option Qy}{base:QR}
theorem Dz:FnScope ["_law_program","_law_tools_here","_law_layer","_law_marks","_law_found","_law_spots","_law_taken","_law_order","_law_x","_law_y","_law_z","_law_number","_law_right","_law_up","_law_side"] ["_law_program","_law_tools_here","_law_layer"] (ax Cc):=⟨rfl,rfl,rfl,by decide +kernel,rfl,by decide +kernel,by decide +kernel⟩
theorem Ip(F:Fun K "_law_cut" "_law_cut" Cc f fd)(TX:Txt mg)  (G_mark:Cal P w K mg base 2 "_law_mark" ["_law_tool_here","_law_corner"] (aG K 2 Dl)):FnOk P w K mg base CX0 3 f fd ["_law_program","_law_tools_here","_law_layer"] (aG K 3 FY):=by
 refine bz F Dz [true,true,true] rfl (fun cdv A outer s H E hr=>?_);have sc:=@Dz;have nd1:(["_law_tool_here"]:List Str).Nodup:=by decide +kernel
 refine⟨_,(ag (pW sc (i:=3) ["_law_tool_here"] [none] nd1 (by decide +kernel) (by rfl) (e_ rfl) (by rfl) (aO (ab 1)) (fun _ _ _=>(ak (i:=0) nd1 (by rfl) (e_ rfl) (by rfl) (hf:=(s_ rfl)))) (fun _ _ _=>b7) (fun _ _ _=>(au G_mark hr (by rfl) (ah (ab 0) (ah (aD (ae ge_int (ae ge_int af))) av)))) (by rfl)) (ag (az (i:=4) sc.nd (by rfl) (e_ rfl) (by rfl) (aB ux)) (ag (az (i:=5) sc.nd (by rfl) (e_ rfl) (by rfl) (aB ux)) (ag (az (i:=6) sc.nd (by rfl) (e_ rfl) (by rfl) ge_int) (ag (bp QX (by rfl) (aO (bB 0)) (ak (i:=7) sc.nd (by rfl) (e_ rfl) (by rfl)) (dX (bj (cf (aT (bR hr) (ay hr (ab 7) ge_int) ge_str (aJ _))) (ai (az (i:=6) sc.nd (by rfl) (e_ rfl) (by rfl) (aB (ay hr (ab 7) ge_int)))) aM) (ai (bj (cf (aT (bR hr) (ay hr (ab 7) ge_int) ge_str (aJ _))) (ai (bp QX (by rfl) (aO (aB (ay hr (ab 7) ge_int))) (cB (n:=3) (by rfl) (aC (ak (i:=8) sc.nd (by rfl) (e_ rfl) (by rfl)) (aC (ak (i:=9) sc.nd (by rfl) (e_ rfl) (by rfl)) (aC (ak (i:=10) sc.nd (by rfl) (e_ rfl) (by rfl)) bT)))) (ai (bj (cf (aT pS (ab 10) (ab 2) (aJ _))) (ai (jQ cR (pD (i:=5) hr (aB (aD (ae (ab 6) (ae (ab 8) (ae (ab 9) af)))))))) aM)))) aM)))) (ag (bp QX (by rfl) (zJ (bB 5)) (cB (n:=3) (by rfl) (aC (ak (i:=11) sc.nd (by rfl) (e_ rfl) (by rfl)) (aC (ak (i:=12) sc.nd (by rfl) (e_ rfl) (by rfl)) (aC (ak (i:=13) sc.nd (by rfl) (e_ rfl) (by rfl)) bT)))) (ai (bp QX (by rfl) (zJ (ay hr (bB 3) (bB 11))) (cB (n:=3) (by rfl) (aC (ak (i:=8) sc.nd (by rfl) (e_ rfl) (by rfl)) (aC (ak (i:=9) sc.nd (by rfl) (e_ rfl) (by rfl)) (aC (ak (i:=14) sc.nd (by rfl) (e_ rfl) (by rfl)) bT)))) (ai (jQ cR (pD (i:=4) hr (aB (aD (ae (aj aA (ab 8) (ab 12)) (ae (aj aA (ab 9) (ab 13)) (ae (ab 14) af))))))))))) (ai (aE (qL 4))))))))),fun ts kk hl hp=>?_⟩;clear hl;obtain⟨o,o2,P,tl,l,C,N,rfl,hP,hN,⟨hl,ht⟩,q⟩:=hp;walk_at "go";refine aL (by rw[a_,sizeLine_eq];lia) (fun i acc ie=>∃z,acc=(tl.take i).map (fun t=>T.dT true (dG cp (mkA t)))/\ie=[z]) ⟨_,rfl,rfl⟩ ?_ ?_
 ·rintro i u _ _ ⟨z,rfl,rfl⟩ ei;obtain⟨t,et,rfl⟩:=aK ei;walk_at "go";refine⟨t,rfl,ht t (F_ et),?_⟩;walk_at "go";exact⟨_,by rw[map_take et],rfl⟩
 rintro _ _ ⟨z,rfl,rfl⟩;rw[a_,u_];walk_at "go";refine⟨rfl,rfl,aS (fun i env=>∃(z7 z8 z9 z10:T),env=[.lst false (P.map odT),.lst o2 (tl.map tvT),.int l,.lst true (tl.map fun t=>T.dT true (dG cp (mkA t))),.dT true [],.dT true (dG eT (ck eT [] (sps l (P.take i) 0))),.int (tlA (P.take i) 0:Int),z7,z8,z9,z10,.any,.any,.any,.any]) ⟨_,_,_,_,rfl⟩ ?_ ?_⟩
 ·rintro i t _ ⟨z7,z8,z9,z10,rfl⟩ ei;obtain⟨od,eo,rfl⟩:=aK ei;obtain⟨et,e0⟩:=zI hP eo;have hw:=(gp (l:=l) (o:=od) (P:=P.take i) (t:=0)).2;rw[<-et]at hw;have hm:=F_ eo;walk_at "go";refine gC (fun env=>env=[.lst false (P.map odT),.lst o2 (tl.map tvT),.int l,.lst true (tl.map fun t=>T.dT true (dG cp (mkA t))),.dT true [],.dT true (dG eT (ck eT [] (sps l (P.take i) 0))),.int (tlA (P.take (i+1)) 0:Int),odT od,z8,z9,z10,.any,.any,.any,.any]) ?_ ?_
  ·rw[hw.2];cases od with
   |tk j=>rw[nR];walk_at "go";rfl
   |ov b u v=>rw[mL];walk_at "go";rfl
   |ct ps=>rw[kA];walk_at "go";rfl
  rintro _ rfl;rw[hw.1,hw.2];have le:(sps l (P.take i) 0).length<=100:=by have h1:=lL (l:=l) (P:=P.take i) (t:=0);have h2:=va (P:=P) (i:=i);have h3:=hP.2.2.1;lia
  cases od with
  |tk j=>rw[nR];walk_at "go";exact⟨_,_,_,_,by rw[show sps l [Od.tk j] (tlA (P.take i) 0)=[]from rfl,E_]⟩
  |ov b u v=>rw[mL];walk_at "go";exact⟨_,_,_,_,by rw[show sps l [Od.ov b u v] (tlA (P.take i) 0)=[]from rfl,E_]⟩
  |ct ps=>
   have hps:=oX hm;have hnp:=hP.2.2.1;have e1:sps l [Od.ct ps] (tlA (P.take i) 0)=(ps.filter fun p=>decide (l<p.2)).map fun p=>(tlA (P.take i) 0,p.1):=E_ _;have e2:tlA [Od.ct ps] (tlA (P.take i) 0)=tlA (P.take i) 0:=rfl;rw[e1,e2,eV,kA];clear hw e1 e2;generalize sps l (P.take i) 0=S at *;generalize tlA (P.take i) 0=tn at *;have lS:=cQ (ρ:=eT) (l:=[]) (r:=S);rw[Mf]at lS;generalize ck eT [] S=SS at *;walk_at "go";refine aS (fun j env=>∃(z8 z9 z10:T),env=[.lst false (P.map odT),.lst o2 (tl.map tvT),.int l,.lst true (tl.map fun t=>T.dT true (dG cp (mkA t))),.dT true [],.dT true (dG eT (ck eT SS (((ps.take j).filter fun p=>decide (l<p.2)).map fun p=>(tn,p.1)))),.int (tn:Int),odT (.ct ps),z8,z9,z10,.any,.any,.any,.any]) ⟨_,_,_,rfl⟩ ?_ ?_
   ·rintro j t _ ⟨z8,z9,z10,rfl⟩ ej;obtain⟨p,ep,rfl⟩:=aK ej;have hj:=(f_.mp ep).1;rw[plT];walk_at "go";rw[iS ep];refine ba (fun g=>?_) (fun g=>?_)
    ·walk_at "go";have la:=cQ (ρ:=eT) (l:=SS) (r:=((ps.take j).filter fun p=>decide (l<p.2)).map fun p=>(tn,p.1));rw[a_]at la;have lb:=t_ la (MW (t_ (MB _ _) (Ol _ _)) _);rw[if_pos g,eV];exact⟨by rw[qQ];lia,_,_,_,by rw[ck,ck,<-tL];rfl⟩
    walk_at "go";rw[if_neg g,E_];exact⟨_,_,_,rfl⟩
   rintro _ ⟨z8,z9,z10,rfl⟩;rw[a_,u_];exact⟨_,_,_,_,rfl⟩
 rintro _ ⟨z7,z8,z9,z10,rfl⟩;rw[a_,u_];have hv:∀v∈ck eT [] (sps l P 0),v.1<tl.length:=fun v m=>((fq pQ).mp m).elim (nomatch ·) (Cy hP v);have hS:(ck eT [] (sps l P 0)).length<=100:=by have h1:=cQ (ρ:=eT) (l:=[]) (r:=sps l P 0);have h2:=lL (l:=l) (P:=P) (t:=0);have h3:=hP.2.2.1;rw[Mf]at h1;lia
 have fin:∀q:Qt,q∈ck cp [] (fnd tl (ck eT [] (sps l P 0)))↔q.2.2<4/\∃v∈sps l P 0,inL (mkT (tR tl v.1) v.2) q:=fun q=>by
  rw[fq pP,Ec ht hv];constructor
  ·rintro(h|⟨a,v,m,b⟩)
   ·cases h
   exact⟨a,v,((fq pQ).mp m).elim (nomatch ·) id,b⟩
  rintro⟨a,v,m,b⟩;exact .inr ⟨a,v,(fq pQ).mpr (.inr m),b⟩
 have q:=q _ ⟨zm pP MY,fin⟩;clear fin;generalize ck eT [] (sps l P 0)=S at *;generalize (tlA P 0:Int)=tn at *;walk_at "go";refine aS (fun i env=>∃(b:Bool) (z8 z9 z11 z12 z13 z14:T),env=[.lst false (P.map odT),.lst o2 (tl.map tvT),.int l,.lst b (tl.map fun t=>T.dT b (dG cp (mkA t))),.dT true (dG cp (ck cp [] (fnd tl (S.take i)))),.dT false (dG eT S),.int tn,z7,z8,z9,z10,z11,z12,z13,z14]) ⟨true,_,_,_,_,_,_,rfl⟩ ?_ ?_
 ·rintro i t _ ⟨b,z8,z9,z11,z12,z13,z14,rfl⟩ ei;obtain⟨v,ev,rfl⟩:=aK ei;have hi:=(f_.mp ev).1;have mv:=F_ ev;walk_at "go";refine aY (K6 (hv v mv)) ?_;walk_at "go";have lf:=yR ht (S:=S.take i) fun w mw=>hv w (Mq mw);have la:=cQ (ρ:=cp) (l:=[]) (r:=fnd tl (S.take i));have lk:=yV (wb ht (hv v mv));rw[Mf]at la;rw[D_]at lf;have es:ck cp [] (fnd tl (S.take (i+1)))=ck cp (ck cp [] (fnd tl (S.take i))) ((mkA (tl.getD v.1 (0,0,0,0,0))).map (mvQ v.2)):=by
   rw[LP,ev,<-eV,<-Dm]
   rfl
  rw[es];clear es;generalize ck cp [] (fnd tl (S.take i))=F at *;generalize mkA (tl.getD v.1 (0,0,0,0,0))=M at *;refine aS (fun j env=>∃(z8 z9 z14:T),env=[.lst false (P.map odT),.lst o2 (tl.map tvT),.int l,.lst false (tl.map fun t=>T.dT false (dG cp (mkA t))),.dT true (dG cp (ck cp F ((M.map (mvQ v.2)).take j))),.dT false (dG eT S),.int tn,z7,z8,z9,z10,.int (v.1:Int),.int v.2.1,.int v.2.2,z14]) ⟨_,_,_,rfl⟩ ?_ ?_
  ·rintro j t _ ⟨z8,z9,z14,rfl⟩ ej;obtain⟨m,em,rfl⟩:=aK ej;walk_at "go";have lc:=cQ (ρ:=cp) (l:=F) (r:=(M.map (mvQ v.2)).take j);have ld:=t_ lc (MW (Ol _ _) _);rw[a_]at ld;rw[rT (a:=mvQ v.2 m) (by rw[B',em];rfl)];exact⟨by rw[qQ];lia,_,_,_,by rw[<-tL];rfl⟩
  rintro _ ⟨z8,z9,z14,rfl⟩;have e3:(M.map (mvQ v.2)).take (M.map fun a=>T.tup [T.int a.1,T.int a.2.1,T.int (a.2.2:Int)]).length=M.map (mvQ v.2):=by rw[a_,show M.length=(M.map (mvQ v.2)).length from(a_ ..).symm,u_]
  rw[e3];exact⟨false,_,_,_,_,_,_,rfl⟩
 rintro _ ⟨b,z8,z9,z11,z12,z13,z14,rfl⟩;rw[a_,u_];walk_at "go";exact q
end
noncomputable def vn:FP:=fun ts k=>∃(o:Bool) (P:List Od) (x y:Int),ts=[.lst o (P.map odT),.int x,.int y]/\(P.length<=100/\nPl P<=100)/\k (.lst true ((P.map (kP x y)).map odT)) [.lst false (P.map odT),.int x,.int y]
section
variable{P:QL}{w:QP}{K:Qz}{mg:Str->Option Qy}{base:QR}
theorem rg:FnScope ["_law_program","_law_x","_law_y","_law_found","_law_order"] ["_law_program","_law_x","_law_y"] (ax qr):=⟨rfl,rfl,rfl,by decide +kernel,rfl,by decide +kernel,by decide +kernel⟩
theorem B4(F:Fun K "_law_moved" "_law_moved" qr f fd)(TX:Txt mg)  :FnOk P w K mg base CX0 1 f fd ["_law_program","_law_x","_law_y"] (aG K 3 vn):=by
 refine bz F rg [true,true,true] rfl (fun cdv A outer s H E hr=>?_);have sc:=@rg;have nd1:(["_law_one","_law_other","_law_z","_law_y","_law_x"]:List Str).Nodup:=by decide +kernel
 refine⟨_,(ag (az (i:=3) sc.nd (by rfl) (e_ rfl) (by rfl) (aB (bq af))) (ag (bp QX (by rfl) (aO (bB 0)) (ak (i:=4) sc.nd (by rfl) (e_ rfl) (by rfl)) (dX (bj (cf (aT (bR hr) (ay hr (ab 4) ge_int) ge_str (aJ _))) (ai (az (i:=4) sc.nd (by rfl) (e_ rfl) (by rfl) (aB (aD (ae ge_str (ae (ay hr (ab 4) ge_int) (ae (aj aA (ay hr (ab 4) ge_int) (ab 1)) (ae (aj aA (ay hr (ab 4) ge_int) (ab 2)) af)))))))) aM) (dX (bj (cf (aT (bR hr) (ay hr (ab 4) ge_int) ge_str (aJ _))) (ai (az (i:=4) sc.nd (by rfl) (e_ rfl) (by rfl) (aB (aD (ae ge_str (ae (cN cv (by rfl) TX.tuple (by decide +kernel) (ae (b6 sc ["_law_one","_law_other","_law_z","_law_y","_law_x"] [none,none,none,some 2,some 1] nd1 (by decide +kernel) (aO (ay hr (ab 4) ge_int)) (fun _ _ _=>(cB (n:=3) (by rfl) (aC (ak (i:=0) nd1 (by rfl) (e_ rfl) (by rfl) (hf:=(s_ rfl))) (aC (ak (i:=1) nd1 (by rfl) (e_ rfl) (by rfl) (hf:=(s_ rfl))) (aC (ak (i:=2) nd1 (by rfl) (e_ rfl) (by rfl) (hf:=(s_ rfl))) bT))))) (fun _ _ _=>b7) (fun _ _ _=>(aD (ae (aj aA (ab 0) (ab 4)) (ae (aj aA (ab 1) (ab 3)) (ae (ab 2) af)))))) af)) af)))))) aM) (ai (bJ (bL 3 Q3 Q4 bh (ae (bB 4) af))))))) (ai (aE (qL 3))))),fun ts kk hl hp=>?_⟩;clear hl;obtain⟨o,P,x,y,rfl,hP,q⟩:=hp;walk_at "go";refine aS (fun i env=>∃z,env=[.lst false (P.map odT),.int x,.int y,.lst true (((P.take i).map (kP x y)).map odT),z]) ⟨_,rfl⟩ ?_ ?_
 ·rintro i t _ ⟨z,rfl⟩ ei;obtain⟨od,eo,rfl⟩:=aK ei;have hi:=(f_.mp eo).1;have hm:=F_ eo;walk_at "go";refine gC (fun env=>env=[.lst false (P.map odT),.int x,.int y,.lst true (((P.take i).map (kP x y)).map odT),odT (ov1 x y od)]) ?_ ?_
  ·cases od with
   |tk j=>rw[nR];walk_at "go";rfl
   |ov b u v=>rw[mL];walk_at "go";rfl
   |ct ps=>rw[kA];walk_at "go";rfl
  rintro _ rfl;refine gC (fun env=>env=[.lst false (P.map odT),.int x,.int y,.lst true (((P.take i).map (kP x y)).map odT),odT (kP x y od)]) ?_ ?_
  ·cases od with
   |tk j=>rw[show ov1 x y (.tk j)=.tk j from rfl,nR];walk_at "go";rfl
   |ov b u v=>rw[show ov1 x y (.ov b u v)=.ov b (u+x) (v+y)from rfl,mL];walk_at "go";rfl
   |ct ps=>
    have hl:=oX hm;rw[show ov1 x y (.ct ps)=.ct ps from rfl,kA];walk_at "go";refine aL (by rw[a_,sizeLine_eq];lia) (fun j acc ie=>∃z1 z2 z3,acc=(ps.take j).map (fun p=>plT ((p.1.1+x,p.1.2+y),p.2))/\ie=[z1,z2,z3,.int y,.int x]) ⟨_,_,_,rfl,rfl⟩ ?_ ?_
    ·rintro j u _ _ ⟨z1,z2,z3,rfl,rfl⟩ ej;obtain⟨p,ep,rfl⟩:=aK ej;rw[plT];walk_at "go";exact⟨_,_,_,by rw[map_take ep];rfl,rfl⟩
    rintro _ _ ⟨z1,z2,z3,rfl,rfl⟩;rw[a_,u_];walk_at "go";rw[kP,kA,A' (l:=ps)]
    rfl
  rintro _ rfl;walk_at "go";exact⟨by rw[D_];lia,_,by rw[LP,eo,p_,p_];rfl⟩
 rintro _ ⟨z,rfl⟩;rw[a_,u_];walk_at "go";exact q
end
noncomputable def yn:FP:=fun ts k=>∃c n o,∃tl:List Tl,ts=[stT c n,.lst o (tl.map tvT)]/\n<2 ^ 37/\0<tl.length/\tl.length<=5/\∀(c':Cells) (n':Nat) (P:List Od),n'<=n+9000->OkP tl.length 1000100 8 P->k (.lst true (P.map odT)) [stT c' n',.lst o (tl.map tvT)]
section
variable{P:QL}{w:QP}{K:Qz}{mg:Str->Option Qy}{base:QR}
theorem vE:FnScope ["_law_state","_law_tools_here","_law_spots","_law_turn","_law_program","_law_left","_law_x","_law_y","_law_corner","_law_again","_law_places_here"] ["_law_state","_law_tools_here"] (ax um):=⟨rfl,rfl,rfl,by decide +kernel,rfl,by decide +kernel,by decide +kernel⟩
theorem CW(F:Fun K "_law_great" "_law_great" um f fd)(TX:Txt mg)  (G_take:Cal P w K mg base 1 "_law_take" ["_law_state","_law_many"] (aG K 2 kB))(G_places:Cal P w K mg base 2 "_law_places" ["_law_state","_law_corner","_law_many"] (aG K 3 wH)):FnOk P w K mg base CX0 3 f fd ["_law_state","_law_tools_here"] (aG K 2 yn):=by
 refine bz F vE [true,true] rfl (fun cdv A outer s H E hr=>?_);have sc:=@vE;refine⟨_,(ag (az (i:=2) sc.nd (by rfl) (e_ rfl) (by rfl) (aB (bq af))) (ag (bp QX (by rfl) (cK (by rfl) TX.range (ae (aj aA ge_int (au G_take hr (by rfl) (aU 0 (ah ge_int av)))) af)) (ak (i:=3) sc.nd (by rfl) (e_ rfl) (by rfl)) (ai (bJ (bL 2 Q3 Q4 bh (ae (aD (ae (aj bc (au G_take hr (by rfl) (aU 0 (ah ge_int av))) ge_int) (ae (aj bc (au G_take hr (by rfl) (aU 0 (ah ge_int av))) ge_int) af))) af))))) (ag (az (i:=4) sc.nd (by rfl) (e_ rfl) (by rfl) (bq (ae (aD (ae ge_str (ae (au G_take hr (by rfl) (aU 0 (ah (aB (aq aV (by rfl) TX.len (by decide +kernel) (ae (ab 1) af))) av))) af))) af))) (ag (az (i:=5) sc.nd (by rfl) (e_ rfl) (by rfl) ge_int) (ag (bp QX (by rfl) (cK (by rfl) TX.range (ae (aj aA ge_int (au G_take hr (by rfl) (aU 0 (ah ge_int av)))) af)) (ak (i:=3) sc.nd (by rfl) (e_ rfl) (by rfl)) (dX (bj (aT (bR hr) (au G_take hr (by rfl) (aU 0 (ah ge_int av))) ge_int (aJ _)) (ai (bJ (bL 4 Q3 Q4 bh (ae (aD (ae ge_str (ae (au G_take hr (by rfl) (aU 0 (ah (aB (aq aV (by rfl) TX.len (by decide +kernel) (ae (ab 1) af))) av))) af))) af)))) aM) (ag (jQ (ay hr (bB 2) (au G_take hr (by rfl) (aU 0 (ah (aB (aq aV (by rfl) TX.len (by decide +kernel) (ae (ab 2) af))) av)))) (cB (n:=2) (by rfl) (aC (ak (i:=6) sc.nd (by rfl) (e_ rfl) (by rfl)) (aC (ak (i:=7) sc.nd (by rfl) (e_ rfl) (by rfl)) bT)))) (ag (az (i:=8) sc.nd (by rfl) (e_ rfl) (by rfl) (aD (ae (aj aA (aB (aj tM (ab 6) ge_int)) (au G_take hr (by rfl) (aU 0 (ah ge_int av)))) (ae (aj aA (aB (aj tM (ab 7) ge_int)) (au G_take hr (by rfl) (aU 0 (ah ge_int av)))) af)))) (ag (bJ (bL 4 Q3 Q4 bh (ae (aB (aD (ae ge_str (ae ge_str (ae (ay hr (ab 8) ge_int) (ae (ay hr (ab 8) ge_int) af)))))) af))) (ai (bp QX (by rfl) (cK (by rfl) TX.range (ae (aj aA ge_int (au G_take hr (by rfl) (aU 0 (ah ge_int av)))) af)) (ak (i:=9) sc.nd (by rfl) (e_ rfl) (by rfl)) (dX (bj (x6 (t9 (cf (aT pS (ab 9) ge_int (aJ _))) (pq (aT (bR hr) (au G_take hr (by rfl) (aU 0 (ah ge_int av))) ge_int (aJ _))))) (ai (bJ (bL 4 Q3 Q4 bh (ae (aD (ae ge_str (ae (au G_take hr (by rfl) (aU 0 (ah (aB (aq aV (by rfl) TX.len (by decide +kernel) (ae (ab 1) af))) av))) af))) af)))) aM) (ag (az (i:=10) sc.nd (by rfl) (e_ rfl) (by rfl) (pM (ay hr (au G_places hr (by rfl) (aU 0 (ah (bB 8) (ah (au G_take hr (by rfl) (aU 0 (ah ge_int av))) av)))) ge_int) ui (uI (bB 5)))) (ag (az (i:=5) sc.nd (by rfl) (e_ rfl) (by rfl) (aB (aj bc (ab 5) (aq aV (by rfl) TX.len (by decide +kernel) (ae (ab 10) af))))) (ai (bj (cf (aT (uF hr) (ab 10) (bq af) (aJ _))) (ag (bJ (bL 4 Q3 Q4 bh (ae (aB (aD (ae ge_str (ae (cN cv (by rfl) TX.tuple (by decide +kernel) (ae (ab 10) af)) af)))) af))) (ai (az (i:=8) sc.nd (by rfl) (e_ rfl) (by rfl) (aB (pM (ay hr (ab 10) (bC ge_int)) ui (uI ge_int)))))) aM)))))))))))) (ai (aE (qL 4)))))))),fun ts kk hl hp=>?_⟩;clear hl;obtain⟨c,n,o,tl,rfl,hn,l0,l1,q⟩:=hp;walk_at "go";walk_at "take";intro r c1 a1 b1;walk_at "go";refine⟨by lia,aS (fun i env=>∃(c':Cells) (n':Nat) (sp:List Pt) (z3:T),n'<=n+1+2*i/\sp.length=i/\(∀p∈sp,(-1000000<=p.1/\p.1<=1000000)/\-1000000<=p.2/\p.2<=1000000)/\env=[stT c' n',.lst o (tl.map tvT),.lst true (sp.map ptP),z3,.any,.any,.any,.any,.any,.any,.any]) ⟨c1,n+1,[],_,b_ _,rfl,(fun _ h=>by cases h),rfl⟩ ?_ ?_⟩
 ·rintro i t _ ⟨c',n',sp,z3,l3,l4,hs,rfl⟩ ei;have hi:=eI ei;walk_at "go";walk_at "take";intro x c3 x2 x3;walk_at "go";walk_at "take";intro y c4 y2 y3;walk_at "go";refine⟨by lia,c4,n'+1+1,sp++[(x-999999,y-999999)],_,by lia,by rw[d_,l4];rfl,fun p' m'=>?_,by rw[p_];rfl⟩;rcases x_.mp m' with m'|m'
  ·exact hs p' m'
  rw[w_.mp m'];dsimp only;lia
 rintro _ ⟨c',n',sp,z3,l3,l4,hs,rfl⟩;rw[cj]at l3 l4;clear c c1;walk_at "go";walk_at "take";intro t0 c1 t1 t2;walk_at "go";walk_at "take";intro m c2 m1 m2;walk_at "go";obtain⟨t0',rfl⟩:∃j:Nat,t0=(j:Int):=⟨t0.toNat,by lia⟩;refine⟨by lia,aS (fun i env=>∃(c':Cells) (n':Nat) (b:Bool) (P:List Od) (lf:Nat) (z3 z6 z7 z8 z9 z10:T),n'<=n+20+700*i/\GrO tl.length P lf/\P.length<=1+6*i/\env=[stT c' n',.lst o (tl.map tvT),.lst b (sp.map ptP),z3,.lst true (P.map odT),.int (lf:Int),z6,z7,z8,z9,z10]) ⟨c2,_,true,[.tk t0'],8,_,_,_,_,_,_,by lia,Lg (by lia),b_ _,rfl⟩ ?_ ?_⟩
 ·rintro i t _ ⟨c',n',b,P,lf,z3,z6,z7,z8,z9,z10,l2,gr,lP,rfl⟩ ei;have hi:=eI ei;walk_at "go";refine gC (fun env=>∃(c':Cells) (n':Nat) (P:List Od),n'<=n+22+700*i/\GrO tl.length P lf/\P.length<=2+6*i/\env=[stT c' n',.lst o (tl.map tvT),.lst b (sp.map ptP),t,.lst true (P.map odT),.int (lf:Int),z6,z7,z8,z9,z10]) ?_ ?_
  ·walk_at "go";walk_at "take";intro w c3 w1 w2;walk_at "go";refine ba (fun g=>?_) (fun g=>?_)
   ·walk_at "go";walk_at "take";intro w' c4 w3 w4;walk_at "go";obtain⟨j,rfl⟩:∃j:Nat,w'=(j:Int):=⟨w'.toNat,by lia⟩;exact⟨by lia,c4,n'+1+1,P++[.tk j],by lia,G8 gr (by lia),by rw[d_];show P.length+1<=_;lia,by rw[p_];rfl⟩
   walk_at "go";exact⟨c3,_,P,by lia,gr,by lia,rfl⟩
  clear gr lP P l2;rintro _ ⟨c',n',P,l2,gr,lP,rfl⟩;walk_at "go";walk_at "take";intro s c3 s1 s2;walk_at "go";obtain⟨u,mu,eu⟩:=yM (l:=sp.map ptP) (i:=s) s1 (by rw[a_];exact s2);obtain⟨p,mp,rfl⟩:=r_.mp mu;have hp:=hs p mp;refine aY eu ?_;walk_at "go";refine⟨by unfold Au;lia,?_⟩;walk_at "take";intro dx c4 dx1 dx2;walk_at "go";refine⟨by unfold Au;lia,?_⟩;walk_at "take";intro dy c5 dy1 dy2;walk_at "go";refine⟨by lia,?_⟩;walk_at "take";intro k c6 k1 k2;walk_at "go";refine⟨by lia,aS (fun j env=>∃(c':Cells) (n':Nat) (P:List Od) (lf:Nat) (cr:Pt) (z9 z10:T),n'<=n+30+700*i+320*j/\GrO tl.length P lf/\P.length<=3+6*i+2*j/\(-600000-10*(j:Int)<=cr.1/\cr.1<=600000+10*(j:Int)/\-600000-10*(j:Int)<=cr.2/\cr.2<=600000+10*(j:Int))/\env=[stT c' n',.lst o (tl.map tvT),.lst false (sp.map ptP),t,.lst true (P.map odT),.int (lf:Int),.int p.1,.int p.2,ptP cr,z9,z10]) ⟨c6,n'+1+1+1+1,P++[.ov true (p.1/2+dx) (p.2/2+dy)],lf,(p.1/2+dx,p.2/2+dy),_,_,by lia,KO gr,by rw[d_];show P.length+1<=_;lia,by dsimp only;lia,by rw[p_];rfl⟩ ?_ ?_⟩
  ·clear gr lP P l2 lf;rintro j t' _ ⟨c',n',P,lf,cr,z9,z10,l2,gr,lP,hc,rfl⟩ ej;have hj:=eI ej;have et:=qM ej;subst et;walk_at "go";refine gC (fun env=>∃(c':Cells) (n':Nat) (P:List Od),n'<=n+32+700*i+320*j/\GrO tl.length P lf/\P.length<=4+6*i+2*j/\env=[stT c' n',.lst o (tl.map tvT),.lst false (sp.map ptP),t,.lst true (P.map odT),.int (lf:Int),.int p.1,.int p.2,ptP cr,.int (0+j),z10]) ?_ ?_
   ·walk_at "go";refine ba (fun g=>?_) (fun g=>?_)
    ·walk_at "go";walk_at "take";intro w c7 w1 w2;walk_at "go";refine ba (fun g=>?_) (fun g=>?_)
     ·walk_at "go";walk_at "take";intro w' c8 w3 w4;walk_at "go";obtain⟨j',rfl⟩:∃j:Nat,w'=(j:Int):=⟨w'.toNat,by lia⟩;exact⟨by lia,c8,n'+1+1,P++[.tk j'],by lia,G8 gr (by lia),by rw[d_];show P.length+1<=_;lia,by rw[p_];rfl⟩
     walk_at "go";exact⟨c7,_,P,by lia,gr,by lia,rfl⟩
    walk_at "go";exact⟨c',_,P,by lia,gr,by lia,rfl⟩
   clear gr lP P l2;rintro _ ⟨c',n',P,l2,gr,lP,rfl⟩;walk_at "go";walk_at "take";intro w c7 w1 w2;walk_at "go";refine⟨c7,n'+1,cr,w,rfl,by lia,w1,by lia,fun c8 n8 ps e l4 hps l5 l6=>?_⟩;walk_at "go";have hq:∀p'∈ps.take lf,(cr.1-w<=p'.1.1/\p'.1.1<=cr.1+w)/\cr.2-w<=p'.1.2/\p'.1.2<=cr.2+w:=fun p' m'=>hps p' (Mq m');have lt:=List.length_take_le lf ps;refine ba (fun g=>?_) (fun g=>?_)
   ·walk_at "go";exact⟨c8,n8,P,lf,cr,_,_,by lia,gr,by lia,by lia,by rw[g,Mf,show((lf:Int)-((0:Nat):Int))=lf from Int.sub_zero _]⟩
   obtain⟨qs,x,eq⟩:=(ps.take lf).eq_nil_or_concat.resolve_left g;rw[ML]at eq;walk_at "go";rw[eq]at hq lt ⊢;refine⟨by lia,aY Ez ?_⟩;walk_at "go";rw[eq];have hx:=hq x (n_ _ o_);refine⟨c8,n8,P++[.ct (qs++[x])],lf-(qs++[x]).length,x.1,_,_,by lia,xC (o:=.ct (qs++[x])) gr (show(qs++[x]).length+_=lf by lia) (fun p' m'=>?_),by rw[d_];show P.length+1<=_;lia,by lia,by rw[p_ (l₁:=P),Qd lt];rfl⟩;have:=hq p' m';lia
  rintro _ ⟨c',n',P,lf,cr,z9,z10,l2,gr,lP,hc,rfl⟩;rw[cj]at l2 lP;exact⟨c',n',false,P,lf,_,_,_,_,_,_,by lia,gr,by lia,rfl⟩
 rintro _ ⟨c',n',b,P,lf,z3,z6,z7,z8,z9,z10,l2,gr,lP,rfl⟩;rw[cj]at l2 lP;walk_at "go";exact q c' n' P (by lia) (Kg gr (by lia))
end
noncomputable def qu:Nat->FP
 |0=>fun _ _=>False
 |n+1=>fun ts k=>(∃a:Int,ts=[.int a,.int a]/\k (.bl true) ts)\/∃(o o':Bool) (ns:List Int),1<=n/\ts=[.lst o (ns.map T.int),.lst o' (ns.map T.int)]/\ns.length<=100/\∀z1 z2,k (.bl true) [z1,z2]
section
variable{P:QL}{w:QP}{K:Qz}{mg:Str->Option Qy}{base:QR}
theorem zU:FnScope ["_law_found","_law_due"] ["_law_found","_law_due"] (ax s_same):=⟨rfl,rfl,rfl,by decide +kernel,rfl,by decide +kernel,by decide +kernel⟩
theorem FI(n:Nat)(F:Fun K "_law_same" "_law_same" s_same f fd)(TX:Txt mg)(G_same:Cal P w K mg base (1+n) "_law_same" ["_law_found","_law_due"] (aG K 2 (qu n))):FnOk P w K mg base CX0 (1+(n+1)) f fd ["_law_found","_law_due"] (aG K 2 (qu (n+1))):=by
 refine bz (k:=1+n) F zU [true,true] rfl (fun cdv A outer s H E hr=>?_);have sc:=@zU;have nd1:(["_law_one","_law_other"]:List Str).Nodup:=by decide +kernel
 refine⟨_,(ag (bj (cf (aT t7 (ab 1) mX (aJ _))) (ai pz) aM) (ag (bj (cf (cC (aq b9 (by rfl) TX.isinstance (by decide +kernel) (ae (ab 1) (ae (dZ (n:="dict") (by rfl) TX.dict (by decide +kernel)) af))))) (ag pz (ai pz)) aM) (ag (bj (cf (x6 (Cq (cC (aq b9 (by rfl) TX.isinstance (by decide +kernel) (ae (ab 1) (ae (dZ (n:="list") (by rfl) TX.list (by decide +kernel)) af)))) (y8 (cC (aq b9 (by rfl) TX.isinstance (by decide +kernel) (ae (ab 1) (ae (dZ (n:="tuple") (by rfl) TX.tuple (by decide +kernel)) af)))))))) (ag (bj (cf (aT (uF hr) (aq b9 (by rfl) TX.isinstance (by decide +kernel) (ae (ab 0) (ae (dZ (n:="list") (by rfl) TX.list (by decide +kernel)) af))) (aq b9 (by rfl) TX.isinstance (by decide +kernel) (ae (ab 1) (ae (dZ (n:="list") (by rfl) TX.list (by decide +kernel)) af))) (aJ _))) (ai (aE cR)) aM) (ag (bj (cf (x6 (Cq (aT (uF hr) (aq b9 (by rfl) TX.isinstance (by decide +kernel) (ae (ab 0) (ae (dZ (n:="tuple") (by rfl) TX.tuple (by decide +kernel)) af))) (aq b9 (by rfl) TX.isinstance (by decide +kernel) (ae (ab 1) (ae (dZ (n:="tuple") (by rfl) TX.tuple (by decide +kernel)) af))) (aJ _)) (y8 (aT (uF hr) (aq aV (by rfl) TX.len (by decide +kernel) (ae (ab 0) af)) (aq aV (by rfl) TX.len (by decide +kernel) (ae (ab 1) af)) (aJ _)))))) (ai (aE cR)) aM) (ai (aE (aB (aq (jr rfl) (by rfl) TX.all (by decide +kernel) (ae (b6 sc ["_law_one","_law_other"] [none,none] nd1 (by decide +kernel) (y9 (by rfl) TX.zip (ae (ab 0) (ae (ab 1) af))) (fun _ _ _=>(cB (n:=2) (by rfl) (aC (ak (i:=0) nd1 (by rfl) (e_ rfl) (by rfl) (hf:=(s_ rfl))) (aC (ak (i:=1) nd1 (by rfl) (e_ rfl) (by rfl) (hf:=(s_ rfl))) bT)))) (fun _ _ _=>b7) (fun _ _ _=>(au G_same hr (by rfl) (ah (ab 0) (ah (ab 1) av))))) af))))))) aM) (ag (bj (cf (cC (aq b9 (by rfl) TX.isinstance (by decide +kernel) (ae (ab 1) (ae (dZ (n:="str") (by rfl) TX.str (by decide +kernel)) af))))) (ai pz) aM) (ai (aE (aB (gL (aq b9 (by rfl) TX.isinstance (by decide +kernel) (ae (ab 0) (ae (dZ (n:="int") (by rfl) TX.int (by decide +kernel)) af))) (gL (D4 (aq b9 (by rfl) TX.isinstance (by decide +kernel) (ae (ab 0) (ae (dZ (n:="bool") (by rfl) TX.bool (by decide +kernel)) af)))) (uR (nu (bR hr) (ab 0) (ab 1) (aJ _)))))))))))),fun ts kk hl hp=>?_⟩;clear hl;rcases hp with⟨a,rfl,q⟩|⟨o,o',ns,hn,rfl,hl,q⟩
 ·walk_at "go";exact q
 cases n with
 |zero=>exact absurd hn (by decide)
 |succ m=>
 walk_at "go";refine oR rfl ?_;walk_at "go";refine oR rfl ?_;walk_at "go";rw[List.zip_map',A'];refine aL (by rw[a_,sizeLine_eq];lia) (fun i acc ie=>∃z1 z2,acc=(ns.take i).map (fun _=>T.bl true)/\ie=[z1,z2]) ⟨_,_,rfl,rfl⟩ ?_ ?_
 ·rintro i u _ _ ⟨z1,z2,rfl,rfl⟩ ei;obtain⟨x,ex,rfl⟩:=aK ei;rw[Yh];walk_at "go";refine .inl ⟨x,rfl,?_⟩;walk_at "go";exact⟨_,_,by rw[map_take ex],rfl⟩
 rintro _ _ ⟨z1,z2,rfl,rfl⟩;rw[a_,u_];walk_at "go";refine aY (dU _ _) ?_;walk_at "go";rw[Ng,show ns.all (id ∘ fun _=>true)=true from Nf.mpr fun _ _=>rfl];exact q _ _
theorem BF:FnScope ["_law_script","_law_state","_law_tools_here","_law_program","_law_places_here","_law_layer","_law_due","_law_octos"] ["_law_script"] (ax gQ):=⟨rfl,rfl,rfl,by decide +kernel,rfl,by decide +kernel,by decide +kernel⟩
theorem Hn(F:Fun K "law" "law" gQ f fd)(TX:Txt mg)  (G_is_octo:Cal P w K mg base 3 "is_octo" ["thing"] (aG K 1 sj))(G_area_of:Cal P w K mg base 3 "area_of" ["octos"] (aG K 1 m8))(G_cut_octos:Cal P w K mg base 5 "cut_octos" ["program","tools","layer"] (aG K 3 gD))(G_cut_area:Cal P w K mg base 6 "cut_area" ["program","tools","layer"] (aG K 3 pV))(G_begin:Cal P w K mg base 1 "_law_begin" ["_law_script"] (aG K 1 (u9 K)))(G_take:Cal P w K mg base 1 "_law_take" ["_law_state","_law_many"] (aG K 2 kB))(G_same:Cal P w K mg base 3 "_law_same" ["_law_found","_law_due"] (aG K 2 (qu 2)))(G_tools:Cal P w K mg base 3 "_law_tools" ["_law_state","_law_most"] (aG K 2 zM))(G_cut:Cal P w K mg base 3 "_law_cut" ["_law_program","_law_tools_here","_law_layer"] (aG K 3 FY))(G_great:Cal P w K mg base 3 "_law_great" ["_law_state","_law_tools_here"] (aG K 2 yn))(G_lmoved:Cal P w K mg base 1 "_law_moved" ["_law_program","_law_x","_law_y"] (aG K 3 vn)):FnOk P w K mg base CX0 7 f fd ["_law_script"] (aG K 1 (Dx K)):=by
 refine bz F BF [true] rfl (fun cdv A outer s H E hr=>?_);have sc:=@BF;have nd1:(["_law_order"]:List Str).Nodup:=by decide +kernel
 have nd2:(["_law_octo"]:List Str).Nodup:=by decide +kernel
 refine⟨_,(ag (az (i:=1) sc.nd (by rfl) (e_ rfl) (by rfl) (aB (au G_begin hr (by rfl) (ah (ab 0) av)))) (ag (az (i:=2) sc.nd (by rfl) (e_ rfl) (by rfl) (au G_tools hr (by rfl) (aU 1 (ah ge_int av)))) (ag (az (i:=3) sc.nd (by rfl) (e_ rfl) (by rfl) (au G_great hr (by rfl) (aU 1 (ah (bB 2) av)))) (ag (az (i:=4) sc.nd (by rfl) (e_ rfl) (by rfl) (aB (aq (AX rfl) (by rfl) TX.sum (by decide +kernel) (ae (b6 sc ["_law_order"] [none] nd1 (by decide +kernel) (aO (ab 3)) (fun _ _ _=>(ak (i:=0) nd1 (by rfl) (e_ rfl) (by rfl) (hf:=(s_ rfl)))) (fun _ _ _=>(tm (aT (bR hr) (ay hr (ab 0) ge_int) ge_str (aJ _)))) (fun _ _ _=>(aq aV (by rfl) TX.len (by decide +kernel) (ae (ay hr (ab 0) ge_int) af)))) af)))) (ag (bp QX (by rfl) (aO (aD (ae ge_int (ae (aj aA ge_int (au G_take hr (by rfl) (aU 1 (ah ge_int av)))) af)))) (ak (i:=5) sc.nd (by rfl) (e_ rfl) (by rfl)) (ag (az (i:=6) sc.nd (by rfl) (e_ rfl) (by rfl) (aB (aq aV (by rfl) TX.len (by decide +kernel) (ae (au G_cut hr (by rfl) (ah (ab 3) (ah (ab 2) (ah (ab 5) av)))) af)))) (ag (az (i:=7) sc.nd (by rfl) (e_ rfl) (by rfl) (aB (au G_cut_octos hr (by rfl) (ah (ab 3) (ah (ab 2) (ah (ab 5) av)))))) (ag (bj (cf (pT (cC (au G_same hr (by rfl) (ah (bq (ae (au G_cut_area hr (by rfl) (ah (ab 3) (ah (ab 2) (ah (ab 5) av)))) (ae (au G_area_of hr (by rfl) (ah (ab 7) av)) af))) (ah (bq (ae (ab 6) (ae (ab 6) af))) av)))))) (ai (aE cR)) aM) (ag (bj (cf (x6 (Cq (aT pS (aq aV (by rfl) TX.len (by decide +kernel) (ae (ab 7) af)) (ab 4) (aJ _)) (y8 (pT (cC (aq (jr rfl) (by rfl) TX.all (by decide +kernel) (ae (b6 sc ["_law_octo"] [none] nd2 (by decide +kernel) (aO (ab 7)) (fun _ _ _=>(ak (i:=0) nd2 (by rfl) (e_ rfl) (by rfl) (hf:=(s_ rfl)))) (fun _ _ _=>b7) (fun _ _ _=>(au G_is_octo hr (by rfl) (ah (ab 0) av)))) af)))))))) (ai (aE cR)) aM) (ai (bj (cf (pT (cC (au G_same hr (by rfl) (ah (au G_cut_area hr (by rfl) (ah (au G_lmoved hr (by rfl) (ah (ab 3) (ah (bC ge_int) (ah ge_int av)))) (ah (ab 2) (ah (ab 5) av)))) (ah (ab 6) av)))))) (ai (aE cR)) aM))))))) (ai (aE cR))))))),fun ts kk hl hp=>?_⟩;clear hl;obtain⟨t,ns,rfl,hs,hn,q⟩:=hp;walk_at "go";obtain⟨e,i⟩:=IH hs;rw[e];refine⟨i,t,ns,rfl,hs,hn,fun c=>⟨DE,?_⟩⟩;walk_at "go";refine⟨c,0,6,rfl,by decide,by decide,by decide,fun c1 n1 tl l1 l2 l3 l4 ht=>?_⟩;walk_at "go";refine⟨c1,n1,false,tl,rfl,by lia,l3,l4,fun c2 n2 P l6 hP=>?_⟩;walk_at "go";have hP2:=hP.2.1;refine aL (by rw[a_,sizeLine_eq];lia) (fun i acc ie=>∃z,acc=((P.take i).filter CO).map (fun o=>T.int (Br o:Int))/\ie=[z]) ⟨_,rfl,rfl⟩ ?_ ?_
 ·rintro i u _ _ ⟨z,rfl,rfl⟩ ei;obtain⟨od,eo,rfl⟩:=aK ei;rw[iS eo];cases od with
  |tk j=>rw[nR];walk_at "go";exact⟨_,(E_ _).symm,rfl⟩
  |ov b x y=>rw[mL];walk_at "go";exact⟨_,(E_ _).symm,rfl⟩
  |ct ps=>
   rw[kA];walk_at "go";exact⟨_,rfl,rfl⟩
 rintro _ _ ⟨z,rfl,rfl⟩;rw[a_,u_];walk_at "go";walk_at "take";intro y c3 y1 y2;walk_at "go";refine aS (fun i env=>∃z5 z6 z7,env=[t,stT c3 (n2+1),.lst false (tl.map tvT),.lst true (P.map odT),.int (nPl P:Int),z5,z6,z7]) ⟨_,_,_,by rw[<-BN]⟩ ?_ ?_
 ·rintro i u _ ⟨z5,z6,z7,rfl⟩ ei;have hu:∃l:Int,u=.int l:=by
   match i,ei with
   |0,ei=>cases ei;exact⟨_,rfl⟩
   |1,ei=>cases ei;exact⟨_,rfl⟩
  obtain⟨l,rfl⟩:=hu;have sd:mT 1000200 (cw l tl P):=Gw hP ht (by decide) (by decide) (by decide);walk_at "go";refine⟨false,false,P,tl,l,1000100,8,rfl,hP,by decide,⟨l4,ht⟩,fun qs hq=>?_⟩;have d1:=Cs hP ht sd hq;walk_at "go";refine⟨false,false,P,tl,l,1000100,8,rfl,hP,by decide,?_⟩;walk_at "go";refine⟨false,false,P,tl,l,1000100,8,1000200,rfl,hP,by decide,sd,?_⟩;walk_at "go";refine⟨false,false,false,false,cw l tl P,1000200,rfl,sd,fun z'=>?_⟩;walk_at "go";rw[d1,qQ];refine .inr ⟨true,true,[(qs.length:Int),(qs.length:Int)],by decide,rfl,by show 2<=100;decide,fun z1 z2=>?_⟩;walk_at "go";have lo:=qg (l:=l) (tl:=tl) (P:=P);refine ba (fun g=>absurd g (by lia)) fun g=>?_
  walk_at "go";refine aL (by rw[a_,sizeLine_eq];have:=hP.2.2.1;lia) (fun i acc ie=>∃z,acc=((cw l tl P).take i).map (fun _=>T.bl true)/\ie=[z]) ⟨_,rfl,rfl⟩ ?_ ?_
  ·rintro j v _ _ ⟨z,rfl,rfl⟩ ej;obtain⟨o,eo,rfl⟩:=aK ej;obtain⟨r,R,p,p',rfl,h,_⟩:=y4 hP ht (F_ eo);walk_at "go";refine⟨r,R,p,p',rfl,h.1,h.2.1,h.2.2,?_⟩;walk_at "go";exact⟨_,by rw[map_take eo],rfl⟩
  rintro _ _ ⟨z,rfl,rfl⟩;rw[a_,u_];walk_at "go";refine aY (dU _ _) ?_;walk_at "go";refine oR (by rw[Ng];exact Nf.mpr fun _ _=>rfl) ?_;walk_at "go";refine⟨false,P,-9,7,rfl,⟨hP2,by have:=hP.2.2.1;lia⟩,?_⟩;walk_at "go";have hM:=KR (x:=-9) (y:=7) hP (by decide) (by decide);have sm:mT 1000200 (cw l tl (P.map (kP (-9) 7))):=Gw hM ht (by decide) (by decide) (by decide);have d2:=Cs hM ht sm (FF hq);rw[a_]at d2;refine⟨true,false,P.map (kP (-9) 7),tl,l,1000100+9,8,1000200,rfl,hM,by decide,sm,?_⟩;walk_at "go";rw[d2];refine .inl ⟨_,rfl,?_⟩;walk_at "go";exact⟨_,_,_,rfl⟩
 rintro _ ⟨z5,z6,z7,rfl⟩;walk_at "go";exact q _
end
variable {α:Type}
theorem ar0{P:List α->Prop}(h:P []):∀us:List α,us.length=0->P us:=fun us e=>by
 cases us with
 |nil=>exact h
 |cons a r=>cases e
theorem ar1{P:List α->Prop}(h:∀a0,P [a0]):∀us:List α,us.length=1->P us:=fun us e=>by
 cases us with
 |nil=>cases e
 |cons a0 r=>exact ar0 (P:=fun r=>P (a0::r)) (h a0) r (MG e)
theorem ar2{P:List α->Prop}(h:∀a0 a1,P [a0,a1]):∀us:List α,us.length=2->P us:=fun us e=>by
 cases us with
 |nil=>cases e
 |cons a0 r=>exact ar1 (P:=fun r=>P (a0::r)) (h a0) r (MG e)
theorem ar3{P:List α->Prop}(h:∀a0 a1 a2,P [a0,a1,a2]):∀us:List α,us.length=3->P us:=fun us e=>by
 cases us with
 |nil=>cases e
 |cons a0 r=>exact ar2 (P:=fun r=>P (a0::r)) (h a0) r (MG e)
theorem ar4{P:List α->Prop}(h:∀a0 a1 a2 a3,P [a0,a1,a2,a3]):∀us:List α,us.length=4->P us:=fun us e=>by
 cases us with
 |nil=>cases e
 |cons a0 r=>exact ar3 (P:=fun r=>P (a0::r)) (h a0) r (MG e)
theorem ar5{P:List α->Prop}(h:∀a0 a1 a2 a3 a4,P [a0,a1,a2,a3,a4]):∀us:List α,us.length=5->P us:=fun us e=>by
 cases us with
 |nil=>cases e
 |cons a0 r=>exact ar4 (P:=fun r=>P (a0::r)) (h a0) r (MG e)
theorem ar6{P:List α->Prop}(h:∀a0 a1 a2 a3 a4 a5,P [a0,a1,a2,a3,a4,a5]):∀us:List α,us.length=6->P us:=fun us e=>by
 cases us with
 |nil=>cases e
 |cons a0 r=>exact ar5 (P:=fun r=>P (a0::r)) (h a0) r (MG e)
theorem ar7{P:List α->Prop}(h:∀a0 a1 a2 a3 a4 a5 a6,P [a0,a1,a2,a3,a4,a5,a6]):∀us:List α,us.length=7->P us:=fun us e=>by
 cases us with
 |nil=>cases e
 |cons a0 r=>exact ar6 (P:=fun r=>P (a0::r)) (h a0) r (MG e)
theorem ar8{P:List α->Prop}(h:∀a0 a1 a2 a3 a4 a5 a6 a7,P [a0,a1,a2,a3,a4,a5,a6,a7]):∀us:List α,us.length=8->P us:=fun us e=>by
 cases us with
 |nil=>cases e
 |cons a0 r=>exact ar7 (P:=fun r=>P (a0::r)) (h a0) r (MG e)
theorem walk{l:UE}{q:QL}{loose:List Str}{XP:(Str->Option Qy)->QR->Prop}{YP:QP->QR->Prop}{d:DefRec}{K:Ur->Qz}(hn:l.most=some 63)(hdf:d.params.defaults=[])
  (hY:∀(w:QP) (h:QR),YP w h->(K w.params).In h)
  (F:∀(w:QP) (mg:Str->Option Qy) (fa:QA) (h:QR),(K w.params).In h->h.Ns Ru mg->mg d.name=some (.ref fa)->
   ∃fd:QW,(∀(s:QB) (u:Qy),UR s fd ⟨[u],[]⟩ [("_law_script",u)])/\∀base:QR,(K w.params).In base->base.Ns Ru mg->FnOk l.prog w (K w.params) mg base CX0 7 fa fd ["_law_script"] (zO (K w.params))) :
  WN q loose XP YP l.row.toRowW d [] (fun f vs=>V7 f vs):=
 L2.Ep (n:=63) (k:=7) (x:="_law_script") (CX:=fun _=>CX0) (sp:=fun w=>zO (K w.params)) hn (by decide) hdf ⟨rfl,by decide,by decide,rfl⟩ hY F (fun _ _ a ns hl _ hS=>⟨a,ns,rfl,hS,hl,fun _=>rfl⟩) fun _ _ _ _ _ z=>z
noncomputable def kd(P:Ur) (x:Str) (t:Tok) (v:Qy):SD:=⟨PyData.keyHash P x,.str x t,v⟩
noncomputable def kf(n:Str) (s:Q6) (m:Qy) (c:QA):Obj:=⟨.type "function",none,.func (R8 n n (eB s) (cO s) (ax s) .none .none .none m none (.ref c) .none),#[]⟩
noncomputable def KK(P:Ur):Qz:=[(3,⟨.type "dict",none,.dict #[kd P "__name__" 165 (.str "law_millpath_k56_great_programs" 415),kd P "__doc__" 166 (.none),kd P "__package__" 167 (.none),kd P "__loader__" 168 (.builtin "__main__.__loader__#opaque"),kd P "__spec__" 169 (.none),kd P "__annotations__" 170 (.ref 6),kd P "__builtins__" 171 (.ref 4),kd P "__file__" 173 (.str "/claim/cut.py" 172),kd P "__cached__" 174 (.none),kd P "STEPS" 211 (.ref 23),kd P "stepped" 221 (.ref 30),kd P "straight" 231 (.ref 37),kd P "is_number" 240 (.ref 44),kd P "is_row" 247 (.ref 51),kd P "are_numbers" 253 (.ref 56),kd P "octo_of" 261 (.ref 61),kd P "is_octo" 268 (.ref 68),kd P "all_met" 282 (.ref 75),kd P "ends_met" 297 (.ref 82),kd P "added" 303 (.ref 87),kd P "moved" 311 (.ref 94),kd P "mark_of" 323 (.ref 101),kd P "swept" 332 (.ref 108),kd P "area_of" 340 (.ref 113),kd P "strip_sides" 346 (.ref 118),kd P "bounds_at" 352 (.ref 123),kd P "length_along" 366 (.ref 130),kd P "cut_octos" 382 (.ref 137),kd P "cut_area" 391 (.ref 144),kd P "ways_at" 404 (.ref 151),kd P "goes_on" 414 (.ref 158),kd P "_law_begin" 424 (.ref 165),kd P "_law_take" 437 (.ref 172),kd P "_law_tool" 447 (.ref 179),kd P "_law_mark" 459 (.ref 186),kd P "_law_in_mark" 465 (.ref 191),kd P "_law_same" 471 (.ref 196),kd P "_law_tools" 477 (.ref 201),kd P "_law_places" 493 (.ref 208),kd P "_law_cut" 499 (.ref 213),kd P "_law_great" 516 (.ref 220),kd P "_law_moved" 522 (.ref 225),kd P "law" 528 (.ref 230)] 43,#[]⟩),(30,kf "stepped" lY (.str "millpath.corners" 187) 29),(29,⟨.type "code",none,.fields #[.str "stepped" 212,.str "stepped" 213,.str "/claim/cut.py" 214,.int (3) 0,.int (3) 0,.int (0) 0,.int (0) 0,.int (3) 0,.ref 24,.bool true,.int (181) 0,.ref 25,.none,.ref 26,.ref 27,.ref 28,.int (219) 0,.int (3) 0,.str "/claim/cut.py" 220],#[]⟩),(37,kf "straight" kj (.str "millpath.corners" 187) 36),(36,⟨.type "code",none,.fields #[.str "straight" 222,.str "straight" 223,.str "/claim/cut.py" 224,.int (6) 0,.int (2) 0,.int (0) 0,.int (0) 0,.int (3) 0,.ref 31,.bool true,.int (181) 0,.ref 32,.none,.ref 33,.ref 34,.ref 35,.int (229) 0,.int (6) 0,.str "/claim/cut.py" 230],#[]⟩),(44,kf "is_number" gG (.str "millpath.kinds" 232) 43),(43,⟨.type "code",none,.fields #[.str "is_number" 234,.str "is_number" 235,.str "/claim/cut.py" 236,.int (15) 0,.int (1) 0,.int (0) 0,.int (0) 0,.int (3) 0,.ref 38,.bool true,.int (181) 0,.ref 39,.none,.ref 40,.ref 41,.ref 42,.int (238) 0,.int (15) 0,.str "/claim/cut.py" 239],#[]⟩),(51,kf "is_row" qi (.str "millpath.kinds" 232) 50),(50,⟨.type "code",none,.fields #[.str "is_row" 241,.str "is_row" 242,.str "/claim/cut.py" 243,.int (17) 0,.int (1) 0,.int (0) 0,.int (0) 0,.int (3) 0,.ref 45,.bool true,.int (181) 0,.ref 46,.none,.ref 47,.ref 48,.ref 49,.int (245) 0,.int (17) 0,.str "/claim/cut.py" 246],#[]⟩),(56,kf "are_numbers" eF (.str "millpath.kinds" 232) 55),(55,⟨.type "code",none,.fields #[.str "are_numbers" 248,.str "are_numbers" 249,.str "/claim/cut.py" 250,.int (19) 0,.int (2) 0,.int (0) 0,.int (0) 0,.int (3) 0,.ref 52,.bool true,.int (181) 0,.ref 53,.none,.none,.none,.ref 54,.int (251) 0,.int (19) 0,.str "/claim/cut.py" 252],#[]⟩),(61,kf "octo_of" nH (.str "millpath.octos" 254) 60),(60,⟨.type "code",none,.fields #[.str "octo_of" 256,.str "octo_of" 257,.str "/claim/cut.py" 258,.int (22) 0,.int (1) 0,.int (0) 0,.int (0) 0,.int (3) 0,.ref 57,.bool true,.int (181) 0,.ref 58,.none,.none,.none,.ref 59,.int (259) 0,.int (22) 0,.str "/claim/cut.py" 260],#[]⟩),(68,kf "is_octo" mF (.str "millpath.octos" 254) 67),(67,⟨.type "code",none,.fields #[.str "is_octo" 262,.str "is_octo" 263,.str "/claim/cut.py" 264,.int (28) 0,.int (1) 0,.int (0) 0,.int (0) 0,.int (3) 0,.ref 62,.bool true,.int (181) 0,.ref 63,.none,.ref 64,.ref 65,.ref 66,.int (266) 0,.int (28) 0,.str "/claim/cut.py" 267],#[]⟩),(75,kf "all_met" mG (.str "millpath.octos" 254) 74),(74,⟨.type "code",none,.fields #[.str "all_met" 269,.str "all_met" 270,.str "/claim/cut.py" 271,.int (32) 0,.int (8) 0,.int (0) 0,.int (0) 0,.int (3) 0,.ref 69,.bool true,.int (181) 0,.ref 70,.none,.ref 71,.ref 72,.ref 73,.int (280) 0,.int (32) 0,.str "/claim/cut.py" 281],#[]⟩),(82,kf "ends_met" kx (.str "millpath.octos" 254) 81),(81,⟨.type "code",none,.fields #[.str "ends_met" 283,.str "ends_met" 284,.str "/claim/cut.py" 285,.int (34) 0,.int (8) 0,.int (0) 0,.int (0) 0,.int (3) 0,.ref 76,.bool true,.int (181) 0,.ref 77,.none,.ref 78,.ref 79,.ref 80,.int (295) 0,.int (34) 0,.str "/claim/cut.py" 296],#[]⟩),(87,kf "added" tY (.str "millpath.octos" 254) 86),(86,⟨.type "code",none,.fields #[.str "added" 298,.str "added" 299,.str "/claim/cut.py" 300,.int (39) 0,.int (2) 0,.int (0) 0,.int (0) 0,.int (3) 0,.ref 83,.bool true,.int (181) 0,.ref 84,.none,.none,.none,.ref 85,.int (301) 0,.int (39) 0,.str "/claim/cut.py" 302],#[]⟩),(94,kf "moved" tJ (.str "millpath.octos" 254) 93),(93,⟨.type "code",none,.fields #[.str "moved" 304,.str "moved" 305,.str "/claim/cut.py" 306,.int (41) 0,.int (2) 0,.int (0) 0,.int (0) 0,.int (3) 0,.ref 88,.bool true,.int (181) 0,.ref 89,.none,.ref 90,.ref 91,.ref 92,.int (309) 0,.int (41) 0,.str "/claim/cut.py" 310],#[]⟩),(101,kf "mark_of" nq (.str "millpath.tools" 312) 100),(100,⟨.type "code",none,.fields #[.str "mark_of" 314,.str "mark_of" 315,.str "/claim/cut.py" 316,.int (44) 0,.int (2) 0,.int (0) 0,.int (0) 0,.int (3) 0,.ref 95,.bool true,.int (181) 0,.ref 96,.none,.ref 97,.ref 98,.ref 99,.int (321) 0,.int (44) 0,.str "/claim/cut.py" 322],#[]⟩),(108,kf "swept" uk (.str "millpath.tools" 312) 107),(107,⟨.type "code",none,.fields #[.str "swept" 324,.str "swept" 325,.str "/claim/cut.py" 326,.int (48) 0,.int (3) 0,.int (0) 0,.int (0) 0,.int (3) 0,.ref 102,.bool true,.int (181) 0,.ref 103,.none,.ref 104,.ref 105,.ref 106,.int (330) 0,.int (48) 0,.str "/claim/cut.py" 331],#[]⟩),(113,kf "area_of" nV (.str "millpath.unions" 333) 112),(112,⟨.type "code",none,.fields #[.str "area_of" 335,.str "area_of" 336,.str "/claim/cut.py" 337,.int (51) 0,.int (1) 0,.int (0) 0,.int (0) 0,.int (3) 0,.ref 109,.bool true,.int (181) 0,.ref 110,.none,.none,.none,.ref 111,.int (338) 0,.int (51) 0,.str "/claim/cut.py" 339],#[]⟩),(118,kf "strip_sides" eD (.str "millpath.unions" 333) 117),(117,⟨.type "code",none,.fields #[.str "strip_sides" 341,.str "strip_sides" 342,.str "/claim/cut.py" 343,.int (62) 0,.int (1) 0,.int (0) 0,.int (0) 0,.int (3) 0,.ref 114,.bool true,.int (181) 0,.ref 115,.none,.none,.none,.ref 116,.int (344) 0,.int (62) 0,.str "/claim/cut.py" 345],#[]⟩),(123,kf "bounds_at" gv (.str "millpath.unions" 333) 122),(122,⟨.type "code",none,.fields #[.str "bounds_at" 347,.str "bounds_at" 348,.str "/claim/cut.py" 349,.int (79) 0,.int (2) 0,.int (0) 0,.int (0) 0,.int (3) 0,.ref 119,.bool true,.int (181) 0,.ref 120,.none,.none,.none,.ref 121,.int (350) 0,.int (79) 0,.str "/claim/cut.py" 351],#[]⟩),(130,kf "length_along" dO (.str "millpath.unions" 333) 129),(129,⟨.type "code",none,.fields #[.str "length_along" 353,.str "length_along" 354,.str "/claim/cut.py" 355,.int (81) 0,.int (2) 0,.int (0) 0,.int (0) 0,.int (3) 0,.ref 124,.bool true,.int (181) 0,.ref 125,.none,.ref 126,.ref 127,.ref 128,.int (364) 0,.int (81) 0,.str "/claim/cut.py" 365],#[]⟩),(137,kf "cut_octos" gc (.str "millpath.areas" 367) 136),(136,⟨.type "code",none,.fields #[.str "cut_octos" 369,.str "cut_octos" 370,.str "/claim/cut.py" 371,.int (96) 0,.int (3) 0,.int (0) 0,.int (0) 0,.int (3) 0,.ref 131,.bool true,.int (181) 0,.ref 132,.none,.ref 133,.ref 134,.ref 135,.int (380) 0,.int (96) 0,.str "/claim/cut.py" 381],#[]⟩),(144,kf "cut_area" jR (.str "millpath.areas" 367) 143),(143,⟨.type "code",none,.fields #[.str "cut_area" 383,.str "cut_area" 384,.str "/claim/cut.py" 385,.int (106) 0,.int (3) 0,.int (0) 0,.int (0) 0,.int (3) 0,.ref 138,.bool true,.int (181) 0,.ref 139,.none,.ref 140,.ref 141,.ref 142,.int (389) 0,.int (106) 0,.str "/claim/cut.py" 390],#[]⟩),(151,kf "ways_at" nJ (.str "millpath.areas" 367) 150),(150,⟨.type "code",none,.fields #[.str "ways_at" 392,.str "ways_at" 393,.str "/claim/cut.py" 394,.int (108) 0,.int (2) 0,.int (0) 0,.int (0) 0,.int (3) 0,.ref 145,.bool true,.int (181) 0,.ref 146,.none,.ref 147,.ref 148,.ref 149,.int (402) 0,.int (108) 0,.str "/claim/cut.py" 403],#[]⟩),(158,kf "goes_on" nv (.str "millpath.areas" 367) 157),(157,⟨.type "code",none,.fields #[.str "goes_on" 405,.str "goes_on" 406,.str "/claim/cut.py" 407,.int (120) 0,.int (2) 0,.int (0) 0,.int (0) 0,.int (3) 0,.ref 152,.bool true,.int (181) 0,.ref 153,.none,.ref 154,.ref 155,.ref 156,.int (412) 0,.int (120) 0,.str "/claim/cut.py" 413],#[]⟩),(165,kf "_law_begin" pf (.str "law_millpath_k56_great_programs" 415) 164),(164,⟨.type "code",none,.fields #[.str "_law_begin" 417,.str "_law_begin" 418,.str "/claim/cut.py" 419,.int (129) 0,.int (1) 0,.int (0) 0,.int (0) 0,.int (3) 0,.ref 159,.bool true,.int (181) 0,.ref 160,.none,.ref 161,.ref 162,.ref 163,.int (422) 0,.int (129) 0,.str "/claim/cut.py" 423],#[]⟩),(172,kf "_law_take" uy (.str "law_millpath_k56_great_programs" 415) 171),(171,⟨.type "code",none,.fields #[.str "_law_take" 425,.str "_law_take" 426,.str "/claim/cut.py" 427,.int (134) 0,.int (2) 0,.int (0) 0,.int (0) 0,.int (3) 0,.ref 166,.bool true,.int (181) 0,.ref 167,.none,.ref 168,.ref 169,.ref 170,.int (435) 0,.int (134) 0,.str "/claim/cut.py" 436],#[]⟩),(179,kf "_law_tool" xM (.str "law_millpath_k56_great_programs" 415) 178),(178,⟨.type "code",none,.fields #[.str "_law_tool" 438,.str "_law_tool" 439,.str "/claim/cut.py" 440,.int (145) 0,.int (2) 0,.int (0) 0,.int (0) 0,.int (3) 0,.ref 173,.bool true,.int (181) 0,.ref 174,.none,.ref 175,.ref 176,.ref 177,.int (445) 0,.int (145) 0,.str "/claim/cut.py" 446],#[]⟩),(186,kf "_law_mark" xV (.str "law_millpath_k56_great_programs" 415) 185),(185,⟨.type "code",none,.fields #[.str "_law_mark" 448,.str "_law_mark" 449,.str "/claim/cut.py" 450,.int (149) 0,.int (2) 0,.int (0) 0,.int (0) 0,.int (3) 0,.ref 180,.bool true,.int (181) 0,.ref 181,.none,.ref 182,.ref 183,.ref 184,.int (457) 0,.int (149) 0,.str "/claim/cut.py" 458],#[]⟩),(191,kf "_law_in_mark" nM (.str "law_millpath_k56_great_programs" 415) 190),(190,⟨.type "code",none,.fields #[.str "_law_in_mark" 460,.str "_law_in_mark" 461,.str "/claim/cut.py" 462,.int (157) 0,.int (4) 0,.int (0) 0,.int (0) 0,.int (3) 0,.ref 187,.bool true,.int (181) 0,.ref 188,.none,.none,.none,.ref 189,.int (463) 0,.int (157) 0,.str "/claim/cut.py" 464],#[]⟩),(196,kf "_law_same" s_same (.str "law_millpath_k56_great_programs" 415) 195),(195,⟨.type "code",none,.fields #[.str "_law_same" 466,.str "_law_same" 467,.str "/claim/cut.py" 468,.int (161) 0,.int (2) 0,.int (0) 0,.int (0) 0,.int (3) 0,.ref 192,.bool true,.int (181) 0,.ref 193,.none,.none,.none,.ref 194,.int (469) 0,.int (161) 0,.str "/claim/cut.py" 470],#[]⟩),(201,kf "_law_tools" uP (.str "law_millpath_k56_great_programs" 415) 200),(200,⟨.type "code",none,.fields #[.str "_law_tools" 472,.str "_law_tools" 473,.str "/claim/cut.py" 474,.int (177) 0,.int (2) 0,.int (0) 0,.int (0) 0,.int (3) 0,.ref 197,.bool true,.int (181) 0,.ref 198,.none,.none,.none,.ref 199,.int (475) 0,.int (177) 0,.str "/claim/cut.py" 476],#[]⟩),(208,kf "_law_places" qm (.str "law_millpath_k56_great_programs" 415) 207),(207,⟨.type "code",none,.fields #[.str "_law_places" 478,.str "_law_places" 479,.str "/claim/cut.py" 480,.int (179) 0,.int (3) 0,.int (0) 0,.int (0) 0,.int (3) 0,.ref 202,.bool true,.int (181) 0,.ref 203,.none,.ref 204,.ref 205,.ref 206,.int (491) 0,.int (179) 0,.str "/claim/cut.py" 492],#[]⟩),(213,kf "_law_cut" Cc (.str "law_millpath_k56_great_programs" 415) 212),(212,⟨.type "code",none,.fields #[.str "_law_cut" 494,.str "_law_cut" 495,.str "/claim/cut.py" 496,.int (196) 0,.int (3) 0,.int (0) 0,.int (0) 0,.int (3) 0,.ref 209,.bool true,.int (181) 0,.ref 210,.none,.none,.none,.ref 211,.int (497) 0,.int (196) 0,.str "/claim/cut.py" 498],#[]⟩),(220,kf "_law_great" um (.str "law_millpath_k56_great_programs" 415) 219),(219,⟨.type "code",none,.fields #[.str "_law_great" 500,.str "_law_great" 501,.str "/claim/cut.py" 502,.int (212) 0,.int (2) 0,.int (0) 0,.int (0) 0,.int (3) 0,.ref 214,.bool true,.int (181) 0,.ref 215,.none,.ref 216,.ref 217,.ref 218,.int (514) 0,.int (212) 0,.str "/claim/cut.py" 515],#[]⟩),(225,kf "_law_moved" qr (.str "law_millpath_k56_great_programs" 415) 224),(224,⟨.type "code",none,.fields #[.str "_law_moved" 517,.str "_law_moved" 518,.str "/claim/cut.py" 519,.int (233) 0,.int (3) 0,.int (0) 0,.int (0) 0,.int (3) 0,.ref 221,.bool true,.int (181) 0,.ref 222,.none,.none,.none,.ref 223,.int (520) 0,.int (233) 0,.str "/claim/cut.py" 521],#[]⟩),(230,kf "law" gQ (.str "law_millpath_k56_great_programs" 415) 229),(229,⟨.type "code",none,.fields #[.str "law" 523,.str "law" 524,.str "/claim/cut.py" 525,.int (242) 0,.int (1) 0,.int (0) 0,.int (0) 0,.int (3) 0,.ref 226,.bool true,.int (181) 0,.ref 227,.none,.none,.none,.ref 228,.int (526) 0,.int (242) 0,.str "/claim/cut.py" 527],#[]⟩),(23,⟨.type "tuple",none,.seq #[.ref 15,.ref 16,.ref 17,.ref 18,.ref 19,.ref 20,.ref 21,.ref 22] 0,#[]⟩),(15,⟨.type "tuple",none,.seq #[.int (1) 189,.int (0) 190] 0,#[]⟩),(16,⟨.type "tuple",none,.seq #[.int (1) 191,.int (1) 192] 0,#[]⟩),(17,⟨.type "tuple",none,.seq #[.int (0) 193,.int (1) 194] 0,#[]⟩),(18,⟨.type "tuple",none,.seq #[.int (-1) 196,.int (1) 197] 0,#[]⟩),(19,⟨.type "tuple",none,.seq #[.int (-1) 199,.int (0) 200] 0,#[]⟩),(20,⟨.type "tuple",none,.seq #[.int (-1) 202,.int (-1) 204] 0,#[]⟩),(21,⟨.type "tuple",none,.seq #[.int (0) 205,.int (-1) 207] 0,#[]⟩),(22,⟨.type "tuple",none,.seq #[.int (1) 208,.int (-1) 210] 0,#[]⟩)]
noncomputable def kas:List QA:=[3,30,29,37,36,44,43,51,50,56,55,61,60,68,67,75,74,82,81,87,86,94,93,101,100,108,107,113,112,118,117,123,122,130,129,137,136,144,143,151,150,158,157,165,164,172,171,179,178,186,185,191,190,196,195,201,200,208,207,213,212,220,219,225,224,230,229,23,15,16,17,18,19,20,21,22]
theorem xX(P:Ur):kas=(KK P).map (·.1):=by kernel_rfl
noncomputable def VW:QL:=PySem.W.view PySem.Challenge.pw_millpath_k56_great_programs [1,2,3,5,6,7,9,10,11,12,13,14,16,17,19,20,21,22,24,25,26,27,29,30,31,32,33,34,35,36,37,38,39,40]
noncomputable def Hl(s:Q6):Pos:=match s with
 | .FunctionDef _ _ _ _ _ _ _ _ _ p=>p
 | _=>⟨0,0,0,0⟩
variable {mg:Str->Option Qy}
theorem dfn{h:QR}{P:Ur}{x:Str}{st:Q6}{ps:List Str}(X:(KK P).In h)(G:h.Ns Ru mg)(f c:QA)(m:Qy)(l:(KK P).lookup f=some (kf x st m c):=by kernel_rfl)(a:Uy (KK P) Ru x=some (some (.ref f)):=by kernel_rfl)(cd:TQ (KK P) (.ref c) x=true:=by kernel_rfl)(kp:Ta (KK P) (.ref f)=true:=by kernel_rfl)
  (hb:∀(kV doc pm:Qy) (an:Option QA) (cdv ct:Qy) (us:List Qy),us.length=ps.length->W5 (R8 x x (eB st) (cO st) (ax st) .none kV doc pm an cdv ct) ⟨us,[]⟩=pure (ps.zip us):=by intro _ _ _ _ _ _ us;revert us;first|(apply ar1;intros;rfl)|(apply ar2;intros;rfl)|(apply ar3;intros;rfl)|(apply ar4;intros;rfl)|(apply ar8;intros;rfl)):Dfn (KK P) mg x st ps:=⟨f,_,xZ (st:=st) l cd kp,Vc X G a,(xZ (st:=st) l cd kp).binds hb⟩
noncomputable def mo0:Qy:=.str "millpath.corners" 187
noncomputable def mo1:Qy:=.str "millpath.kinds" 232
noncomputable def mo2:Qy:=.str "millpath.octos" 254
noncomputable def mo3:Qy:=.str "millpath.tools" 312
noncomputable def mo4:Qy:=.str "millpath.unions" 333
noncomputable def mo5:Qy:=.str "millpath.areas" 367
noncomputable def mo6:Qy:=.str "law_millpath_k56_great_programs" 415
set_option maxHeartbeats 0 in
theorem all_mk{l:UE}{w:QP}{h:QR}{fa:QA}(X:(KK w.params).In h)(G:h.Ns Ru mg)(hfa:mg "law"=some (.ref fa)):∃fd:QW,(∀(s:QB) (v:Qy),UR s fd ⟨[v],[]⟩ [("_law_script",v)])/\∀base:QR,(KK w.params).In base->base.Ns Ru mg->FnOk l.prog w (KK w.params) mg base CX0 7 fa fd ["_law_script"] (zO (KK w.params)):=by
 have e:=hfa.symm.trans (Vc X G (show Uy (KK w.params) Ru "law"=some (some (.ref 230)) by kernel_rfl));cases e;have z:∀{x:Str},Uy (KK w.params) Ru x=some none->mg x=none:=fun h=>PySem.W.mg_none_of X G h;have T:Txt mg:=⟨z (by kernel_rfl),z (by kernel_rfl),z (by kernel_rfl),z (by kernel_rfl),z (by kernel_rfl),z (by kernel_rfl),z (by kernel_rfl),z (by kernel_rfl),z (by kernel_rfl),z (by kernel_rfl),z (by kernel_rfl),z (by kernel_rfl),z (by kernel_rfl),z (by kernel_rfl),z (by kernel_rfl),z (by kernel_rfl),z (by kernel_rfl),z (by kernel_rfl),z (by kernel_rfl),z (by kernel_rfl),z (by kernel_rfl)⟩;have F:=xZ (st:=gQ) (K:=KK w.params) (x:="law") (qual:="law") (f:=230) (oc:=.type "function") (od:=none) (an:=none) (osl:=#[]) (kV:=.none) (doc:=.none) (pm:=mo6) (cdv:=.ref 229) (ct:=.none) (by kernel_rfl) (by kernel_rfl) (by kernel_rfl);refine⟨R8 "law" "law" (eB gQ) (cO gQ) (ax gQ) .none .none .none mo6 none (.ref 229) .none,fun s v=>.of_eq rfl,fun base _ _=>?_⟩;have cl1:(KK w.params).lookup 23=some ⟨.type "tuple",none,.seq #[.ref 15,.ref 16,.ref 17,.ref 18,.ref 19,.ref 20,.ref 21,.ref 22] 0,#[]⟩:=by kernel_rfl
 have cl2:(KK w.params).lookup 15=some ⟨.type "tuple",none,.seq #[.int (1) 189,.int (0) 190] 0,#[]⟩:=by kernel_rfl
 have cl3:(KK w.params).lookup 16=some ⟨.type "tuple",none,.seq #[.int (1) 191,.int (1) 192] 0,#[]⟩:=by kernel_rfl
 have cl4:(KK w.params).lookup 17=some ⟨.type "tuple",none,.seq #[.int (0) 193,.int (1) 194] 0,#[]⟩:=by kernel_rfl
 have cl5:(KK w.params).lookup 18=some ⟨.type "tuple",none,.seq #[.int (-1) 196,.int (1) 197] 0,#[]⟩:=by kernel_rfl
 have cl6:(KK w.params).lookup 19=some ⟨.type "tuple",none,.seq #[.int (-1) 199,.int (0) 200] 0,#[]⟩:=by kernel_rfl
 have cl7:(KK w.params).lookup 20=some ⟨.type "tuple",none,.seq #[.int (-1) 202,.int (-1) 204] 0,#[]⟩:=by kernel_rfl
 have cl8:(KK w.params).lookup 21=some ⟨.type "tuple",none,.seq #[.int (0) 205,.int (-1) 207] 0,#[]⟩:=by kernel_rfl
 have cl9:(KK w.params).lookup 22=some ⟨.type "tuple",none,.seq #[.int (1) 208,.int (-1) 210] 0,#[]⟩:=by kernel_rfl
 have gt_STEPS:Uy (KK w.params) Ru "STEPS"=some (some (.ref 23)):=by kernel_rfl
 have C_STEPS:Glb (KK w.params) mg "STEPS" tO:=⟨.ref 23,_,Vc X G gt_STEPS,rfl,fun _ _=>(.cst (.inr ⟨_,_,0,cl1,rfl,rfl,(by show 8<=sizeLine;decide),(.cons (show RelV (.ref 15) (.ref 15)from rfl) (.cons (show RelV (.ref 16) (.ref 16)from rfl) (.cons (show RelV (.ref 17) (.ref 17)from rfl) (.cons (show RelV (.ref 18) (.ref 18)from rfl) (.cons (show RelV (.ref 19) (.ref 19)from rfl) (.cons (show RelV (.ref 20) (.ref 20)from rfl) (.cons (show RelV (.ref 21) (.ref 21)from rfl) (.cons (show RelV (.ref 22) (.ref 22)from rfl) .nil))))))))⟩) (.cons rfl (.cst (.inr ⟨_,_,0,cl2,rfl,rfl,(by show 2<=sizeLine;decide),(.cons (show RelV (.int (1)) (.int (1) 189)from⟨_,rfl⟩) (.cons (show RelV (.int (0)) (.int (0) 190)from⟨_,rfl⟩) .nil))⟩) (.cons rfl .int (.cons rfl .int .nil))) (.cons rfl (.cst (.inr ⟨_,_,0,cl3,rfl,rfl,(by show 2<=sizeLine;decide),(.cons (show RelV (.int (1)) (.int (1) 191)from⟨_,rfl⟩) (.cons (show RelV (.int (1)) (.int (1) 192)from⟨_,rfl⟩) .nil))⟩) (.cons rfl .int (.cons rfl .int .nil))) (.cons rfl (.cst (.inr ⟨_,_,0,cl4,rfl,rfl,(by show 2<=sizeLine;decide),(.cons (show RelV (.int (0)) (.int (0) 193)from⟨_,rfl⟩) (.cons (show RelV (.int (1)) (.int (1) 194)from⟨_,rfl⟩) .nil))⟩) (.cons rfl .int (.cons rfl .int .nil))) (.cons rfl (.cst (.inr ⟨_,_,0,cl5,rfl,rfl,(by show 2<=sizeLine;decide),(.cons (show RelV (.int (-1)) (.int (-1) 196)from⟨_,rfl⟩) (.cons (show RelV (.int (1)) (.int (1) 197)from⟨_,rfl⟩) .nil))⟩) (.cons rfl .int (.cons rfl .int .nil))) (.cons rfl (.cst (.inr ⟨_,_,0,cl6,rfl,rfl,(by show 2<=sizeLine;decide),(.cons (show RelV (.int (-1)) (.int (-1) 199)from⟨_,rfl⟩) (.cons (show RelV (.int (0)) (.int (0) 200)from⟨_,rfl⟩) .nil))⟩) (.cons rfl .int (.cons rfl .int .nil))) (.cons rfl (.cst (.inr ⟨_,_,0,cl7,rfl,rfl,(by show 2<=sizeLine;decide),(.cons (show RelV (.int (-1)) (.int (-1) 202)from⟨_,rfl⟩) (.cons (show RelV (.int (-1)) (.int (-1) 204)from⟨_,rfl⟩) .nil))⟩) (.cons rfl .int (.cons rfl .int .nil))) (.cons rfl (.cst (.inr ⟨_,_,0,cl8,rfl,rfl,(by show 2<=sizeLine;decide),(.cons (show RelV (.int (0)) (.int (0) 205)from⟨_,rfl⟩) (.cons (show RelV (.int (-1)) (.int (-1) 207)from⟨_,rfl⟩) .nil))⟩) (.cons rfl .int (.cons rfl .int .nil))) (.cons rfl (.cst (.inr ⟨_,_,0,cl9,rfl,rfl,(by show 2<=sizeLine;decide),(.cons (show RelV (.int (1)) (.int (1) 208)from⟨_,rfl⟩) (.cons (show RelV (.int (-1)) (.int (-1) 210)from⟨_,rfl⟩) .nil))⟩) (.cons rfl .int (.cons rfl .int .nil))) .nil)))))))))⟩;have G_take:Cal l.prog w (KK w.params) mg base 1 "_law_take" ["_law_state","_law_many"] (aG (KK w.params) 2 kB):=Du (dfn X G 172 171 mo6) T;have G_begin:Cal l.prog w (KK w.params) mg base 1 "_law_begin" ["_law_script"] (aG (KK w.params) 1 (u9 (KK w.params))):=B1 (dfn X G 165 164 mo6) T;have G_bounds_at:=(dfn X G 123 122 mo4).cal (base:=base) (P:=l.prog) (w:=w) fun _ _ F=>uU F T;have G_strip_sides:=(dfn X G 118 117 mo4).cal (base:=base) (P:=l.prog) (w:=w) fun _ _ F=>qE F T G_bounds_at;have G_length_along:=(dfn X G 130 129 mo4).cal (base:=base) (P:=l.prog) (w:=w) fun _ _ F=>oN F T;have G_area_of:=(dfn X G 113 112 mo4).cal (base:=base) (P:=l.prog) (w:=w) fun _ _ F=>xg F T G_strip_sides G_length_along;have G_stepped:=(dfn X G 30 29 mo0).cal (base:=base) (P:=l.prog) (w:=w) fun _ _ F=>y0 F T C_STEPS;have G_straight:=(dfn X G 37 36 mo0).cal (base:=base) (P:=l.prog) (w:=w) fun _ _ F=>vc F T C_STEPS G_stepped;have G_octo_of:=(dfn X G 61 60 mo2).cal (base:=base) (P:=l.prog) (w:=w) fun _ _ F=>xK F T;have G_added:=(dfn X G 87 86 mo2).cal (base:=base) (P:=l.prog) (w:=w) fun _ _ F=>BS F T;have G_moved:=(dfn X G 94 93 mo2).cal (base:=base) (P:=l.prog) (w:=w) fun _ _ F=>CD F T G_octo_of G_added;have G_mark_of:=(dfn X G 101 100 mo3).cal (base:=base) (P:=l.prog) (w:=w) fun _ _ F=>wZ F T G_moved;have G_swept:=(dfn X G 108 107 mo3).cal (base:=base) (P:=l.prog) (w:=w) fun _ _ F=>C8 F T G_octo_of G_added G_mark_of;have G_goes_on:=(dfn X G 158 157 mo5).cal (base:=base) (P:=l.prog) (w:=w) fun _ _ F=>xS F T G_straight;have G_ways_at:=(dfn X G 151 150 mo5).cal (base:=base) (P:=l.prog) (w:=w) fun _ _ F=>xw F T G_goes_on;have G_cut_octos:=(dfn X G 137 136 mo5).cal (base:=base) (P:=l.prog) (w:=w) fun _ _ F=>uN F T G_swept G_ways_at;have G_is_number:=(dfn X G 44 43 mo1).cal (base:=base) (P:=l.prog) (w:=w) fun _ _ F=>tH F T;have G_is_row:=(dfn X G 51 50 mo1).cal (base:=base) (P:=l.prog) (w:=w) fun _ _ F=>Af F T;have G_are_numbers:=(dfn X G 56 55 mo1).cal (base:=base) (P:=l.prog) (w:=w) fun _ _ F=>pR F T G_is_number G_is_row;have G_ends_met:=(dfn X G 82 81 mo2).cal (base:=base) (P:=l.prog) (w:=w) fun _ _ F=>vv F T;have G_all_met:=(dfn X G 75 74 mo2).cal (base:=base) (P:=l.prog) (w:=w) fun _ _ F=>xY F T G_ends_met;have G_is_octo:=(dfn X G 68 67 mo2).cal (base:=base) (P:=l.prog) (w:=w) fun _ _ F=>x4 F T G_are_numbers G_all_met;have G_cut_area:=(dfn X G 144 143 mo5).cal (base:=base) (P:=l.prog) (w:=w) fun _ _ F=>wj F T G_area_of G_cut_octos;have G_in_mark:=(dfn X G 191 190 mo6).cal (base:=base) (P:=l.prog) (w:=w) fun _ _ F=>xt F T;have G_mark:=(dfn X G 186 185 mo6).cal (base:=base) (P:=l.prog) (w:=w) fun _ _ F=>Ef F T G_in_mark;have G_tool:=(dfn X G 179 178 mo6).cal (base:=base) (P:=l.prog) (w:=w) fun _ _ F=>Ft F T G_take;have G_tools:=(dfn X G 201 200 mo6).cal (base:=base) (P:=l.prog) (w:=w) fun _ _ F=>BZ F T G_take G_tool;have G_places:=(dfn X G 208 207 mo6).cal (base:=base) (P:=l.prog) (w:=w) fun _ _ F=>B6 F T G_take;have G_cut:=(dfn X G 213 212 mo6).cal (base:=base) (P:=l.prog) (w:=w) fun _ _ F=>Ip F T G_mark;have G_lmoved:=(dfn X G 225 224 mo6).cal (base:=base) (P:=l.prog) (w:=w) fun _ _ F=>B4 F T;have G_great:=(dfn X G 220 219 mo6).cal (base:=base) (P:=l.prog) (w:=w) fun _ _ F=>CW F T G_take G_places;have G_same:Cal l.prog w (KK w.params) mg base 3 "_law_same" ["_law_found","_law_due"] (aG (KK w.params) 2 (qu 2)):=Nat.rec (motive:=fun n=>Cal l.prog w (KK w.params) mg base (1+n) "_law_same" ["_law_found","_law_due"] (aG (KK w.params) 2 (qu n))) ((dfn X G 196 195 mo6).cal fun f fd (_:Fun (KK w.params) "_law_same" "_law_same" s_same f fd)=>Dn rfl) (fun n ih=>(dfn X G 196 195 mo6).cal fun _ _ F=>FI n F T ih) 2;exact IT (Hn F T G_is_octo G_area_of G_cut_octos G_cut_area G_begin G_take G_same G_tools G_cut G_great G_lmoved)
end Mp
open PySem PySem.W PyProof.Rows
set_option maxRecDepth 100000 in
set_option maxHeartbeats 0 in
theorem Mp.HV:PySem.Challenge.rw_millpath_k56_great_programs.wellSaid=true:=by kernel_rfl
set_option maxRecDepth 100000 in
theorem Mp.left:PySem.W.LeftO PySem.Challenge.rw_millpath_k56_great_programs.row.prog Mp.VW [] (fun s=>PySem.W.xlAt Mp.VW [] s&&PySem.W.recOk (PySem.Challenge.rw_millpath_k56_great_programs.row.toRowW.records) s) (X8 (Vd Mp.KK Mp.kas Mp.xX)) (X9 (Vd Mp.KK Mp.kas Mp.xX)) 6000:=fun w=>by kernel_rfl
set_option maxRecDepth 100000 in
set_option maxHeartbeats 0 in
theorem PySem.Challenge.cw_millpath_k56_great_programs_holds : PySem.Challenge.rw_millpath_k56_great_programs.Holds := by
 refine PySem.W.holds_law Mp.HV fun HV=>?_;refine PySem.W.holds_open (r:=PySem.Challenge.rw_millpath_k56_great_programs.row) (XP:=PySem.W.XL Mp.VW []) (YP:=X4 (Vd Mp.KK Mp.kas Mp.xX)) (d:=⟨"law",L2.eB Mp.gQ,L2.cO Mp.gQ,L2.ax Mp.gQ,Mp.Hl Mp.gQ⟩) (kwd:=[]) Mp.left (Yc _) (XY _) (fun s e=>PySem.W.xl_of s (Pe.mp e).1) X_ (by kernel_rfl) (by kernel_rfl) (by kernel_rfl) (fun s e=>PySem.W.recFacts_of (Pe.mp e).2) (by kernel_rfl) HV (by kernel_rfl) ⟨rfl,rfl,rfl,rfl,rfl,by decide +kernel⟩ ?hw ?hc
 case hw=>w_witness2
 case hc=>
  refine Mp.walk (l:=PySem.Challenge.rw_millpath_k56_great_programs) rfl (by kernel_rfl) (fun w h Y=>PySem.W.kIn_of Y) ?F
  case F=>
  intro w mg fa h KX G hmg;exact Mp.all_mk KX G hmg
