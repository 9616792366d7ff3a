import PyProof.Rows.All
import Wide.All
import OpenK.AllK
import Wide.FinOn
import Lean
import PyProof.EqAt
import PyProof.EqKinds
import PyProof.TupleCall
import PyProof.ZipIter
import PyProof.NeKinds
import PyProof.SeqI3
import PyProof.MaxThree
import PyProof.CompUse
import PyProof.DictFindH
import PyProof.DictRoadsH
import PyProof.TupleKey
import PyProof.DictWalks
import PyProof.AttrMissHeap
import KE.KDictOf
import KE.KDictList
import PyProof.Rows.SortRuns
import KE.KSortTup
import PyProof.ListRange
import PyProof.Rows.SetFrom
import PyProof.Rows.SortRev
import PySem.Challenge.RW_millpath_k55_areas_of_programs
set_option maxHeartbeats 4000000
set_option Elab.async false
set_option linter.all false
set_option maxRecDepth 100000
set_option genSizeOf false
noncomputable section
open List renaming length_map->a_,getElem?_eq_getElem->c_,getElem?_eq_some_iff->d_,length_append->f',map_cons->g_,length_cons->h_,perm_middle->j_,append_assoc->k_,mem_cons_of_mem->l_,mem_cons->n_,mem_append_right->o_,mem_cons_self->p_,map_append->q_,size_toArray->r_,mem_map->t_,take_length->u_,mem_append->v_,mem_append_left->w_,mem_singleton->z_,range->A_,perm_append_comm_assoc->A',map_map->B',pairwise_append->C_,Perm.trans->C',getElem?_map->D_,length_take->D',append_nil->E_,take_append_drop->F_,nodup_cons->F',mem_of_getElem?->G_,length_drop->H_,map->I_,mem_filter->J_,mem_range->Lr,length_set->Lv,pairwise_map->Lw,length_reverse->Lx,getElem?_append_right->Ly,getD_eq_getElem?_getD->LB,eq_nil_of_length_eq_zero->LD,mem_iff_getElem->LF,mem_map_of_mem->LG,Pairwise.sublist->LH,Perm.append_left->LJ,take_add_one->LL,cons_append->LN,not_mem_nil->LO,length_range->LP,length_filter_le->LQ,length_nil->LR,pairwise_cons->LX,getElem_mem->LY,take_of_length_le->Ma,find?_cons->Mc,perm_append_comm->Md,Pairwise.imp_of_mem->Mh,nodup_nil->Mk,mem_of_mem_take->Ml,nodup_append->Mn,map_congr_left->Mo,drop_of_length_le->Mq,sum_cons->Mu,getElem?_append_left->Mv,cons.injEq->Mw,getElem?_cons_succ->Mz,replicate->MB,Perm.swap->MC,getElem?_drop->MF,concat_eq_append->MI,cons.inj->MJ,length_dropLast->MK,extract_eq_drop_take->ML,pairwise_iff_getElem->MM,map_nil->MN,mem_reverse->MO,any_eq_true->MR,map_eq_nil_iff->MU,getElem?_cons_zero->MV,getElem?_take->MW,take_sublist->M1,drop_sublist->M4,reverse_cons->M5,mem_iff_getElem?->M7,drop_zero->M8,getElem?_eq_none->M9,lookup_cons->Na,all_eq_true->Nb,mem_of_mem_drop->Nd,reverse_append->Nk,flatMap_append->Nm,drop_eq_getElem_cons->Np,range_succ->Nr,all_map->Nv,set_eq_of_length_le->Ny,drop_drop->NC,pairwise_singleton->NF,Pairwise.nil->NG,getElem?_set_self->NJ,pairwise_lt_range->NL,countP_cons->NN,filter_cons->NQ,cons_ne_nil->NS,getElem?_set_ne->NT,nil_append->NX,dropLast_concat->NY,length_take_le'->NZ,drop_append_of_le_length->N3,filterMap_cons->N4,getElem?_range->N6,Perm.cons->N8,length->N9,map_id->N_,set_cons_succ->Oa,any_cons->Of,all_cons->Og,take_add->Oh,length_eraseIdx_of_lt->Oj,getElem?_zip_eq_some->Oo,getLast?_eq_getElem?->Oq,getLast?_eq_some_iff->Ot,zipIdx_cons->Ov,set_set->OA,of_mem_zip->OF,forIn_cons->OG,sum_append->OL,Perm.append_right->OM,drop_eq_nil_of_le->ON,flatMap_singleton->OO,length_singleton->OP,forIn_nil->OQ,set_append_right->OR,singleton_append->OU,reverse_reverse->OV,map_drop->O0,length_pos_iff->O1,replicate_succ->O2,mem_filterMap->O3,set_cons_zero->O5,zip_cons_cons->O7,filter_append->O8,length_concat->O',ext_getElem?->Pb,mapM_toArray->Pc,Pairwise.imp->Pe,reverse_perm->Pf,filter->Ph,mem_flatMap->Pm,flatMap_def->Pn,isEmpty_iff->Pq,zipIdx_nil->Pu,foldl_cons->Pz,zip_append->PC,length_zip->PD,Perm->PN,any_map->PU,map_id'->PV,zip_map->P0
open Nat renaming le_refl->b_,le_trans->m_,ne_of_lt->x_,lt_of_lt_of_le->y_,zero_le->B_,le_of_lt->K_,le_of_not_lt->LA,pos_of_ne_zero->LM,sub_le->LZ,lt_of_le_of_lt->Mg,lt_irrefl->Ms,lt_succ_of_lt->My,add_le_add_left->MA,mul_le_mul->ME,sub_self->MP,succ.inj->MQ,lt_succ_self->MT,lt_of_le_of_ne->MX,one_pos->MY,le_succ->M0,ne_of_gt->M6,le_add_right->Nf,add_assoc->Nj,add_sub_cancel'->Nl,sub_lt_left_of_lt_add->Nq,le_of_eq->Nu,zero_add->Nw,add_sub_cancel_left->ND,le_of_lt_succ->NH,le_succ_of_le->NI,succ_le_succ->NP,lt_trans->NU,le_sub_one_of_lt->NV,add_zero->NW,add_lt_add_left->N5,sub_lt->Om,min_eq_right->Ow,lt_of_not_le->Ox,max_eq_right->Oy,not_lt_of_le->OB,min_eq_left->OH,sub_le_sub_right->OW,not_lt->OX,add_sub_assoc->Pa,le_add_left->Pw,le_antisymm->Py,succ_mul->P5,mul_comm->P6,mul_add->Qa,mod_lt->Qc
open Int renaming le_trans->LC,toNat_natCast->LK,min_le_left->LU,le_max_left->LV,le_refl->LW,min_le_right->Mi,le_max_right->Mj,le_total->Mr,add_le_add->MD,zero_add->M_,mul_comm->M',add_le_add_left->Nn,emod_lt_of_pos->Nz,natCast_nonneg->NA,sub_add_cancel->NB,max_eq_right->NR,emod_nonneg->N0,add_zero->N1,max_eq_left->N2,fdiv_eq_ediv_of_nonneg->Ob,fmod_eq_emod_of_nonneg->Oe,max_le->Ou,min_eq_right->OC,min_self->OD,max_self->OE,min_eq_left->OJ,natCast_one->OK,add_comm->O9,add_sub_cancel->O_,mul_one->Pg,one_mul->Pj,natCast_zero->Po,le_of_not_gt->Pp,le_antisymm->PH,le_min->PJ,ofNat_le->PX,zero_mul->PY,le_of_lt->P4,mul_add->P9,mul_sub->P_,lt_min->Qd
open Option renaming some.inj->G',map->Nh,map_eq_some_iff->NK,some.injEq->Ol,isSome_some->O4,getD_none->Pl,some->P7,any->Qb
open Bool renaming false_eq_true->Kk,and_eq_true->Lz,beq_eq_decide_eq->Me,false_ne_true->Mf,true_and->Mt,eq_false_iff->M3,and_true->NM,not_false->N7,and_eq_true_iff->OY,not_true->OZ,and_false->PK,or_false->PQ
open Array renaming getElem?_toList->f_,length_toList->gV,getElem?_eq_getElem->i_,toList_append->Lu,perm_iff_toList_perm->L_,getElem?_eq_none->Mb,toList_reverse->Mm,toList_push->Mx,getD_eq_getD_getElem?->MG,getElem?_extract->MZ,toList_extract->Ng,getElem?_eq_some_iff->Ni,toList_map->NO,toList_setIfInBounds->Oi,size_setIfInBounds->Oz,Perm.refl->OI,size_extract->O6,toList->PR
open Or renaming inl->e_,inr->s_
open Prod renaming ext->Nt,ext_iff->PZ,mk.inj->P8
open Classical renaming propDecidable->W6
open False renaming elim->QC
open ForInStep renaming done->Qu,yield->QD
open Ne renaming symm->R6
open PyProof renaming noPylong_small->Uq
open PyProof.Rows renaming Keyed->Ql,arrOf->Qm,wpS_bind->Qp,SortSt->Qq,wpS_pure->Qw,pendingOf->QB,seqObj->QH,failedOf->QZ,wpS_forRange->Q2,elem'->Q3,SortKind->Rf,wpS_mono->Rj,IntsAre->Rr,callWith_type1->RM,slot_tuple_getitem->R4,reverseSlice'->Su,wpS_get->Sy,subscriptTail->S4,AllBare->S7,envOfC->Td,wpS_modify->Ti,get?_update_seq->Tj,keyKind'->Tv,listUpdate_at->TN,gallopOf->T_,wpS_lift->T',entry_list_sort->Uo,subscriptTail_builtinR->Us,seqEpoch_at->Ux,slot_list_sort->UD,mergeAt'->UQ,getElem?_mirror_all->UZ,plain_sorted->U',entry_sorted->Va,minRun'->Vd,kind_sorted->Vn,oneType'->VB,boot_range->VG,callWith_builtin1->VH,Subscript_->VI,bubble->VQ,getElem?_bubble->VR,ltAt'->VS,slicePart_none->V6,tuples'->Wa,args_list_sort->Wb,countRun'->Wk,Constant_bool->Wm,IsTup->WA,listItems_at->WQ,args_sorted1->WR,collect_list->WS,binarySort'->Xi,boot_sorted->Xk
open PyProof.Rows.F renaming plain_set_update_loop->SQ,entry_set_update_loop->Uh
open PyProof.Rows.IsTup renaming new->Wj
open PyProof.Rows.SortSt renaming mk'->Ry
open PySem renaming wpAny_bind->Qe,Value->Qf,Addr->Qh,Shared->Qi,wpAny_pure->Qj,wpAny->Qn,model->Qs,Program->Qv,Expr->Qx,World->Qy,Heap->Qz,starEach->QA,Around->QE,FuncData->QF,wpAny_newObj_type->QJ,wpAny_holding->QK,wpAny_mono->QM,eval->QO,Stmt->QR,wpAny_callSpecial?_slot->QW,wpAny_call_entry->QY,compareOp->Q0,intItems->Q4,SetTable->Q5,mainGlobals->Q8,sysModules->Q9,foldedSetIterable->Q_,wpAny_field->Rb,Scope->Rc,rawInt->Rh,wpAny_Call_Name_kw->Ri,wpAny_setField->Rk,binaryOp->Ro,mem_of_lookup->Rq,Builtin->Rt,IsPair->Rv,wpAny_attempt->Rw,wpAny_pyIter_tuple->RB,wpAny_truthy_bool->RC,wpAny_pyIter_list->RD,wpAny_typeNameOfWhole_keyiter->RF,wpAny_seqItems->RH,firstArgMember->RI,assignEach->RJ,bootBuiltins->RL,wpAny_setField_rec->RO,wpAny_passesOwn->RP,pyNext->RS,wpAny_setState_of->RT,wpAny_rule->RV,codeAny_mono->RZ,NameKind->R0,intKind->R5,codeAny->R7,wpAny_newList->R8,DictEntry->R_,wpAny_ite_split->R',codeAny_builtin->Sd,Model->Se,fits_of_scanBound->Sh,backTo->Si,IsZip->Sj,wpAny_isInstance->Sl,numAt->Sn,Paired->So,behindInMarks->Sr,sliceBounds->Sv,wpAny_of_eq->Sx,tupleKind->SE,wpAny_dictEntries->SR,assign->SW,intItems_at->S0,wpAny_standAt->S3,comprehension->S5,plainId_quiet->S6,swapsWith->S8,holding->S9,wpAny_execs_nil->Ta,letOwnedTupleGo->Tb,pyIter->Tc,wpAny_updateSeq_pair->Te,wpAny_setEntries_of->To,getItem->Tq,isSubtype_stop->Ts,wpAny_fieldsOf->Tt,subscripted->Tw,attributeBase->TH,wpAny_handled->TJ,wpAny_onRaise->TL,Comprehension->TM,wpAny_pyIter_slot->TR,wpAny_setEpoch_of->TU,valueAt->T3,callerA->T4,Operator->T5,noFill_tuple_add->T6,IsPart->T7,Params->T8,newExc->T9,relayAll->Ua,wpAny_askSetting->Ub,atKey->Ui,wpAny_specialOf->Uj,wpAny_dictEpoch->Ul,wpAny_throw->Uu,wpAny_letGo->Uv,codeAny_compStart_list->Uw,BindsTo->Uy,getitemInPython_of_ne->Uz,wpAny_newTuple->UA,wpAny_isOneOf_keyiter->UC,builtinLookup_eq_fast->UG,isSubtype_type->UH,entryOfKey->UI,builtinsNs->UJ,wpAny_loadName_local->UK,bindL->UL,bindC->UM,wpAny_letTemporaryGo->UN,field->UO,wpAny_newFunctionEnv->UP,wpAny_pyIter_keyiter->UR,intKind_is->US,seq_tuple_add->UT,Builtin->UU,wpAny_loadName_cell->UY,isTrue->U1,PassesOwn->U2,wpAny_List_spliced->U4,concat_meets->U5,wpAny_typeOf->U6,seqIndex_neg->U7,tupleKind_room_in1->U8,seqItems?->U9,CmpOp->Vc,wpAny_assign_Name->Ve,wpAny_storeSet_of->Vj,seqIndex_of->Vl,wpAny_eqBool_int->Vp,GenState->Vq,wpAny_execs_cons->Vr,newTuple->Vt,raiseNew->Vu,wpAny_comp_letGo->Vx,wpAny_pyIter_zip->Vy,wpAny_Name->VE,wpAny_load->VF,call_tuple_same->VJ,call_meets->VL,wpAny_operating->VM,call->VN,checkCount->VU,typeLookup_type->VY,wpAny_updateSeq->V0,codeAny_of_tree->V1,setItem->V3,standAt->V4,Keyword->V7,letTemporaryGo->V8,argBest->V_,ItemsOf->Wc,entryFor_alias->Wd,setNext->We,wpAny_runValue->Wf,storeName->Wh,cellsFrom->Wi,swapsWithSole->Wn,swappedStores->Wo,intBits_le_64->Wq,evalPart_none->Ws,call_list_seq->Wt,wpAny_standIf->Wv,signature?_of->Wy,Drawn->WB,call_range_2->WH,Result->WI,bindArgs->WJ,Slot->WK,typeOf->WL,setAddHashed->WV,entryFor->WW,argsOk->WX,wpAny_mkInt->W9,interactive->W_,IsRangeIter->Xa,keywordEach->Xd,operate->Xl,Walks->Xo,Fin->XC
open PySem.Around renaming under_plainId->RW
open PySem.AutoSeq1 renaming list_extend_list_list_0->Vs
open PySem.Builtin.Dict renaming showsAll->UB,dictSlotNone->WD,pendingCount->WE
open PySem.Builtin.Dict_items renaming ownsTuple->Tu
open PySem.Builtin.Frozenset renaming updateFrom->Wg,newClass->Wz,sizeOf->WZ,slot0->W5
open PySem.Builtin.List renaming listTooLong->SH,listLengthHint->Tz,listExtendWith->TB,listSameRef->Uc,listUpdate->Ue
open PySem.Builtin.Range renaming rangeSize->W0
open PySem.Builtin.Slice renaming slicePlaces->RU,sliceAdjust->Sz,sliceApplied->TF,slicePartIndex->V5,sliceFields->WC
open PySem.Builtin.SmallTypes renaming nextOf->QU,ownedTupleIsFree->Rm,ownedTupleHandOut->SJ
open PySem.Builtin.Tuple renaming tupleExact->R1,tupleItemsOf->Wr
open PySem.Calls renaming spliced_cons->R9,call_function_entry->SD,Name_function_global->TC,callWith_builtin->Ut,spliced_nil->Vf
open PySem.Data renaming cell->U3,seq->WM,fields->Xb
open PySem.Env renaming kindOf->VO
open PySem.F renaming slot_list_append->QP,type_list_append->QQ,slot_dict_keyiterator_next->Rn,slot_tuple_iterator_next->RQ,called_set->R3,args_tuple_add_2->SF,slot_list_extend->SK,type_list_extend->SM,entry_tuple_add->SO,slot_tuple_add->SX,slot_zip_next->Tf,args_dict_keyiterator_next_1->Tg,entry_dict_keyiterator_next->Tn,args_tuple_iterator_next_1->Tr,entry_tuple_iterator_next->Tx,slot_dict_getitem->TV,plain_extend_loop->TZ,plainAttrs_list->Ug,slot_dict_len->UE,args_zip_next_1->Vg,plain_list_iadd->Vk,entry_zip_next->Vv,slot_dict_iter->Vz,slot_set_iter->VZ,plain_set_new->V2
open PySem.Heap renaming get?_push_of_some->Qk,get?_push_size->Qo,lt_size->Qr,get?_update_self->Q1,size_push->Q6,SameBut->Q7,get?_update_other->Ru,get?_update_ne->RG,ExtBut->Sw,get?_push_ne->SU,push->S_,IsTuple->U_,IsList->Vm,size_update->VA
open PySem.Heap.DictOf renaming new->XU
open PySem.Heap.IsList renaming push->Vw,extBut->Xz
open PySem.Heap.IsListIter renaming extBut->Xg
open PySem.Heap.IsSliceOf renaming new->Xy
open PySem.Heap.IsTuple renaming push->Vh,extBut->Xt
open PySem.Heap.IsTupleIter renaming extBut->W4
open PySem.Heap.SameBut renaming update->QX,refl->XJ
open PySem.IsL renaming update->XN
open PySem.IsRange renaming new->Xc
open PySem.Manifest renaming sig_set_iterator->WG,owners->XX
open PySem.MeetsSeq renaming list_pop_last->Xe
open PySem.NameKind renaming free->Rx,cell->X0
open PySem.Obj renaming mapSeq->QI,data_mapFields->QS,isFreed_of_fields->RA,cls_mapFields->Sf,mapFields->Ss,putSet->VX
open PySem.Paired renaming length->RE,snoc->Xf,cons->Xj
open PySem.PassesOwn renaming never->QG
open PySem.SeqAt renaming EqAt->TY,RcAt->VP,RcNeAt->WN
open PySem.SeqAt.EqAt renaming same->VC,int_none->Xp,str_none->Xq,none_int->Xr,none_str->Xs,int_str->Xw,str_int->Xx,of_refs->XA
open PySem.SeqAt.RcAt renaming lists_lengths->WO,tuples->XF,lists->XO
open PySem.SeqAt.RcNeAt renaming lists_lengths->Ww,tuples->Xu,lists->XB
open PySem.SetTable renaming below->QN,grown->RY,sizeAbove->Vb,slot->Wx,toList_insertAt->WT,has->WU,orStandIn->XD,insertAt->XG,freeSlot->XH,layClean->XI,advance->XQ,relaid->XW,Probe->XZ,laid->X1,fits->X2
open PySem.SetTable.below renaming go->SV
open PySem.SetTable.probe renaming go->Vi
open PySem.Shared renaming heap->SY
open PySem.Str renaming ofString->Ra
open PySem.Value renaming none->QT,ref->QV,type->Rg,int->RX,str->U0,bool->VD,isStrOf->Wl,isInt->W7
open PySem.W renaming Frag->Qg,fnOf->RN,keepIn->SN,codeIn->Tp,methodObj->TQ,nsIn->Ud,OpenLaw->Uk,kat_nil->Um,cellsFrom_some->Ur,mg_of->UW,kHook->UX,kitAny->V9,WalkO->Wu
open PySem.W.Hook renaming keeps->XE,says->XM,obs->XR,val->XS,of->XY
open PySem.W.KatTups renaming cons->Xn,nil->Xv
open PySem.W.XL renaming keeps->XT
open PySem.Walks renaming tuple->Xh,list->Xm
open PySem.pickOrder renaming go->WY
open StateT renaming run_pure->VT
open Sum renaming inr->QL,inl->T1
open Sum.inl renaming inj->W8
open True renaming intro->RK
namespace L2
open PySem PySem.Spec PyProof.Rows
abbrev Key:=Sum Int (Option Str)
noncomputable def sk:Key->Qf->Bool
 | .inl k,v=>W7 k v
 | .inr (some x),v=>Wl x v
 | .inr none,.none=>true
 | .inr none,_=>false
noncomputable def KW(w:Qy):Key->Int
 | .inl k=>hashInt k
 | .inr (some x)=>hashStr w x
 | .inr none=>4238894112
theorem bU:∀{k:Key}{v:Qf},sk k v=true->(∃i t,k=T1 i/\v=RX i t)\/(∃x t,k=QL (some x)/\v=U0 x t)\/(k=QL none/\v=QT)
 | .inl i,v,h=>by obtain⟨t,e⟩:=Value.isInt_shape (k:=i) (v:=v) h;exact .inl ⟨i,t,rfl,e⟩
 | .inr (some x),v,h=>by obtain⟨t,e⟩:=Value.isStrOf_shape (x:=x) (v:=v) h;exact .inr (.inl ⟨x,t,rfl,e⟩)
 | .inr none,v,h=>by cases v <;> first|exact .inr (.inr ⟨rfl,rfl⟩)|cases h
theorem AL(i:Int)(t:Tok):sk (.inl i) (.int i t)=true:=by simp[sk,W7]
theorem AI(x:Str)(t:Tok):sk (.inr x) (.str x t)=true:=by simp[sk,Wl]
theorem Gs(a b:Int):decide ((T1 a:Key)=T1 b)=(a == b):=by
 by_cases e:a=b
 ·subst e;simp
 have h:¬(T1 a:Key)=T1 b:=fun q=>e (W8 q);rw[decide_eq_false h];exact(beq_eq_false_iff_ne.mpr e).symm
theorem Iz(a b:Str):decide ((QL (some a):Key)=QL (some b))=decide (a=b):=by
 by_cases e:a=b
 ·subst e;simp
 have h:¬(QL (some a):Key)=QL (some b):=fun q=>e (G' (Sum.inr.inj q));rw[decide_eq_false h,decide_eq_false e]
theorem CO{prog:Qv}{w:Qy}{A:QE}{E:Qf->Qi->Prop}{s:Qi}{Q:Int->Qi->Prop}(h:Q 4238894112 {s with toks:=s.toks+1}):Qn (Qs prog w) A (PySem.pyHash .none) Q E s:=
 PySem.W.pyHash_slot (T:="NoneType") rfl F.slot_NoneType_hash F.entry_NoneType_hash (F.args_NoneType_hash_1 _) (beq_builtin_none _) (.inl rfl) (Qe (Qj (Qe (W9 (Qj ⟨_,_,rfl,h⟩)))))
noncomputable def bo(prog:Qv)(w:Qy):PySem.KeyKind prog w Key where
 is:=sk
 hash:=KW w
 inj:=fun v a b ha hb=>by rcases bU ha with⟨i,t,rfl,rfl⟩|⟨x,t,rfl,rfl⟩|⟨rfl,rfl⟩ <;> rcases bU hb with⟨j,u,rfl,e⟩|⟨y,u,rfl,e⟩|⟨rfl,e⟩ <;> cases e <;> rfl
 byValue:=fun k v h=>by rcases bU h with⟨i,t,rfl,rfl⟩|⟨x,t,rfl,rfl⟩|⟨rfl,rfl⟩ <;> rfl
 pyHash:=fun hv h=>by
  rcases bU hv with⟨i,t,rfl,rfl⟩|⟨x,t,rfl,rfl⟩|⟨rfl,rfl⟩
  ·exact wpAny_pyHash_int h
  ·exact wpAny_pyHash_str h
  exact CO h
 eqBool:=fun hu hv h=>by
  rcases bU hu with⟨i,t,rfl,rfl⟩|⟨x,t,rfl,rfl⟩|⟨rfl,rfl⟩ <;> rcases bU hv with⟨j,u,rfl,rfl⟩|⟨y,u,rfl,rfl⟩|⟨rfl,rfl⟩
  ·rw[Gs]at h;exact Vp h
  ·exact Xw i t y u _ _ _ _ h
  ·exact Xp i t _ _ _ _ h
  ·exact Xx x t j u _ _ _ _ h
  ·rw[Iz]at h;exact wpAny_eqBool_str h
  ·exact Xq x t _ _ _ _ h
  ·exact Xr j u _ _ _ _ h
  ·exact Xs y u _ _ _ _ h
  exact VC _ _ _ _ _ h
 «strs»:=fun k x t v h=>by
  rcases bU h with⟨i,u,rfl,e⟩|⟨y,u,rfl,e⟩|⟨rfl,e⟩
  ·exact nomatch e
  ·injection e with e1 _
   subst e1;cases v <;> rfl
  exact nomatch e
theorem vX(prog:Qv)(w:Qy)(i:Int)(t:Tok):(bo prog w).is (.inl i) (.int i t)=true:=AL i t
theorem vS(prog:Qv)(w:Qy)(x:Str)(t:Tok):(bo prog w).is (.inr x) (.str x t)=true:=AI x t
inductive V where
 |non|bl (b:Bool)|int (i:Int)|str (x:Str)|byt (b:Array UInt8)|flt (b:UInt64)|ref (a:Qh)|ty (n:String)
 deriving DecidableEq
set_option genInjectivity false
noncomputable def RelV:V->Qf->Prop
 | .non,u=>u=QT
 | .bl b,u=>u=VD b
 | .int i,u=>∃t,u=RX i t
 | .str x,u=>∃t,u=U0 x t
 | .byt b,u=>∃t,u=Value.bytes b t
 | .flt b,u=>∃t,u=Value.float b t
 | .ref a,u=>u=QV a
 | .ty n,u=>u=Rg n
abbrev Vals:List V->List Qf->Prop:=So RelV
theorem Vals.length {xs:List V}{us:List Qf}(r:Vals xs us):xs.length=us.length:=RE r
theorem Vals.get:∀{xs:List V}{us:List Qf}{i:Nat}{x:V},Vals xs us->xs[i]?=some x->∃u,us[i]?=some u/\RelV x u
 | _,_,_,_,.nil,e=>by simp at e
 | _,_,0,_,.cons r _,e=>by simp at e;subst e;exact⟨_,rfl,r⟩
 | _,_,i+1,x,.cons _ t,e=>by obtain⟨u,h1,h2⟩:=Vals.get (i:=i) (x:=x) t (by simpa using e);exact⟨u,by simpa using h1,h2⟩
theorem Vals.set {x:V}{u:Qf}(r:RelV x u):∀{xs:List V}{us:List Qf} (i:Nat),Vals xs us->Vals (xs.set i x) (us.set i u)
 | _,_,_,.nil=>.nil
 | _,_,0,.cons _ t=>.cons r t
 | _,_,i+1,.cons q t=>.cons q (Vals.set r i t)
theorem Vals.append:∀{xs ys:List V}{us ws:List Qf},Vals xs us->Vals ys ws->Vals (xs++ys) (us++ws)
 | _,_,_,_,.nil,s=>s
 | _,_,_,_,.cons r t,s=>.cons r (Vals.append t s)
theorem Vals.take:∀{xs:List V}{us:List Qf} (n:Nat),Vals xs us->Vals (xs.take n) (us.take n)
 | _,_,0,_=>.nil
 | _,_,_+1,.nil=>.nil
 | _,_,n+1,.cons r t=>.cons r (Vals.take n t)
theorem Vals.drop:∀{xs:List V}{us:List Qf} (n:Nat),Vals xs us->Vals (xs.drop n) (us.drop n)
 | _,_,0,r=>r
 | _,_,_+1,.nil=>.nil
 | _,_,n+1,.cons _ t=>Vals.drop n t
noncomputable def qZ:Option V->Option Qf->Prop
 |some v,some u=>RelV v u
 |none,none=>True
 | _,_=>False
noncomputable def KV{κ:Type}:List (κ×V)->List (κ×Qf)->Prop:=So fun(p:κ×V) (q:κ×Qf)=>p.1=q.1/\RelV p.2 q.2
noncomputable def kV:Key->V
 | .inl i=>.int i
 | .inr (some x)=>.str x
 | .inr none=>.non
inductive HO where
 |lst (xs:List V)
 |tup (xs:List V)
 |dK (kvs:List (Key×V))|dT (kvs:List (List Key×V))
 |set (S:Int->Bool) (n:Nat)
 |ins (C dx:Qh) (fs:List (Str×V))
 |own (x:Qh)
 |xd (fs:List (Str×V))
 |met (f x:Qh)
 |rng (lo hi:Int)
 |frz (o:Obj) (u:HO)
 |tbl (ps:Array Qf)
 |ext (φ:Qz->Prop)
abbrev Hp:=Qh->Option HO
noncomputable def upd(H:Hp)(a:Qh)(o:HO):Hp:=fun b=>if b=a then some o else H b
theorem aN{H:Hp}{a:Qh}{o:HO}:upd H a o a=some o:=by unfold upd;rw[if_pos rfl]
theorem aM{H:Hp}{a b:Qh}{o:HO}(h:b≠a):upd H a o b=H b:=by unfold upd;rw[if_neg h]
theorem EG{H:Hp}{a:Qh}{o u:HO}:upd (upd H a o) a u=upd H a u:=by funext b;unfold upd;split <;> rfl
theorem CQ{H:Hp}{a b:Qh}{o u:HO}(h:H a=some o)(h':H b=some u)(d:o≠u):a≠b:=by intro e;subst e;rw[h]at h';exact d (G' h')
theorem bK{H:Hp}{a b:Qh}{o:HO}(h:H a=some o)(h':H b=none):a≠b:=by intro e;subst e;rw[h]at h';cases h'
section
variable(P:Qv)(w:Qy)
noncomputable def ba(H:Hp)(h:Qz)(a:Qh):HO->Prop
 | .lst xs=>xs.length<=sizeLine/\∃(its:List Qf) (n:Nat),Vals xs its/\h.get? a=some { cls:=.type "list",data:=.seq its.toArray n}
 | .tup xs=>xs.length<=sizeLine/\∃its:List Qf,Vals xs its/\WA h a its.toArray
 | .dK kvs=>kvs.length<=sizeLine/\(a == Q9)=false/\∃vs,KV kvs vs/\h.DictOf (bo P w) a vs
 | .dT kvs=>kvs.length<=sizeLine/\(a == Q9)=false/\∃xs:List (List Key×Qh×Qf),
   So (fun(p:List Key×V) (q:List Key×Qh×Qf)=>p.1=q.1/\H q.2.1=some (.tup (p.1.map kV))/\RelV p.2 q.2.2) kvs xs/\
   ∃o es ep,h.get? a=some o/\o.ExactDict/\o.data=.dict es ep/\es.toList=xs.map (UI (SE (bo P w)))/\(xs.map (·.1)).Nodup
 | .set S n=>h.SetOf (R5 P w) a S n
 | .ins C dx fs=>H dx=some (.own a)/\fs.length<=1000/\dx≠a/\h.get? a=some (PySem.W.instObj C dx)/\
   ∃mA,h.Ns1 dx mA/\(∀f,qZ (fs.lookup f) (mA f))/\PySem.Within mA (fs.map (·.1))
 | .own _=>∃o,h.get? a=some o
 | .xd fs=>∃mA,h.Ns1 a mA/\∀f,qZ (fs.lookup f) (mA f)
 | .rng lo hi=>∃t u v,h.get? a=some { cls:=.type "range",data:=.fields #[.int lo t,.int hi u,.int 1 v] }
 | .frz o u=>h.get? a=some o/\ba H h a u
 | .tbl ps=>h.get? a=some { cls:=.none,data:=.fields ps}
 | .met f x=>h.get? a=some (TQ (.ref f) (.ref x))
 | .ext φ=>φ h/\(∃o,h.get? a=some o)/\∀h1 h2:Qz,φ h1->(∀o,h1.get? a=some o->h2.get? a=some o)->φ h2
noncomputable def HOk(H:Hp)(h:Qz):Prop:=∀a o,H a=some o->ba P w H h a o
end
section
variable{P:Qv}{w:Qy}{H H':Hp}{h h':Qz}{a:Qh}{o:HO}
theorem ba.lt (x:ba P w H h a o):a<h.objs.size:=by
 cases o with
 |lst xs=>obtain⟨_,_,_,_,e⟩:=x;exact Qr e
 |tup xs=>obtain⟨_,_,_,p⟩:=x;exact p.lt
 |dK kvs=>obtain⟨_,_,_,_,o,_,_,e,_⟩:=x;exact Qr e
 |dT kvs=>obtain⟨_,_,_,_,o,_,_,e,_⟩:=x;exact Qr e
 |set S n=>obtain⟨o,_,_,_,e,_⟩:=x;exact Qr e
 |ins C dx fs=>obtain⟨_,_,_,e,_⟩:=x;exact Qr e
 |own y=>obtain⟨_,e⟩:=x;exact Qr e
 |xd fs=>obtain⟨_,⟨_,_,_,e,_⟩,_⟩:=x;exact Qr e
 |rng lo hi=>obtain⟨_,_,_,e⟩:=x;exact Qr e
 |frz ob u=>obtain⟨e,_⟩:=x;exact Qr e
 |tbl ps=>exact Qr (show h.get? a=some _ from x)
 |met f y=>exact Qr (show h.get? a=some _ from x)
 |ext φ=>obtain⟨_,⟨_,e⟩,_⟩:=x;exact Qr e
theorem Paired.GN {α β:Type}{F G:α->β->Prop}:∀{l₁:List α}{l₂:List β},So F l₁ l₂->(∀a b,F a b->G a b)->So G l₁ l₂
 | _,_,.nil,_=>.nil
 | _,_,.cons r t,f=>.cons (f _ _ r) (Paired.GN t f)
theorem ba.oJ (x:ba P w H h a o)(k:∀b u,(b=a\/H b=some (.own a))->h.get? b=some u->h'.get? b=some u)
  (ho:∀b,H b=some (.own a)->H' b=some (.own a)) (ht:∀b xs,H b=some (.tup xs)->H' b=some (.tup xs)):ba P w H' h' a o:=by
 induction o with
 |lst xs=>obtain⟨z,its,n,r,e⟩:=x;exact⟨z,its,n,r,k _ _ (.inl rfl) e⟩
 |tup xs=>obtain⟨z,its,r,ob,e,c⟩:=x;exact⟨z,its,r,ob,k _ _ (.inl rfl) e,c⟩
 |dK kvs=>obtain⟨z,y,vs,r,ob,es,ep,e,c⟩:=x;exact⟨z,y,vs,r,ob,es,ep,k _ _ (.inl rfl) e,c⟩
 |dT kvs=>
  obtain⟨z,y,xs,r,ob,es,ep,e,c⟩:=x;exact⟨z,y,xs,Paired.GN r fun p q z=>⟨z.1,ht _ _ z.2.1,z.2.2⟩,ob,es,ep,k _ _ (.inl rfl) e,c⟩
 |set S n=>obtain⟨ob,es,ep,t,e,c⟩:=x;exact⟨ob,es,ep,t,k _ _ (.inl rfl) e,c⟩
 |ins C dx fs=>
  obtain⟨d,z,ne,e,mA,⟨od,es,ep,e2,c⟩,r⟩:=x;exact⟨ho _ d,z,ne,k _ _ (.inl rfl) e,mA,⟨od,es,ep,k _ _ (.inr d) e2,c⟩,r⟩
 |own y=>obtain⟨ob,e⟩:=x;exact⟨ob,k _ _ (.inl rfl) e⟩
 |xd fs=>obtain⟨mA,⟨od,es,ep,e,c⟩,r⟩:=x;exact⟨mA,⟨od,es,ep,k _ _ (.inl rfl) e,c⟩,r⟩
 |rng lo hi=>obtain⟨t,u,v,e⟩:=x;exact⟨t,u,v,k _ _ (.inl rfl) e⟩
 |frz ob u ih=>obtain⟨e,q⟩:=x;exact⟨k _ _ (.inl rfl) e,ih q⟩
 |tbl ps=>
  have e:h.get? a=some { cls:=.none,data:=.fields ps}:=x;show h'.get? a=some { cls:=.none,data:=.fields ps};exact k a _ (.inl rfl) e
 |met f y=>
  have e:h.get? a=some (TQ (.ref f) (.ref y)):=x;show h'.get? a=some (TQ (.ref f) (.ref y));exact k a _ (.inl rfl) e
 |ext φ=>obtain⟨p,⟨o,e⟩,st⟩:=x;exact⟨st _ _ p fun o q=>k _ _ (.inl rfl) q,⟨o,k _ _ (.inl rfl) e⟩,st⟩
theorem HOk.lt (x:HOk P w H h)(e:H a=some o):a<h.objs.size:=(x a o e).lt
theorem HOk.fresh (x:HOk P w H h)(e:h.objs.size<=a):H a=none:=by
 cases q:H a with
 |none=>rfl
 |some u=>exact absurd (y_ (x.lt q) e) (Ms _)
theorem HOk.kept (x:HOk P w H h)(k:∀b u,h.get? b=some u->h'.get? b=some u):HOk P w H h':=fun a o e=>
 (x a o e).oJ (fun b u _ q=>k b u q) (fun _ q=>q) fun _ _ q=>q
theorem HOk.laid (x:HOk P w H h)(k:∀b u,h.get? b=some u->h'.get? b=some u)(hp:h.objs.size<=a)(new:ba P w (upd H a o) h' a o):HOk P w (upd H a o) h':=fun b u e=>by
 have hn:=x.fresh hp;by_cases hb:b=a
 ·subst hb;rw[aN]at e;cases e;exact new
 rw[aM hb]at e;exact(x b u e).oJ (fun c v _ q=>k c v q) (fun c q=>by rw[aM (bK q hn)];exact q) fun c xs q=>by rw[aM (bK q hn)];exact q
end
noncomputable def Rd(H:Hp)(a:Qh)(u:HO):Prop:=H a=some u\/∃o,H a=some (.frz o u)
theorem Rd.ok {P:Qv}{w:Qy}{H:Hp}{h:Qz}{a:Qh}{u:HO}(r:Rd H a u)(x:HOk P w H h):ba P w H h a u:=by
 rcases r with r|⟨o,r⟩
 ·exact x a u r
 obtain⟨_,q⟩:=x a _ r;exact q
noncomputable def Mut:Option HO->Prop
 |some (.lst _)=>True
 |some (.dK _)=>True
 |some (.dT _)=>True
 |some (.set _ _)=>True
 |some (.ins _ _ _)=>True
 |some (.ext _)=>True
 | _=>False
section
variable{P:Qv}{w:Qy}{H:Hp}{h h':Qz}{x e:Qh}{o':HO}
theorem HOk.write (ok:HOk P w H h)(mu:Mut (H x))(he:e=x\/H e=some (.own x))(k:∀b u,b≠e->h.get? b=some u->h'.get? b=some u)(heo:∃u,h'.get? e=some u)
  (new:ba P w (upd H x o') h' x o'):HOk P w (upd H x o') h':=fun b u q=>by
 have nown:∀c y,H c=some (.own y)->c≠x:=fun c y r z=>by subst z;rw[r]at mu;exact mu
 have ntup:∀c xs,H c=some (.tup xs)->c≠x:=fun c xs r z=>by subst z;rw[r]at mu;exact mu
 by_cases hb:b=x
 ·subst hb;rw[aN]at q;cases q;exact new
 rw[aM hb]at q;by_cases hbe:b=e
 ·have q':H b=some (.own x):=by
   rcases he with z|z
   ·exact absurd (hbe.trans z) hb
   rw[hbe];exact z
  rw[q]at q';cases q';obtain⟨v,hv⟩:=heo;exact⟨v,by rw[hbe];exact hv⟩
 refine(ok b u q).oJ (fun c v hc r=>k c v ?_ r) (fun c r=>by rw[aM (nown c b r)];exact r) fun c xs r=>by rw[aM (ntup c xs r)];exact r
 rcases hc with rfl|hc
 ·exact hbe
 rintro rfl;rcases he with z|z
 ·exact nown c b hc z
 rw[hc]at z;cases z;exact hb rfl
end
structure Un (fs ex:List Qh) (H H':Hp) (h h':Qz):Prop where
 keep:∀b o,h.get? b=some o->H b=none->b ∉ fs->b ∉ ex->h'.get? b=some o
 slot:∀b o,h.get? b=some o->H b=none->b∈fs->b ∉ ex->∃sl,h'.get? b=some {o with slots:=sl}
 free:∀b o,h.get? b=some o->H b=none->b ∉ ex->H' b=none
 there:∀b o,h.get? b=some o->b ∉ ex->∃o',h'.get? b=some o'
 tups:∀b xs,H b=some (.tup xs)->H' b=some (.tup xs)
 frzs:∀b o u,H b=some (.frz o u)->H' b=some (.frz o u)
 tbls:∀b ps,H b=some (.tbl ps)->∃more,H' b=some (.tbl (ps++more))
section
variable{fs fs' ex ex':List Qh}{H H1 H2:Hp}{h h1 h2 h':Qz}{a x e:Qh}{o:HO}
theorem Un.any (u:Un fs ex H H1 h h1){b:Qh}{ob:Obj}(q:h.get? b=some ob)(n:H b=none)(hx:b ∉ ex):∃sl,h1.get? b=some {ob with slots:=sl}:=by
 by_cases hb:b∈fs
 ·exact u.slot b ob q n hb hx
 exact⟨ob.slots,u.keep b ob q n hb hx⟩
theorem Un.kept (k:∀b u,h.get? b=some u->h'.get? b=some u):Un fs ex H H h h':=
 ⟨fun b ob q _ _ _=>k b ob q,fun b ob q _ _ _=>⟨ob.slots,k b ob q⟩,fun _ _ _ n _=>n,fun b ob q _=>⟨ob,k b ob q⟩,fun _ _ q=>q,fun _ _ _ q=>q,fun _ ps q=>⟨#[],by rw[q];simp⟩⟩
theorem Un.refl:Un fs ex H H h h:=Un.kept fun _ _ q=>q
theorem Un.laid (k:∀b u,h.get? b=some u->h'.get? b=some u)(hp:h.objs.size<=a)(hn:H a=none):Un fs ex H (upd H a o) h h' where
 keep:=fun b u q _ _ _=>k b u q
 slot:=fun b u q _ _ _=>⟨u.slots,k b u q⟩
 free:=fun b u q n _=>by rw[aM (x_ (y_ (Qr q) hp))];exact n
 there:=fun b u q _=>⟨u,k b u q⟩
 tups:=fun b xs q=>by rw[aM (bK q hn)];exact q
 frzs:=fun b u xs q=>by rw[aM (bK q hn)];exact q
 tbls:=fun b ps q=>⟨#[],by rw[aM (bK q hn),q];simp⟩
theorem Un.write (mu:Mut (H x))(he:e=x\/H e=some (.own x))(k:∀b u,b≠e->h.get? b=some u->h'.get? b=some u)(heo:∃u,h'.get? e=some u):Un fs ex H (upd H x o) h h':=by
 have hx:∀b,H b=none->b≠x:=fun b n z=>by subst z;rw[n]at mu;exact mu
 have hb:∀b,H b=none->b≠e:=fun b n z=>by
  subst z;rcases he with r|r
  ·exact hx b n r
  rw[n]at r;cases r
 have hm:∀b u,H b=some u->¬Mut (some u)->b≠x:=fun b u q nm z=>by subst z;rw[q]at mu;exact nm mu
 refine⟨fun b u q n _ _=>k b u (hb b n) q,fun b u q n _ _=>⟨u.slots,k b u (hb b n) q⟩,fun b u q n _=>by rw[aM (hx b n)];exact n,fun b u q _=>?_,
  fun b xs q=>by rw[aM (hm b _ q fun z=>z)];exact q,fun b u xs q=>by rw[aM (hm b _ q fun z=>z)];exact q,fun b ps q=>⟨#[],by rw[aM (hm b _ q fun z=>z),q];simp⟩⟩
 by_cases hbe:b=e
 ·subst hbe;exact heo
 exact⟨u,k b u hbe q⟩
end
noncomputable def trk(h:Qz)(H:Hp):List Qh:=(A_ h.objs.size).filter fun a=>(H a).isSome
noncomputable def ue(h:Qz)(H:Hp):Qz:=PySem.W.hideAll h (trk h H)
theorem Am(h:Qz)(H:Hp):(ue h H).objs.size=h.objs.size:=PySem.W.hideAll_size _ _
theorem C2{h:Qz}{H:Hp}{b:Qh}{o:Obj}(e:h.get? b=some o)(n:H b=none):(ue h H).get? b=some o:=
 PySem.W.hideAll_get _ e fun hm=>by have q:(H b).isSome=true:=(J_.mp hm).2;rw[n]at q;simp at q
theorem Fw{h:Qz}{H:Hp}{b:Qh}{o:Obj}(e:(ue h H).get? b=some o):h.get? b=some o/\H b=none:=by
 have e':h.get? b=some o:=PySem.W.of_hideAll (trk h H) e;refine⟨e',?_⟩;cases q:H b with
 |none=>rfl
 |some x=>
  have hm:b∈trk h H:=J_.mpr ⟨Lr.mpr (Qr e'),by simp[q]⟩;have z:(ue h H).get? b=none:=PySem.W.hideAll_none (trk h H) hm;rw[z]at e;cases e
noncomputable def E4(g h:Qz)(L:Qh):List (Qh×Obj):=(A_ h.objs.size).filterMap fun a=>if a=L\/(g.get? a).isSome=true then none else(h.get? a).map fun o=>(a,o)
noncomputable def rest(g h:Qz)(L d:Qh):List (Qh×Obj):=(E4 g h L).filter fun p=>decide (p.1≠d)
structure Mod (K:Qg) (mg:Str->Option Qf) (base:Qz):Prop where
 kin:K.In base
 glob:base.Ns Q8 mg
 blt:∃mb,base.Ns UJ mb/\∀x:Str,x≠"__name__"->mb x=RL x
 nolimit:base.NoLimit
structure Cx where
 prog:Qv
 w:Qy
 K:Qg
 mg:Str->Option Qf
 base:Qz
 A:QE
 N:List Str
 s₀:Qi
 H₀:Hp
 env:Env
 outer:List Env
 stack:List Env
 ex:List Qh
 fn:Str->Bool
 calm:Bool
 pn:List (Qh×Obj)
 xe:Qf->Qi->Prop
noncomputable def frs(l:List Env):List Qh:=l.filterMap (·.frame)
abbrev Cx.fs (X:Cx):List Qh:=frs X.outer
noncomputable def Vis(sc:Rc)(x:Str):Prop:=sc.names.lookup x=some .local\/sc.names.lookup x=some .cell\/sc.names.lookup x=some .free
noncomputable def Loc(sc:Rc)(x:Str):Prop:=sc.names.lookup x=some .local\/sc.names.lookup x=some .cell
noncomputable def Look(env:Env)(h:Qz)(m:Str->Option Qf)(x:Str)(u:Qf):Prop:=
 (env.kindOf x=some .local/\m x=some u)\/((env.kindOf x=some .cell\/env.kindOf x=some .free)/\∃c,env.cells.lookup x=some c/\h.IsCell c (some u))
structure Cx.Ok (X:Cx):Prop where
 mod:Mod X.K X.mg X.base
 kind:X.env.scope.kind=.function
 glob:X.env.globals=Q8
 blt:X.env.builtins=UJ
 above:X.s₀.heap.objs.size<=X.env.locals
 inj:∀x y c,X.env.cells.lookup x=some c->X.env.cells.lookup y=some c->x=y
 has:∀x,(X.env.kindOf x=some .cell\/X.env.kindOf x=some .free)->∃c,X.env.cells.lookup x=some c
 cab:∀x c,X.fn x=true->X.env.cells.lookup x=some c->X.s₀.heap.objs.size<=c
 hd:X.calm=true->X.A.handled=none
 frames:X.A.frames=some X.stack
 stk:X.stack=X.outer\/(X.stack=X.env::X.outer/\X.env.frame=some X.env.locals)
 exf:∀b∈X.ex,b≠X.env.locals/\∀x c,X.env.cells.lookup x=some c->c≠b
 bs:∀b o,X.base.get? b=some o->X.s₀.heap.get? b=some o/\X.H₀ b=none
 bsz:X.base.objs.size<=X.s₀.heap.objs.size
 noex:∀b o,X.base.get? b=some o->b ∉ X.ex
 exfs:∀b∈X.ex,b ∉ X.fs
 qE:X.s₀.heap.FunFrames X.base X.outer
 frf:∀b∈X.fs,X.H₀ b=none
structure Inv (X:Cx) (pins:List (Qh×Obj)) (σ:List (Option V)) (H:Hp) (s:Qi):Prop where
 ok:X.Ok
 os:s.os=X.s₀.os
 bare:S7 s.gens
 base:Un X.fs X.ex X.H₀ H X.s₀.heap s.heap
 loc:∃m,s.heap.Ns X.env.locals m/\∀(i:Nat) (x:Str) (v:V),X.N[i]?=some x->σ[i]?=some (some v)->Vis X.env.scope x->∃u,RelV v u/\Look X.env s.heap m x u
 cell:∀x c,X.env.cells.lookup x=some c->∃v,s.heap.IsCell c v
 free:H X.env.locals=none
 freeC:∀x c,X.env.cells.lookup x=some c->H c=none
 pin:∀p∈X.pn++pins,s.heap.get? p.1=some p.2/\H p.1=none/\p.1≠X.env.locals/\p.1 ∉ X.fs/\∀v,p.2.data≠.cell v
 hok:HOk X.prog X.w H s.heap
 len:σ.length=X.N.length
section
variable{X:Cx}{pins:List (Qh×Obj)}{σ:List (Option V)}{H H':Hp}{s:Qi}{h':Qz}
theorem Cx.Ok.Lg (ok:X.Ok){b:Qh}{o:Obj}(e:X.base.get? b=some o):b ∉ X.fs:=fun hb=>by have:=(ok.qE.mem hb).1;rw[e]at this;cases this
theorem Inv.bs (I:Inv X pins σ H s):∀b o,X.base.get? b=some o->s.heap.get? b=some o/\H b=none:=fun b o e=>
 ⟨I.base.keep b o (I.ok.bs b o e).1 (I.ok.bs b o e).2 (I.ok.Lg e) (I.ok.noex b o e),I.base.free b o (I.ok.bs b o e).1 (I.ok.bs b o e).2 (I.ok.noex b o e)⟩
theorem Inv.bk (I:Inv X pins σ H s):∀b o,X.base.get? b=some o->s.heap.get? b=some o:=fun b o e=>(I.bs b o e).1
theorem Inv.mod (I:Inv X pins σ H s):Mod X.K X.mg X.base:=I.ok.mod
theorem Inv.kIn (I:Inv X pins σ H s):X.K.In s.heap:=I.ok.mod.kin.keeps I.bk
theorem Inv.lt (I:Inv X pins σ H s):X.env.locals<s.heap.objs.size:=let ⟨_,hn,_⟩:=I.loc;hn.lt
theorem Inv.sz (I:Inv X pins σ H s):X.s₀.heap.objs.size<=s.heap.objs.size:=m_ I.ok.above (K_ I.lt)
theorem Inv.Lk (I:Inv X pins σ H s){a:Qh}(h:s.heap.objs.size<=a):a ∉ X.fs:=fun hb=>by obtain⟨_,o,ho,_⟩:=I.ok.qE.mem hb;exact absurd (y_ (Qr ho) (m_ I.sz h)) (Ms _)
theorem Inv.cne (I:Inv X pins σ H s):∀x c,X.env.cells.lookup x=some c->c≠X.env.locals:=fun x c e z=>by obtain⟨v,o,ho,hd⟩:=I.cell x c e;obtain⟨m,⟨o',es,ep,ho',hd',_⟩,_⟩:=I.loc;rw[z,ho']at ho;cases ho;rw[hd']at hd;cases hd
theorem Inv.qE (I:Inv X pins σ H s):s.heap.FunFrames X.base X.outer:=by
 have all:∀(l:List Env),(∀b∈frs l,b∈X.fs)->X.s₀.heap.FunFrames X.base l->s.heap.FunFrames X.base l:=by
  intro l;induction l with
  |nil=>intro _ _;trivial
  |cons env r ih=>
   intro hs hl;obtain⟨hk,⟨L,o,hf,hn,ho,hd⟩,hr⟩:=hl;have hL:L∈X.fs:=hs L (by unfold frs;rw[N4,hf];exact p_);obtain⟨sl,e⟩:=I.base.slot L o ho (I.ok.frf L hL) hL fun z=>I.ok.exfs L z hL;exact⟨hk,⟨L,_,hf,hn,e,hd⟩,ih (fun b hb=>hs b (by unfold frs;rw[N4,hf];exact l_ _ hb)) hr⟩
 exact all X.outer (fun _ hb=>hb) I.ok.qE
theorem Inv.stack (I:Inv X pins σ H s):s.heap.FunFrames X.base X.stack:=by
 rcases I.ok.stk with e|⟨e,hf⟩
 ·rw[e];exact I.qE
 rw[e];obtain⟨m,hn,_⟩:=I.loc;refine .cons (by rw[I.ok.kind];decide) hf hn ?_ I.qE;exact Heap.get?_none_of_le (m_ I.ok.bsz I.ok.above)
theorem Inv.wz (I:Inv X pins σ H s):∀b∈frs X.stack,b∈X.env.locals::X.fs:=fun b hb=>by
 rcases I.ok.stk with e|⟨e,hf⟩
 ·rw[e]at hb;exact l_ _ hb
 rw[e]at hb;unfold frs at hb;rw[N4,hf]at hb;exact hb
theorem Inv.zJ (I:Inv X pins σ H s):∀b∈frs X.stack,H b=none:=fun b hb=>by
 rcases n_.mp (I.wz b hb)with e|hb
 ·rw[e];exact I.free
 obtain⟨_,o,ho,_⟩:=I.ok.qE.mem hb;exact I.base.free b o ho (I.ok.frf b hb) fun z=>I.ok.exfs b z hb
theorem Inv.step {g':Array Vq}{t':Nat}{d':WB}{ch:List Qh}(I:Inv X pins σ H s)
  (hch:∀b∈ch,(b∈X.ex\/X.s₀.heap.objs.size<=b)/\b≠X.env.locals/\(∀x c,X.env.cells.lookup x=some c->c≠b)/\∀p∈X.pn++pins,p.1≠b)
  (keep:∀b o,b≠X.env.locals->b ∉ X.fs->b ∉ ch->s.heap.get? b=some o->H b=none->h'.get? b=some o)
  (slot:∀b o,b≠X.env.locals->b∈X.fs->b ∉ ch->s.heap.get? b=some o->H b=none->∃sl,h'.get? b=some {o with slots:=sl}) (free:∀b o,b ∉ ch->s.heap.get? b=some o->H b=none->H' b=none)
  (there:∀b o,b ∉ ch->s.heap.get? b=some o->∃o',h'.get? b=some o')
  (tups:∀b xs,H b=some (.tup xs)->H' b=some (.tup xs)) (frzs:∀b o u,H b=some (.frz o u)->H' b=some (.frz o u)) (tbls:∀b ps,H b=some (.tbl ps)->∃more,H' b=some (.tbl (ps++more)))
  (ns:∀m,s.heap.Ns X.env.locals m->h'.Ns X.env.locals m) (hok:HOk X.prog X.w H' h') (hg:S7 g') :
  Inv X pins σ H' {s with heap:=h',gens:=g',drawn:=d',toks:=t'}:=by
 have neL:∀b o,X.s₀.heap.get? b=some o->b≠X.env.locals:=fun b o e=>x_ (y_ (Qr e) I.ok.above);have neC:∀b o,X.s₀.heap.get? b=some o->b ∉ X.ex->b ∉ ch:=fun b o e hx hb=>by
  rcases(hch b hb).1 with z|z
  ·exact hx z
  exact absurd (y_ (Qr e) z) (Ms _)
 have cellK:∀x c,X.env.cells.lookup x=some c->∀v,s.heap.IsCell c v->h'.IsCell c v:=fun x c e v ⟨o,ho,hd⟩=>by
  have nch:c ∉ ch:=fun z=>(hch c z).2.2.1 x c e rfl;by_cases hc:c∈X.fs
  ·obtain⟨sl,q⟩:=slot c o (I.cne x c e) hc nch ho (I.freeC x c e);exact⟨_,q,hd⟩
  exact⟨o,keep c o (I.cne x c e) hc nch ho (I.freeC x c e),hd⟩
 refine⟨I.ok,I.os,hg,⟨fun b o e n hb hx=>?_,fun b o e n hb hx=>?_,fun b o e n hx=>?_,fun b o e hx=>?_,fun b xs e=>tups b xs (I.base.tups b xs e),fun b o xs e=>frzs b o xs (I.base.frzs b o xs e),fun b ps e=>?_⟩,?_,fun x c e=>?_,?_,fun x c e=>?_,fun p hp=>?_,hok,I.len⟩
 ·exact keep b o (neL b o e) hb (neC b o e hx) (I.base.keep b o e n hb hx) (I.base.free b o e n hx)
 ·obtain⟨sl,e1⟩:=I.base.slot b o e n hb hx;obtain⟨sl',e2⟩:=slot b _ (neL b o e) hb (neC b o e hx) e1 (I.base.free b o e n hx);exact⟨sl',e2⟩
 ·obtain⟨o',e1⟩:=I.base.there b o e hx;exact free b o' (neC b o e hx) e1 (I.base.free b o e n hx)
 ·obtain⟨o',e1⟩:=I.base.there b o e hx;exact there b o' (neC b o e hx) e1
 ·obtain⟨m1,e1⟩:=I.base.tbls b ps e;obtain⟨m2,e2⟩:=tbls b _ e1;exact⟨m1++m2,by rw[e2,Array.append_assoc]⟩
 ·obtain⟨m,hn,hl⟩:=I.loc;refine⟨m,ns m hn,fun i x v e1 e2 e3=>?_⟩;obtain⟨u,r,l⟩:=hl i x v e1 e2 e3;refine⟨u,r,?_⟩;rcases l with l|⟨k,c,e,z⟩
  ·exact .inl l
  exact .inr ⟨k,c,e,cellK x c e _ z⟩
 ·obtain⟨v,z⟩:=I.cell x c e;exact⟨v,cellK x c e v z⟩
 ·obtain⟨m,⟨o,_,_,ho,_⟩,_⟩:=I.loc;exact free _ o (fun z=>(hch _ z).2.1 rfl) ho I.free
 ·obtain⟨v,o,ho,hd⟩:=I.cell x c e;exact free c o (fun z=>(hch c z).2.2.1 x c e rfl) ho (I.freeC x c e)
 obtain⟨e,n,ne,nf,d⟩:=I.pin p hp;have nch:p.1 ∉ ch:=fun z=>(hch p.1 z).2.2.2 p hp rfl;exact⟨keep p.1 p.2 ne nf nch e n,free p.1 p.2 nch e n,ne,nf,d⟩
theorem Inv.un {t':Nat}(I:Inv X pins σ H s)(u:Un X.fs [] H H' s.heap h')(hok:HOk X.prog X.w H' h'):Inv X pins σ H' {s with heap:=h',toks:=t'}:=by
 obtain⟨m,⟨o,es,ep,ho,r⟩,_⟩:=id I.loc;obtain⟨sl,hL⟩:=u.any ho I.free (by simp);exact I.step (g':=s.gens) (d':=s.drawn) (ch:=[]) (fun _ z=>nomatch z) (fun b o _ hb _ e n=>u.keep b o e n hb (by simp)) (fun b o _ hb _ e n=>u.slot b o e n hb (by simp)) (fun b o _ e n=>u.free b o e n (by simp)) (fun b o _ e=>u.there b o e (by simp)) u.tups u.frzs u.tbls (fun m' hm=>by obtain⟨o',es',ep',ho',r'⟩:=hm;rw[ho]at ho';cases ho';exact⟨_,es',ep',hL,r'⟩) hok I.bare
theorem Inv.call {g':Array Vq}{t':Nat}{d':WB}{ch:List Qh}(I:Inv X pins σ H s)(u:Un (frs X.stack) ch H H' s.heap h')(hok:HOk X.prog X.w H' h')(hg:S7 g')
  (hch:∀b∈ch,(b∈X.ex\/X.s₀.heap.objs.size<=b)/\b≠X.env.locals/\(∀x c,X.env.cells.lookup x=some c->c≠b)/\∀p∈X.pn++pins,p.1≠b) :
  Inv X pins σ H' {s with heap:=h',gens:=g',drawn:=d',toks:=t'}:=by
 obtain⟨m,⟨o,es,ep,ho,r⟩,_⟩:=id I.loc;obtain⟨sl,hL⟩:=u.any ho I.free fun z=>(hch _ z).2.1 rfl;exact I.step (ch:=ch) hch (fun b o hL hb hc e n=>u.keep b o e n (fun z=>(n_.mp (I.wz b z)).elim hL hb) hc) (fun b o _ _ hc e n=>u.any e n hc) (fun b o hc e n=>u.free b o e n hc) (fun b o hc e=>u.there b o e hc) u.tups u.frzs u.tbls (fun m' hm=>by obtain⟨o',es',ep',ho',r'⟩:=hm;rw[ho]at ho';cases ho';exact⟨_,es',ep',hL,r'⟩) hok hg
theorem Inv.turned {t':Nat}{it:Qh}(I:Inv X pins σ H s)(k:∀b o,b≠it->s.heap.get? b=some o->h'.get? b=some o)(hn:H it=none)(hL:it≠X.env.locals)
  (h1:it∈X.ex\/X.s₀.heap.objs.size<=it) (h2:∀x c,X.env.cells.lookup x=some c->c≠it) (h3:∀p∈X.pn++pins,p.1≠it):Inv X pins σ H {s with heap:=h',toks:=t'}:=by
 have nit:∀b u,H b=some u->b≠it:=fun b u e z=>by rw[z,hn]at e;cases e
 refine I.step (g':=s.gens) (d':=s.drawn) (ch:=[it]) (fun b hb=>?_) (fun b o _ _ hc e _=>k b o (fun z=>hc (by simp[z])) e) (fun b o _ _ hc e _=>⟨o.slots,k b o (fun z=>hc (by simp[z])) e⟩) (fun _ _ _ _ n=>n)
  (fun b o hc e=>⟨o,k b o (fun z=>hc (by simp[z])) e⟩) (fun _ _ e=>e) (fun _ _ _ e=>e) (fun b ps e=>⟨#[],by rw[e];simp⟩) (fun m hm=>?_) (fun b u e=>?_) I.bare
 ·have e:b=it:=by simpa using hb
  subst e;exact⟨h1,hL,h2,h3⟩
 ·obtain⟨o,es,ep,ho,r⟩:=hm;exact⟨o,es,ep,k _ o (R6 hL) ho,r⟩
 refine(I.hok b u e).oJ (fun c v hc q=>k c v ?_ q) (fun _ q=>q) fun _ _ q=>q;rcases hc with z|z
 ·rw[z];exact nit b u e
 exact nit c _ z
theorem Inv.tok (I:Inv X pins σ H s)(t:Nat):Inv X pins σ H {s with toks:=t}:=I.un (h':=s.heap) (t':=t) Un.refl I.hok
theorem Inv.kept {t':Nat}(I:Inv X pins σ H s)(k:∀b u,s.heap.get? b=some u->h'.get? b=some u):Inv X pins σ H {s with heap:=h',toks:=t'}:=I.un (Un.kept k) (I.hok.kept k)
theorem Inv.laid {a:Qh}{o:HO}{t':Nat}(I:Inv X pins σ H s)(k:∀b u,s.heap.get? b=some u->h'.get? b=some u)(hp:s.heap.objs.size<=a)(new:ba X.prog X.w (upd H a o) h' a o) :
  Inv X pins σ (upd H a o) {s with heap:=h',toks:=t'}:=I.un (Un.laid k hp (I.hok.fresh hp)) (I.hok.laid k hp new)
theorem Inv.write {x e:Qh}{o:HO}{t':Nat}(I:Inv X pins σ H s)(mu:Mut (H x))(he:e=x\/H e=some (.own x))(k:∀b u,b≠e->s.heap.get? b=some u->h'.get? b=some u)(heo:∃u,h'.get? e=some u)
  (new:ba X.prog X.w (upd H x o) h' x o):Inv X pins σ (upd H x o) {s with heap:=h',toks:=t'}:=I.un (Un.write mu he k heo) (I.hok.write mu he k heo new)
theorem Inv.zN {pins':List (Qh×Obj)}(I:Inv X pins σ H s)(h:∀p∈pins',s.heap.get? p.1=some p.2/\H p.1=none/\p.1≠X.env.locals/\p.1 ∉ X.fs/\∀v,p.2.data≠.cell v):Inv X pins' σ H s:=
 ⟨I.ok,I.os,I.bare,I.base,I.loc,I.cell,I.free,I.freeC,fun p hp=>(v_.mp hp).elim (fun z=>I.pin p (w_ _ z)) (h p),I.hok,I.len⟩
theorem vi{N:List Str}(hN:N.Nodup){i j:Nat}{x:Str}(a:N[i]?=some x)(b:N[j]?=some x):i=j:=by obtain⟨h1,e1⟩:=d_.mp a;obtain⟨h2,e2⟩:=d_.mp b;exact(List.getElem_inj hN).mp (e1.trans e2.symm)
theorem rS{M:Se}{A:QE}{E:Qf->Qi->Prop}{i:Nat}{x:Str}{v:V}{u:Qf}{Q:Unit->Qi->Prop}(I:Inv X pins σ H s)(hN:X.N.Nodup)(hi:X.N[i]?=some x)(hx:Loc X.env.scope x)(r:RelV v u)
  (h:∀s',Inv X pins (σ.set i (some v)) H s'->(∃a,Q7 a s.heap s'.heap/\(a=X.env.locals\/X.env.cells.lookup x=some a))->Q () s') (hf:X.fn x=true\/X.env.scope.names.lookup x=some .local:=by first|exact .inl rfl|exact .inr rfl|assumption):Qn M A (Wh X.env x u) Q E s:=by
 obtain⟨m,hn,hl⟩:=id I.loc;have hcls:(X.env.scope.kind == .class || (X.env.scope.kind == .module&&X.env.locals != X.env.globals))=false:=by rw[I.ok.kind];rfl
 have hiσ:i<σ.length:=by rw[I.len];exact(d_.mp hi).1
 have cne:=I.cne;have tracked:∀{a:Qh}{h':Qz},(∃o,s.heap.get? a=some o/\H a=none)->Q7 a s.heap h'->HOk X.prog X.w H h':=fun{a h'} ha hs b ob e=>by
  obtain⟨_,_,hfree⟩:=ha;refine(I.hok b ob e).oJ (fun c w' hc q=>(hs.2 c ?_).trans q) (fun _ q=>q) fun _ _ q=>q;rintro rfl;rcases hc with rfl|hc
  ·rw[hfree]at e;cases e
  rw[hfree]at hc;cases hc
 rcases hx with hk|hk
 ·refine wpAny_storeName_local hk hn (fun h' hn' hs=>?_) hcls;obtain⟨oL,_,_,hoL,_⟩:=id hn;refine h _ ⟨I.ok,I.os,I.bare,⟨fun b o e n hb hx=>?_,fun b o e n hb hx=>?_,I.base.free,fun b o e hx=>?_,I.base.tups,I.base.frzs,I.base.tbls⟩,⟨_,hn',fun j y v' e1 e2 e3=>?_⟩,fun y c e=>?_,I.free,I.freeC,fun p hp=>?_,tracked ⟨oL,hoL,I.free⟩ hs,by simpa using I.len⟩ ⟨_,hs,.inl rfl⟩
  ·exact(hs.2 b (x_ (y_ (Qr e) I.ok.above))).trans (I.base.keep b o e n hb hx)
  ·obtain⟨sl,e1⟩:=I.base.slot b o e n hb hx;exact⟨sl,(hs.2 b (x_ (y_ (Qr e) I.ok.above))).trans e1⟩
  ·obtain⟨o',e1⟩:=I.base.there b o e hx;exact⟨o',(hs.2 b (x_ (y_ (Qr e) I.ok.above))).trans e1⟩
  ·by_cases hj:j=i
   ·subst hj;rw[hi]at e1;cases e1;rw[NJ hiσ]at e2;cases e2;exact⟨u,r,.inl ⟨hk,by simp⟩⟩
   rw[NT (R6 hj)]at e2;obtain⟨u',r',q⟩:=hl j y v' e1 e2 e3;refine⟨u',r',?_⟩;rcases q with⟨k,e⟩|⟨k,c,e,z⟩
   ·refine .inl ⟨k,?_⟩;have:y≠x:=fun e=>hj (vi hN e1 (e▸hi));simp[this,e]
   exact .inr ⟨k,c,e,z.sameBut hs (cne y c e)⟩
  ·obtain⟨w',z⟩:=I.cell y c e;exact⟨w',z.sameBut hs (cne y c e)⟩
  obtain⟨e,n,ne,nf,d⟩:=I.pin p hp;exact⟨(hs.2 p.1 ne).trans e,n,ne,nf,d⟩
 have hfn:X.fn x=true:=by
  rcases hf with z|z
  ·exact z
  rw[z]at hk;cases hk
 obtain⟨c,hc⟩:=I.ok.has x (.inl hk);obtain⟨w',z⟩:=I.cell x c hc;refine wpAny_storeName_cell I.ok.kind hk hc z (fun h' hc' hs=>?_);obtain⟨oc,hoc,hocd⟩:=id z;refine h {s with heap:=h'} ⟨I.ok,I.os,I.bare,⟨fun b o e n hb hx=>?_,fun b o e n hb hx=>?_,I.base.free,fun b o e hx=>?_,I.base.tups,I.base.frzs,I.base.tbls⟩,⟨m,hn.sameBut hs (R6 (cne x c hc)),fun j y v' e1 e2 e3=>?_⟩,fun y c' e=>?_,I.free,I.freeC,fun p hp=>?_,tracked ⟨oc,hoc,I.freeC x c hc⟩ hs,by simpa using I.len⟩ ⟨c,hs,.inr hc⟩
 ·exact(hs.2 b (x_ (y_ (Qr e) (I.ok.cab x c hfn hc)))).trans (I.base.keep b o e n hb hx)
 ·obtain⟨sl,e1⟩:=I.base.slot b o e n hb hx;exact⟨sl,(hs.2 b (x_ (y_ (Qr e) (I.ok.cab x c hfn hc)))).trans e1⟩
 ·obtain⟨o',e1⟩:=I.base.there b o e hx;exact⟨o',(hs.2 b (x_ (y_ (Qr e) (I.ok.cab x c hfn hc)))).trans e1⟩
 ·by_cases hj:j=i
  ·subst hj;rw[hi]at e1;cases e1;rw[NJ hiσ]at e2;cases e2;exact⟨u,r,.inr ⟨.inl hk,c,hc,hc'⟩⟩
  rw[NT (R6 hj)]at e2;obtain⟨u',r',q⟩:=hl j y v' e1 e2 e3;refine⟨u',r',?_⟩;rcases q with q|⟨k,c',e,z'⟩
  ·exact .inl q
  refine .inr ⟨k,c',e,z'.sameBut hs ?_⟩;rintro rfl;exact hj (vi hN e1 (I.ok.inj _ _ _ e hc▸hi))
 ·by_cases hcc:c'=c
  ·subst hcc;exact⟨_,hc'⟩
  obtain⟨w2,z2⟩:=I.cell y c' e;exact⟨w2,z2.sameBut hs hcc⟩
 obtain⟨e,n,ne,nf,d⟩:=I.pin p hp;refine⟨(hs.2 p.1 ?_).trans e,n,ne,nf,d⟩;intro q;rw[q,hoc]at e;have q':oc=p.2:=G' e;exact d w' (by rw[<-q'];exact hocd)
theorem pM{M:Se}{A:QE}{E:Qf->Qi->Prop}{i:Nat}{x:Str}{v:V}{u:Qf}{Q:Unit->Qi->Prop}(I:Inv X pins σ H s)(hN:X.N.Nodup)(hi:X.N[i]?=some x)(hx:Loc X.env.scope x)(r:RelV v u)
  (h:∀s',Inv X pins (σ.set i (some v)) H s'->Q () s') (hf:X.fn x=true\/X.env.scope.names.lookup x=some .local:=by first|exact .inl rfl|exact .inr rfl|assumption):Qn M A (Wh X.env x u) Q E s:=
 rS I hN hi hx r (fun s' I' _=>h s' I') hf
theorem Inv.FE {s':Qi}{ch:List Qh}(I:Inv X pins σ H s)(ho:s'.os=s.os)(u:Un (frs X.stack) ch H H' s.heap s'.heap)(hok:HOk X.prog X.w H' s'.heap)(hg:S7 s'.gens)
  (hch:∀b∈ch,(b∈X.ex\/X.s₀.heap.objs.size<=b)/\b≠X.env.locals/\(∀x c,X.env.cells.lookup x=some c->c≠b)/\∀p∈X.pn++pins,p.1≠b):Inv X pins σ H' s':=by
 obtain⟨h',g',d',t',o'⟩:=s';have e:o'=s.os:=ho;subst e;exact I.call (g':=g') (t':=t') (d':=d') u hok hg hch
end
abbrev XK:=Qf->Option Qh->Hp->Prop
abbrev St:=List (Option V)
abbrev VK:=V->Hp->Prop
abbrev TE:=St->Hp->VK->Prop
abbrev TT:=St->Hp->(Bool->Hp->Prop)->Prop
abbrev TA:=St->Hp->(List V->Hp->Prop)->Prop
structure Ends where
 nx:St->Hp->Prop
 rt:VK
 bk:St->Hp->Prop:=fun _ _=>False
 ct:St->Hp->Prop:=fun _ _=>False
abbrev TS:=Ends->St->Hp->Prop
noncomputable def EP(X:Cx)(pins:List (Qh×Obj))(σ:St)(Q:VK)(u:Qf)(s':Qi):Prop:=∃v H',Inv X pins σ H' s'/\RelV v u/\Q v H'
noncomputable def TP(X:Cx)(pins:List (Qh×Obj))(σ:St)(Q:Bool->Hp->Prop)(b:Bool)(s':Qi):Prop:=∃H',Inv X pins σ H' s'/\Q b H'
noncomputable def AP(X:Cx)(pins:List (Qh×Obj))(σ:St)(Q:List V->Hp->Prop)(us:List Qf)(s':Qi):Prop:=∃vs H',Inv X pins σ H' s'/\Vals vs us/\Q vs H'
noncomputable def SP(X:Cx)(pins:List (Qh×Obj))(D:Ends)(f:Flow)(s':Qi):Prop:=
 match f with
 | .next=>∃ σ' H',Inv X pins σ' H' s'/\D.nx σ' H'
 | .brk=>∃ σ' H',Inv X pins σ' H' s'/\D.bk σ' H'
 | .cont=>∃ σ' H',Inv X pins σ' H' s'/\D.ct σ' H'
 | .ret u=>∃v σ' H',Inv X pins σ' H' s'/\RelV v u/\D.rt v H'
noncomputable def PE(X:Cx)(e:Qx)(t:TE):Prop:=
 ∀(pins:List (Qh×Obj)) (s:Qi) (σ:St) (H:Hp) (Q:VK),Inv X pins σ H s->t σ H Q->Qn (Qs X.prog X.w) X.A (QO e X.env) (EP X pins σ Q) X.xe s
noncomputable def PT(X:Cx)(e:Qx)(t:TT):Prop:=
 ∀(pins:List (Qh×Obj)) (s:Qi) (σ:St) (H:Hp) (Q:Bool->Hp->Prop),Inv X pins σ H s->t σ H Q->Qn (Qs X.prog X.w) X.A (U1 e X.env (QO e X.env)) (TP X pins σ Q) X.xe s
noncomputable def PW(X:Cx)(e:Qx)(t:TT):Prop:=
 ∀(whole:Sem Qf) (pins:List (Qh×Obj)) (s:Qi) (σ:St) (H:Hp) (Q:Bool->Hp->Prop),Inv X pins σ H s->t σ H Q->Qn (Qs X.prog X.w) X.A (U1 e X.env whole) (TP X pins σ Q) X.xe s
theorem PW.pt {X:Cx}{e:Qx}{t:TT}(h:PW X e t):PT X e t:=h _
noncomputable def PA(X:Cx)(es:List Qx)(t:TA):Prop:=
 ∀(pos:Pos) (pins:List (Qh×Obj)) (s:Qi) (σ:St) (H:Hp) (Q:List V->Hp->Prop),Inv X pins σ H s->t σ H Q->Qn (Qs X.prog X.w) X.A (spliced (Si pos (QA es X.env))) (AP X pins σ Q) X.xe s
noncomputable def PS(X:Cx)(st:QR)(t:TS):Prop:=
 ∀(pins:List (Qh×Obj)) (s:Qi) (σ:St) (H:Hp) (D:Ends),Inv X pins σ H s->t D σ H->Qn (Qs X.prog X.w) X.A (exec st X.env) (SP X pins D) X.xe s
noncomputable def PSs(X:Cx)(st:List QR)(t:TS):Prop:=
 ∀(pins:List (Qh×Obj)) (s:Qi) (σ:St) (H:Hp) (D:Ends),Inv X pins σ H s->t D σ H->Qn (Qs X.prog X.w) X.A (execs st X.env) (SP X pins D) X.xe s
theorem thn{α:Type}{t:Sem α}{Q Q':α->Qi->Prop}{M:Se}{A:QE}{E:Qf->Qi->Prop}{s:Qi}(h:Qn M A t Q E s)(hQ:∀a s,Q a s->Q' a s):Qn M A t Q' E s:=QM h hQ fun _ _ x=>x
section
variable{X:Cx}
noncomputable def GC(i:Nat):TE:=fun σ H Q=>∃v,σ[i]?=some (some v)/\Q v H
noncomputable def tC(v:V):TE:=fun _ H Q=>Q v H
theorem jr{i:Nat}{x:Str}{pos:Pos}(hN:X.N[i]?=some x)(hv:Vis X.env.scope x)(hd:(x ==("__debug__":Str))=false:=by decide)(hcd:(x ==("__classdict__":Str))=false:=by decide):PE X (.Name x pos) (GC i):=by
 intro pins s σ H Q I h;obtain⟨v,e,h⟩:=h;obtain⟨m,hn,hl⟩:=I.loc;obtain⟨u,r,l⟩:=hl i x v hN e hv;have fin:EP X pins σ Q u s:=⟨v,H,I,r,h⟩;rcases l with⟨hk,hm⟩|⟨hk,c,hc,hcell⟩
 ·exact VE (UK I.ok.kind hk hn hm fin) hd
 rcases hk with hk|hk
 ·exact VE (UY I.ok.kind hk hc hcell fin) hd
 exact VE (wpAny_loadName_free I.ok.kind hk hc hcell fin hcd) hd
theorem bZ{i j pos}:PE X (.Constant (.int i) j pos) (tC (.int i)):=fun _ _ _ H _ I h=>wpAny_Constant_int ⟨.int i,H,I.tok _,⟨_,rfl⟩,h⟩
theorem KC{b j pos}:PE X (.Constant (.bool b) j pos) (tC (.bl b)):=fun _ _ _ H _ I h=>Wm ⟨.bl b,H,I,rfl,h⟩
theorem Ie{j pos}:PE X (.Constant .none j pos) (tC .non):=fun _ _ _ H _ I h=>Constant_none ⟨.non,H,I,rfl,h⟩
theorem jq{x j pos}:PE X (.Constant (.str x) j pos) (tC (.str x)):=fun _ _ _ H _ I h=>Calls.Constant_str ⟨.str x,H,I.tok _,⟨_,rfl⟩,h⟩
noncomputable def Gl(X:Cx)(x:Str):Prop:=X.env.kindOf x=some .globalImplicit
theorem yI{E:Qf->Qi->Prop}{pins:List (Qh×Obj)}{s:Qi}{σ:St}{H:Hp}{x:Str}{u:Qf}{pos:Pos}{Q:Qf->Qi->Prop}(I:Inv X pins σ H s)(hg:Gl X x)(hm:X.mg x=some u)(h:Q u s)
  (hd:(x ==("__debug__":Str))=false:=by decide):Qn (Qs X.prog X.w) X.A (QO (.Name x pos) X.env) Q E s:=
 TC I.ok.kind hg (Calls.loadGlobal_global (by rw[I.ok.glob];exact I.mod.glob.keeps I.bk) hm h) hd
theorem eS{E:Qf->Qi->Prop}{pins:List (Qh×Obj)}{s:Qi}{σ:St}{H:Hp}{x:Str}{u:Qf}{pos:Pos}{Q:Qf->Qi->Prop}(I:Inv X pins σ H s)(hg:Gl X x)(hm:X.mg x=none)(hv:RL x=some u)(h:Q u s)
  (hn:x≠"__name__":=by decide) (hd:(x ==("__debug__":Str))=false:=by decide):Qn (Qs X.prog X.w) X.A (QO (.Name x pos) X.env) Q E s:=by
 obtain⟨mb,h1,h2⟩:=I.mod.blt;exact TC I.ok.kind hg (Calls.loadGlobal_builtin (by rw[I.ok.glob];exact I.mod.glob.keeps I.bk) hm (by rw[I.ok.blt];exact h1.keeps I.bk) ((h2 x hn).trans hv) h) hd
theorem EL{x:Str}{v:V}{u:Qf}{pos:Pos}(hg:Gl X x)(hm:X.mg x=some u)(r:RelV v u)(hd:(x ==("__debug__":Str))=false:=by decide):PE X (.Name x pos) (tC v):=
 fun _ _ _ H _ I h=>yI I hg hm ⟨v,H,I,r,h⟩ hd
theorem EW{x:Str}{v:V}{u:Qf}{pos:Pos}(hg:Gl X x)(hm:X.mg x=none)(hv:RL x=some u)(r:RelV v u)(hn:x≠"__name__":=by decide)(hd:(x ==("__debug__":Str))=false:=by decide):PE X (.Name x pos) (tC v):=
 fun _ _ _ H _ I h=>eS I hg hm hv ⟨v,H,I,r,h⟩ hn hd
variable{a b:Qx}{ta tb:TE}{pos:Pos}
variable{tA tB':TT}{rest:List Qx}
noncomputable def KG(t u:TT):TT:=fun σ H Q=>t σ H fun c H1=>if c=true then u σ H1 Q else Q false H1
noncomputable def tOr(t u:TT):TT:=fun σ H Q=>t σ H fun c H1=>if c=true then Q true H1 else u σ H1 Q
noncomputable def KZ(t:TT):TT:=fun σ H Q=>t σ H fun c H1=>Q (!c) H1
theorem DB(ha:PT X a tA):PW X (.BoolOp .And [a] pos) tA:=by
 intro wh pins s σ H Q I h;refine isTrue_and (thn (ha pins s σ H Q I h) fun c s1 e=>?_);cases c with
 |true=>exact isTrue_and_nil e
 |false=>exact e
theorem Hm(ha:PT X a tA):PW X (.BoolOp .Or [a] pos) tA:=by
 intro wh pins s σ H Q I h;refine isTrue_or (thn (ha pins s σ H Q I h) fun c s1 e=>?_);cases c with
 |false=>exact isTrue_or_nil e
 |true=>exact e
theorem GQ(ha:PT X a tA)(hb:PW X (.BoolOp .And (b::rest) pos) tB'):PW X (.BoolOp .And (a::b::rest) pos) (KG tA tB'):=by
 intro wh pins s σ H Q I h;refine isTrue_and (thn (ha pins s σ H _ I h) ?_);rintro c s1 ⟨H1,I1,q1⟩;cases c with
 |true=>exact hb wh pins s1 σ H1 Q I1 q1
 |false=>exact⟨H1,I1,q1⟩
theorem Jg(ha:PT X a tA)(hb:PW X (.BoolOp .Or (b::rest) pos) tB'):PW X (.BoolOp .Or (a::b::rest) pos) (tOr tA tB'):=by
 intro wh pins s σ H Q I h;refine isTrue_or (thn (ha pins s σ H _ I h) ?_);rintro c s1 ⟨H1,I1,q1⟩;cases c with
 |true=>exact⟨H1,I1,q1⟩
 |false=>exact hb wh pins s1 σ H1 Q I1 q1
theorem Hl(ha:PT X a tA):PT X (.UnaryOp .Not a pos) (KZ tA):=by intro pins s σ H Q I h;exact isTrue_not (ha pins s σ H (fun c H1=>Q (!c) H1) I h)
noncomputable def IT(ta tb:TE):TE:=fun σ H Q=>ta σ H fun x H1=>∃c,x=.bl c/\if c=true then tb σ H1 Q else Q (.bl false) H1
noncomputable def Js(ta:TE):TE:=fun σ H Q=>ta σ H fun x H1=>∃c,x=.bl c/\Q (.bl (!c)) H1
theorem Ir{op}{t:TE}(h:PE X a t):PE X (.BoolOp op [a] pos) t:=fun pins s σ H Q I hw=>BoolOp_one (h pins s σ H Q I hw)
theorem IF(ha:PE X a ta)(hb:PE X (.BoolOp .And (b::rest) pos) tb):PE X (.BoolOp .And (a::b::rest) pos) (IT ta tb):=by
 intro pins s σ H Q I h;refine BoolOp_and (thn (ha pins s σ H _ I h) ?_);rintro v s1 ⟨x,H1,I1,r1,q1⟩;obtain⟨c,rfl,q1⟩:=q1;cases r1;refine RC ?_;cases c with
 |true=>exact hb pins s1 σ H1 Q I1 q1
 |false=>exact⟨.bl false,H1,I1,rfl,q1⟩
theorem II(ha:PE X a ta):PE X (.UnaryOp .Not a pos) (Js ta):=by intro pins s σ H Q I h;refine UnaryOp_ (thn (ha pins s σ H _ I h) ?_);rintro v s1 ⟨x,H1,I1,r1,q1⟩;obtain⟨c,rfl,q1⟩:=q1;cases r1;exact not_of (RC ⟨.bl (!c),H1,I1,rfl,q1⟩)
noncomputable def tIf(t:TT)(ta tb:TE):TE:=fun σ H Q=>t σ H fun c H1=>if c=true then ta σ H1 Q else tb σ H1 Q
theorem BZ{c:Qx}(hc:PT X c tA)(ha:PE X a ta)(hb:PE X b tb):PE X (.IfExp c a b pos) (tIf tA ta tb):=by
 intro pins s σ H Q I h;refine wpAny_IfExp (thn (hc pins s σ H _ I h) ?_);rintro d s1 ⟨H1,I1,q1⟩;cases d with
 |true=>exact ha pins s1 σ H1 Q I1 q1
 |false=>exact hb pins s1 σ H1 Q I1 q1
end
noncomputable def SqL(K:Qg)(H:Hp)(a:Qh)(xs:List V):Prop:=
 Rd H a (.lst xs)\/
  ∃(o:Obj) (its:Array Qf) (n:Nat),K.lookup a=some o/\o.cls=.type "list"/\o.dict=none/\o.data=.seq its n/\its.size<=sizeLine/\Vals xs its.toList
noncomputable def SqT(K:Qg)(H:Hp)(a:Qh)(xs:List V):Prop:=
 Rd H a (.tup xs)\/
  ∃(o:Obj) (its:Array Qf) (n:Nat),K.lookup a=some o/\o.cls=.type "tuple"/\o.data=.seq its n/\its.size<=sizeLine/\Vals xs its.toList
noncomputable def Lf:Qf->Option V
 | .none=>some .non
 | .bool b=>some (.bl b)
 | .int i _=>some (.int i)
 | .str x _=>some (.str x)
 | .bytes b _=>some (.byt b)
 | .float b _=>some (.flt b)
 | .ref a=>some (.ref a)
 | .type n=>some (.ty n)
 | _=>none
theorem RelV.abs {x:V}{u:Qf}(r:RelV x u):Lf u=some x:=by
 cases x with
 |non=>cases r;rfl
 |bl _=>cases r;rfl
 |int _=>obtain⟨t,rfl⟩:=r;rfl
 |str _=>obtain⟨t,rfl⟩:=r;rfl
 |byt _=>obtain⟨t,rfl⟩:=r;rfl
 |flt _=>obtain⟨t,rfl⟩:=r;rfl
 |ref _=>cases r;rfl
 |ty _=>cases r;rfl
theorem RelV.inj {x y:V}{u:Qf}(r:RelV x u)(q:RelV y u):x=y:=G' (r.abs.symm.trans q.abs)
theorem Vals.inj:∀{xs ys:List V}{us:List Qf},Vals xs us->Vals ys us->xs=ys
 | _,_,_,.nil,.nil=>rfl
 | _,_,_,.cons r t,.cons r' t'=>by rw[r.inj r',Vals.inj t t']
section
variable{X:Cx}{pins:List (Qh×Obj)}{σ:St}{H:Hp}{s:Qi}{a:Qh}{xs ys:List V}
theorem SqL.of {K:Qg}(h:H a=some (.lst xs)):SqL K H a xs:=.inl (.inl h)
theorem SqT.of {K:Qg}(h:H a=some (.tup xs)):SqT K H a xs:=.inl (.inl h)
theorem Inv.list (I:Inv X pins σ H s)(h:SqL X.K H a xs):∃its:List Qf,Vals xs its/\PlainL s.heap a its.toArray/\xs.length<=sizeLine:=by
 rcases h with h|⟨o,its,n,hk,hc,hd,hs,hz,r⟩
 ·obtain⟨z,its,n,r,e⟩:=h.ok I.hok;exact⟨its,r,⟨_,n,e,rfl,rfl,rfl⟩,z⟩
 refine⟨its.toList,r,⟨o,n,I.kIn a o hk,hc,hd,by simpa using hs⟩,?_⟩;have e:=r.length;simp only[gV]at e;lia
theorem Inv.tuple (I:Inv X pins σ H s)(h:SqT X.K H a xs):∃its:List Qf,Vals xs its/\WA s.heap a its.toArray/\xs.length<=sizeLine:=by
 rcases h with h|⟨o,its,n,hk,hc,hs,hz,r⟩
 ·obtain⟨z,its,r,p⟩:=h.ok I.hok;exact⟨its,r,p,z⟩
 refine⟨its.toList,r,⟨o,I.kIn a o hk,hc,n,by simpa using hs⟩,?_⟩;have e:=r.length;simp only[gV]at e;lia
theorem Inv.pV (I:Inv X pins σ H s)(h:SqL X.K H a xs)(h':SqL X.K H a ys):xs=ys:=by
 obtain⟨its,r,⟨o,n,e,_,_,d⟩,_⟩:=I.list h;obtain⟨its',r',⟨o',n',e',_,_,d'⟩,_⟩:=I.list h';rw[e]at e';cases e';rw[d]at d';injection d' with d1 _
 have:its=its':=by simpa using congrArg PR d1
 subst this;exact r.inj r'
theorem Inv.fv (I:Inv X pins σ H s)(h:SqT X.K H a xs)(h':SqT X.K H a ys):xs=ys:=by
 obtain⟨its,r,⟨o,e,_,n,d⟩,_⟩:=I.tuple h;obtain⟨its',r',⟨o',e',_,n',d'⟩,_⟩:=I.tuple h';rw[e]at e';cases e';rw[d]at d';injection d' with d1 _
 have:its=its':=by simpa using congrArg PR d1
 subst this;exact r.inj r'
end
abbrev Cx.ra (X:Cx)(E:Qf->Qi->Prop):Cx:={ X with xe:=E}
abbrev Cx.nox (X:Cx):Cx:=X.ra fun _ _=>False
theorem Cx.Ok.ra {X:Cx}(ok:X.Ok)(E:Qf->Qi->Prop):(X.ra E).Ok:=
 ⟨ok.mod,ok.kind,ok.glob,ok.blt,ok.above,ok.inj,ok.has,ok.cab,ok.hd,ok.frames,ok.stk,ok.exf,ok.bs,ok.bsz,ok.noex,ok.exfs,ok.qE,ok.frf⟩
theorem Cx.Ok.jv {X:Cx}{E:Qf->Qi->Prop}(ok:(X.ra E).Ok):X.Ok:=
 ⟨ok.mod,ok.kind,ok.glob,ok.blt,ok.above,ok.inj,ok.has,ok.cab,ok.hd,ok.frames,ok.stk,ok.exf,ok.bs,ok.bsz,ok.noex,ok.exfs,ok.qE,ok.frf⟩
section
variable{X:Cx}{pins:List (Qh×Obj)}{σ:St}{H:Hp}{s:Qi}{E:Qf->Qi->Prop}
theorem Inv.ra (I:Inv X pins σ H s)(E:Qf->Qi->Prop):Inv (X.ra E) pins σ H s:=⟨I.ok.ra E,I.os,I.bare,I.base,I.loc,I.cell,I.free,I.freeC,I.pin,I.hok,I.len⟩
theorem Inv.jv (I:Inv (X.ra E) pins σ H s):Inv X pins σ H s:=⟨I.ok.jv,I.os,I.bare,I.base,I.loc,I.cell,I.free,I.freeC,I.pin,I.hok,I.len⟩
theorem SP.jv {D:Ends}{f:Flow}{s':Qi}(h:SP (X.ra E) pins D f s'):SP X pins D f s':=by
 cases f with
 |next=>obtain⟨σ',H',I,q⟩:=h;exact⟨σ',H',I.jv,q⟩
 |brk=>obtain⟨σ',H',I,q⟩:=h;exact⟨σ',H',I.jv,q⟩
 |cont=>obtain⟨σ',H',I,q⟩:=h;exact⟨σ',H',I.jv,q⟩
 |ret u=>obtain⟨v,σ',H',I,r,q⟩:=h;exact⟨v,σ',H',I.jv,r,q⟩
theorem PSs.nox {st:List QR}{t:TS}(h:PSs X.nox st t):PSs X st t:=fun pins s σ H D I hw=>
 QM (h pins s σ H D (I.ra _) hw) (fun _ _ q=>q.jv) fun _ _ z=>QC z
end
section
variable{X:Cx}{st:QR}{rest:List QR}{t u:TS}{e:Qx}{te:TE}{pos:Pos}
noncomputable def JA:TS:=fun D σ H=>D.nx σ H
noncomputable def KI(t u:TS):TS:=fun D σ H=>t { D with nx:=u D} σ H
theorem um:PSs X [] JA:=fun _ _ σ H _ I h=>Ta ⟨σ,H,I,h⟩
theorem bL(h1:PS X st t)(h2:PSs X rest u):PSs X (st::rest) (KI t u):=by
 intro pins s σ H D I h;refine Vr (thn (h1 pins s σ H { D with nx:=u D} I h) fun f s1 q=>?_);cases f with
 |next=>
  obtain⟨σ',H',I',q⟩:=q;exact h2 pins s1 σ' H' D I' q
 |ret v=>exact q
 |brk=>exact q
 |cont=>exact q
theorem ng(h1:PS X st t):PSs X [st] t:=by
 intro pins s σ H D I h;refine Vr (thn (h1 pins s σ H D I h) fun f s1 q=>?_);cases f with
 |next=>exact Ta q
 |ret v=>exact q
 |brk=>exact q
 |cont=>exact q
theorem Inv.quiet {pins:List (Qh×Obj)}{σ:St}{H:Hp}{s:Qi}(I:Inv X pins σ H s):W_ X.env=false:=by simp[W_,I.ok.kind]
noncomputable def Je(te:TE):TS:=fun D σ H=>te σ H fun _ H1=>D.nx σ H1
theorem Ec(he:PE X e te)(hs:S8 e none pos.line X.env=pure false:=by rfl):PS X (.Expr e pos) (Je te):=by intro pins s σ H D I h;exact wpAny_Expr_any (thn (he pins s σ H _ I h) fun v s1 ⟨x,H1,I1,r1,q1⟩=>⟨σ,H1,I1,q1⟩) I.quiet hs
noncomputable def Ll(te:TE):TS:=fun D σ H=>te σ H D.rt
theorem tI(he:PE X e te):PS X (.Return (some e) pos) (Ll te):=by intro pins s σ H D I h;exact wpAny_Return_some (thn (he pins s σ H _ I h) fun v s1 ⟨x,H1,I1,r1,q1⟩=>⟨x,σ,H1,I1,r1,q1⟩)
noncomputable def L4(c:TT)(t u:TS):TS:=fun D σ H=>c σ H fun b H1=>if b=true then t D σ H1 else u D σ H1
theorem BW{c:Qx}{a b:List QR}{tc:TT}(hc:PT X c tc)(ha:PSs X a t)(hb:PSs X b u):PS X (.If c a b pos) (L4 tc t u):=by
 intro pins s σ H D I h;refine wpAny_If (thn (hc pins s σ H _ I h) ?_);rintro d s1 ⟨H1,I1,q1⟩;cases d with
 |true=>exact ha pins s1 σ H1 D I1 q1
 |false=>exact hb pins s1 σ H1 D I1 q1
end
abbrev TG:=V->St->Hp->(St->Hp->Prop)->Prop
abbrev TGs:=List V->St->Hp->(St->Hp->Prop)->Prop
noncomputable def PG(X:Cx)(target:Qx)(t:TG):Prop:=
 ∀(pins:List (Qh×Obj)) (s:Qi) (σ:St) (H:Hp) (v:V) (u:Qf) (Q:St->Hp->Prop),Inv X pins σ H s->RelV v u->t v σ H Q->
  Qn (Qs X.prog X.w) X.A (SW target X.env u) (fun _ s'=>∃ σ' H',Inv X pins σ' H' s'/\Q σ' H') X.xe s
noncomputable def PGs(X:Cx)(ts:List Qx)(t:TGs):Prop:=
 ∀(pins:List (Qh×Obj)) (s:Qi) (σ:St) (H:Hp) (vs:List V) (us:List Qf) (Q:St->Hp->Prop),Inv X pins σ H s->Vals vs us->t vs σ H Q->
  Qn (Qs X.prog X.w) X.A (assignInOrder ((RJ ts X.env).map (·.2)) us) (fun _ s'=>∃ σ' H',Inv X pins σ' H' s'/\Q σ' H') X.xe s
abbrev DE:=V->V->V->Hp->(Hp->Prop)->Prop
noncomputable def xn(X:Cx)(t:DE):Prop:=
 ∀(pins:List (Qh×Obj)) (s:Qi) (σ:St) (H:Hp) (o i v:V) (ov iv u:Qf) (Q:Hp->Prop),Inv X pins σ H s->RelV o ov->RelV i iv->RelV v u->t o i v H Q->
  Qn (Qs X.prog X.w) X.A (V3 ov iv u) (fun _ s'=>∃H',Inv X pins σ H' s'/\Q H') X.xe s
abbrev TIp:=V->V->Hp->VK->Prop
noncomputable def PIp(X:Cx)(op:T5)(t:TIp):Prop:=
 ∀(pins:List (Qh×Obj)) (s:Qi) (σ:St) (H:Hp) (x y:V) (v u:Qf) (Q:VK),Inv X pins σ H s->RelV x v->RelV y u->t x y H Q->
  Qn (Qs X.prog X.w) X.A (inplaceOp op v u) (EP X pins σ Q) X.xe s
section
variable{X:Cx}{pos:Pos}
noncomputable def yz(i:Nat):TG:=fun v σ H Q=>Q (σ.set i (some v)) H
theorem yG{i:Nat}{x:Str}(hN:X.N.Nodup)(hi:X.N[i]?=some x)(hx:Loc X.env.scope x)(hf:X.fn x=true\/X.env.scope.names.lookup x=some .local:=by first|exact .inl rfl|exact .inr rfl|assumption):PG X (.Name x pos) (yz i):=by intro pins s σ H v u Q I r h;exact Ve (pM I hN hi hx r (fun s' I'=>⟨_,H,I',h⟩) hf)
noncomputable def KL:TGs:=fun vs σ H Q=>vs=[]/\Q σ H
noncomputable def Jp(t:TG)(u:TGs):TGs:=fun vs σ H Q=>∃v r,vs=v::r/\t v σ H fun σ' H'=>u r σ' H' Q
theorem zA:PGs X [] KL:=by intro pins s σ H vs us Q I r h;obtain⟨e,h⟩:=h;subst e;cases r;exact assignInOrder_nil ⟨σ,H,I,h⟩
theorem pE{e:Qx}{es:List Qx}{t:TG}{u:TGs}(h1:PG X e t)(h2:PGs X es u)
  (hs:(RJ (e::es) X.env).map (·.2)=SW e X.env::(RJ es X.env).map (·.2):=by rfl):PGs X (e::es) (Jp t u):=by
 intro pins s σ H vs us Q I r h;obtain⟨v,vr,e1,h⟩:=h;subst e1;cases r with
 |cons r rr=>
  rw[hs];refine assignInOrder_cons (thn (h1 pins s σ H _ _ _ I r h) ?_);rintro _ s1 ⟨σ1,H1,I1,q1⟩;exact h2 pins s1 σ1 H1 _ _ Q I1 rr q1
noncomputable def L0(K:Qg)(n:Nat)(t:TGs):TG:=fun v σ H Q=>∃a xs,v=.ref a/\SqT K H a xs/\xs.length=n/\t xs σ H Q
theorem AZ{es:List Qx}{k:Nat}{t:TGs}{n:Nat}(hc:X.calm=true)(h:PGs X es t)
  (hn:(RJ es X.env).length=n:=by rfl) (hst:(RJ es X.env).findIdx? (·.1)=none:=by rfl):PG X (.Tuple es k pos) (L0 X.K n t):=by
 intro pins s σ H v u Q I r hw;obtain⟨a,xs,e1,hq,hl,hw⟩:=hw;subst e1;cases r;obtain⟨its,rv,ht,hz⟩:=I.tuple hq;refine assign_Tuple_tuple (I.ok.hd hc) ht (by simp[hn,<-hl,rv.length]) hst fun h' hx=>?_
 have I1:Inv X pins σ H {s with heap:=h'}:=I.kept (t':=s.toks) fun b o e=>hx b o (x_ (Qr e)) e;exact h pins _ σ H xs _ Q I1 (by simpa using rv) hw
noncomputable def KN(to ti:TE)(t:DE):TG:=fun v σ H Q=>to σ H fun o H1=>ti σ H1 fun i H2=>t o i v H2 fun H3=>Q σ H3
theorem Bw{o i:Qx}{to ti:TE}{t:DE}(ho:PE X o to)(hi:PE X i ti)(hs:xn X t)
  (ha:∀v,SW (.Subscript o i pos) X.env v=(do
   let ov <-S9 [v] (QO o X.env)
   let iv <-S9 [v,ov] (QO i X.env)
   V4 pos
   S9 [v,ov,iv] (V3 ov iv v)
   release [v,ov,iv] []):=by intro _;rfl):PG X (.Subscript o i pos) (KN to ti t):=by
 intro pins s σ H v u Q I r h;rw[ha];refine Qe (QK (thn (ho pins s σ H _ I h) ?_));rintro ov s1 ⟨x,H1,I1,r1,q1⟩;refine Qe (QK (thn (hi pins s1 σ H1 _ I1 q1) ?_));rintro iv s2 ⟨y,H2,I2,r2,q2⟩;refine Qe (S3 (Qe (QK (thn (hs pins s2 σ H2 x y v ov iv u _ I2 r1 r2 r q2) ?_))));rintro _ s3 ⟨H3,I3,q3⟩;exact wpAny_release ⟨σ,H3,I3,q3⟩
noncomputable def DR(te:TE)(g:TG):TS:=fun D σ H=>te σ H fun x H1=>g x σ H1 D.nx
theorem BY{tg e:Qx}{te:TE}{g:TG}(he:PE X e te)(hg:PG X tg g)(hs:Wn [tg] e pos.line X.env=pure false:=by rfl)(hw:Wo [tg] e X.env=pure none:=by rfl)
  (h1:(RJ [tg] X.env).map (·.2)=[SW tg X.env]:=by rfl):PS X (.Assign [tg] e pos) (DR te g):=by
 intro pins s σ H D I h;refine wpAny_Assign_stores (thn (he pins s σ H _ I h) fun v s1 ⟨x,H1,I1,r1,q1⟩=>?_) hs hw;rw[h1];exact thn (hg pins s1 σ H1 x v _ I1 r1 q1) fun _ s2 q=>q
theorem j7{i:Nat}{x:Str}{e:Qx}{te:TE}{pos':Pos}(hN:X.N.Nodup)(hi:X.N[i]?=some x)(hx:Loc X.env.scope x)(he:PE X e te)(hs:S8 e (some (.Name x pos')) pos.line X.env=pure false:=by rfl)(hf:X.fn x=true\/X.env.scope.names.lookup x=some .local:=by first|exact .inl rfl|exact .inr rfl|assumption) :
  PS X (.Assign [.Name x pos'] e pos) (DR te (yz i)):=by
 intro pins s σ H D I h;refine wpAny_Assign_Name (thn (he pins s σ H _ I h) fun v s1 ⟨y,H1,I1,r1,q1⟩=>?_) hs;exact pM I1 hN hi hx r1 (fun s2 I2=>⟨_,H1,I2,q1⟩) hf
noncomputable def Li(i:Nat)(te:TE)(ti:TIp):TS:=fun D σ H=>∃x,σ[i]?=some (some x)/\te σ H fun y H1=>ti x y H1 fun z H2=>D.nx (σ.set i (some z)) H2
theorem GZ{i:Nat}{x:Str}{e:Qx}{te:TE}{op:T5}{ti:TIp}{pos':Pos}(hN:X.N.Nodup)(hi:X.N[i]?=some x)(hx:Loc X.env.scope x)(he:PE X e te)(ho:PIp X op ti)(hf:X.fn x=true\/X.env.scope.names.lookup x=some .local:=by first|exact .inl rfl|exact .inr rfl|assumption) :
  PS X (.AugAssign (.Name x pos') op e pos) (Li i te ti):=by
 intro pins s σ H D I h;obtain⟨v,e1,h⟩:=h;obtain⟨m,hn,hl⟩:=I.loc;have vis:Vis X.env.scope x:=by rcases hx with k|k;exact .inl k;exact .inr (.inl k)
 obtain⟨u,r,l⟩:=hl i x v hi e1 vis;refine wpAny_AugAssign_Name ?_;have go:Qn (Qs X.prog X.w) X.A (QO e X.env) (fun w s₂=>Qn (Qs X.prog X.w) X.A (inplaceOp op u w) (fun r s₃=>Qn (Qs X.prog X.w) X.A (Wh X.env x r) (fun _=>SP X pins D .next) X.xe s₃) X.xe s₂) X.xe s:=by refine thn (he pins s σ H _ I h) ?_;rintro w s1 ⟨y,H1,I1,r1,q1⟩;refine thn (ho pins s1 σ H1 v y u w _ I1 r r1 q1) ?_;rintro z s2 ⟨zv,H2,I2,r2,q2⟩;exact pM I2 hN hi hx r2 (fun s3 I3=>⟨_,H2,I3,q2⟩) hf
 rcases l with⟨hk,hm⟩|⟨hk,c,hc,hcell⟩
 ·exact UK I.ok.kind hk hn hm go
 rcases hk with hk|hk
 ·exact UY I.ok.kind hk hc hcell go
 rcases hx with k|k
 ·have:X.env.scope.names.lookup x=some .free:=hk;rw[k]at this;cases this
 have:X.env.scope.names.lookup x=some .free:=hk;rw[k]at this;cases this
noncomputable def ipI(f:Int->Int->Int):TIp:=fun x y H Q=>∃i j,x=.int i/\y=.int j/\Q (.int (f i j)) H
theorem HV:PIp X .Add (ipI fun i j=>i+j):=by intro pins s σ H x y v u Q I r1 r2 h;obtain⟨i,j,e1,e2,q⟩:=h;subst e1;subst e2;obtain⟨t,rfl⟩:=r1;obtain⟨t',rfl⟩:=r2;exact iadd_int ⟨.int _,H,I.tok _,⟨_,rfl⟩,q⟩
noncomputable def GY(c:TT)(tb:TS):TS:=fun D σ H=>∃W:Nat->St->Hp->Prop,(∃m,W m σ H)/\∀m σ H,W m σ H->
 c σ H fun b H1=>if b=true then ∃N:St->Hp->Prop,(∀ σ' H',N σ' H'->∃m',m'<m/\W m' σ' H')/\tb { D with nx:=N,ct:=N,bk:=D.nx} σ H1 else D.nx σ H1
theorem C3{c:Qx}{body:List QR}{tc:TT}{tb:TS}(hp:U2 (Qs X.prog X.w) X.A X.env X.xe)(hc:PT X c tc)(hb:PSs X body tb):PS X (.While c body [] pos) (GY tc tb):=by
 intro pins s σ H D I h;obtain⟨W,⟨m0,w0⟩,turn⟩:=h;refine wpAny_While (codeAny_whileLoop (fun n s'=>∃ σ' H',Inv X pins σ' H' s'/\W n σ' H') ?_ m0 ⟨σ,H,I,w0⟩);rintro n s1 ⟨σ1,H1,I1,w1⟩;refine RP hp (thn (hc pins s1 σ1 H1 _ I1 (turn n σ1 H1 w1)) ?_);rintro b s2 ⟨H2,I2,q2⟩;cases b with
 |true=>
  obtain⟨N,hN,q2⟩:=q2;rw[if_pos rfl];refine RP hp (thn (hb pins s2 σ1 H2 _ I2 q2) fun f s3 q3=>?_);cases f with
  |next=>
   obtain⟨σ3,H3,I3,n3⟩:=q3;obtain⟨m',hm,w3⟩:=hN σ3 H3 n3;exact⟨m',hm,σ3,H3,I3,w3⟩
  |cont=>
   obtain⟨σ3,H3,I3,n3⟩:=q3;obtain⟨m',hm,w3⟩:=hN σ3 H3 n3;exact⟨m',hm,σ3,H3,I3,w3⟩
  |brk=>exact q3
  |ret v=>exact q3
 |false=>
  rw[if_neg Mf];exact Ta ⟨σ1,H2,I2,q2⟩
end
structure It where
 go:Nat->Hp->Prop
 yld:Nat->Hp->V->Hp->Prop
 stop:Nat->Hp->Prop
noncomputable def mT(X:Cx)(pins:List (Qh×Obj))(H:Hp)(b:Qh):Prop:=
 H b=none/\b≠X.env.locals/\b ∉ X.fs/\(b∈X.ex\/X.s₀.heap.objs.size<=b)/\(∀x c,X.env.cells.lookup x=some c->c≠b)/\∀p∈X.pn++pins,p.1≠b
theorem Inv.wN {X:Cx}{pins:List (Qh×Obj)}{σ:St}{H H':Hp}{s:Qi}{b:Qh}(I:Inv X pins σ H s)(hb:s.heap.objs.size<=b)(hn:H' b=none):mT X pins H' b:=by
 refine⟨hn,M6 (y_ I.lt hb),I.Lk hb,.inr (m_ I.sz hb),fun x c e z=>?_,fun p hp z=>?_⟩
 ·obtain⟨v,q⟩:=I.cell x c e;exact absurd (y_ q.lt (by rw[z];exact hb)) (Ms _)
 exact absurd (y_ (Qr (I.pin p hp).1) (by rw[z];exact hb)) (Ms _)
structure Turn (P:Qv) (w:Qy) (K:Qg) (tg:Qx) (J:It) (fp:List Qh) (it:Qh) (tn:Nat->Qz->Prop):Prop where
 mem:it∈fp
 obj:∀i h,tn i h->∀b∈fp,∃o,h.get? b=some o/\∀v,o.data≠.cell v
 keep:∀i h h',tn i h->(∀b∈fp,∀o,h.get? b=some o->h'.get? b=some o)->tn i h'
 item:∀(X:Cx),X.prog=P->X.w=w->X.K=K->X.calm=true->∀(i:Nat) (pins:List (Qh×Obj)) (s:Qi) (σ:St) (H:Hp) (E:Qf->Qi->Prop),Inv X pins σ H s->(∀b∈fp,mT X pins H b)->tn i s.heap->J.go i H->
  Qn (Qs P w) X.A (RS (.ref it)) (fun r s1=>∃u,r=some u/\
   Qn (Qs P w) X.A (Tb tg (.ref it) u) (fun _ s2=>∃x H',Inv X pins σ H' s2/\RelV x u/\J.yld i H x H'/\tn (i+1) s2.heap/\∀b∈fp,H' b=none) E s1) E s
 done:∀(X:Cx),X.prog=P->X.w=w->X.K=K->X.calm=true->∀(i:Nat) (pins:List (Qh×Obj)) (s:Qi) (σ:St) (H:Hp) (E:Qf->Qi->Prop),Inv X pins σ H s->(∀b∈fp,mT X pins H b)->tn i s.heap->J.stop i H->
  Qn (Qs P w) X.A (RS (.ref it)) (fun r s1=>r=none/\Inv X pins σ H s1) E s
 self:∀(A:QE) (i:Nat) (s:Qi) (Q:Qf->Qi->Prop) (E:Qf->Qi->Prop),tn i s.heap->Q (.ref it) s->Qn (Qs P w) A (Tc (.ref it)) Q E s
abbrev TI:=St->Hp->(It->Hp->Prop)->Prop
noncomputable def PIE(X:Cx)(pins:List (Qh×Obj))(σ:St)(tg:Qx)(R:It->Hp->Prop)(itv:Qf)(s2:Qi):Prop:=
 ∃(it:Qh) (fp:List Qh) (tn:Nat->Qz->Prop) (J:It) (H':Hp),itv=.ref it/\Inv X pins σ H' s2/\Turn X.prog X.w X.K tg J fp it tn/\tn 0 s2.heap/\(∀b∈fp,mT X pins H' b)/\R J H'
noncomputable def PI(X:Cx)(tg iter:Qx)(wi:TI):Prop:=
 ∀(pins:List (Qh×Obj)) (s:Qi) (σ:St) (H:Hp) (R:It->Hp->Prop),Inv X pins σ H s->wi σ H R->
  Qn (Qs X.prog X.w) X.A (QO iter X.env) (fun v s1=>Qn (Qs X.prog X.w) X.A (Tc v) (PIE X pins σ tg R) X.xe s1) X.xe s
theorem yh{M:Se}{A:QE}{E:Qf->Qi->Prop}{s:Qi}{tg:Qx}{it:Qh}{u:Qf}{o:Obj}{n:String}{vs:Array Qf}{Q:Unit->Qi->Prop}(ho:s.heap.get? it=some o)(hc:o.cls=.type n)(hd:o.data=.fields vs)
    (hn:["enumerate","zip","dict_itemiterator","dict_reverseitemiterator","odict_iterator","itertools.zip_longest","itertools.pairwise"].contains n=false) (hQ:Q () s):Qn M A (Tb tg (.ref it) u) Q E s:=by
  unfold Tb;cases tg <;> first
    |exact Qj hQ
    | (cases u <;> first
        |exact Qj hQ
        | (refine Qe (VF ho ?_)
           rw[hc,hd];show Qn M A (if(["enumerate","zip","dict_itemiterator","dict_reverseitemiterator","odict_iterator","itertools.zip_longest","itertools.pairwise"].contains n&&vs[0]? == some (Rh _))=true then _ else _) Q E s;rw[if_neg (by intro h;rw[hn,Bool.false_and]at h;cases h)];exact Qj hQ))
noncomputable def Itl(K:Qg)(a:Qh):It:=
 ⟨fun i H=>∃xs x,SqL K H a xs/\xs[i]?=some x,fun i H x H'=>H'=H/\∀xs,SqL K H a xs->xs[i]?=some x,fun i H=>∃xs,SqL K H a xs/\xs.length<=i⟩
noncomputable def Itt(K:Qg)(a:Qh):It:=
 ⟨fun i H=>∃xs x,SqT K H a xs/\xs[i]?=some x,fun i H x H'=>H'=H/\∀xs,SqT K H a xs->xs[i]?=some x,fun i H=>∃xs,SqT K H a xs/\xs.length<=i⟩
noncomputable def Itr(lo:Int)(n:Nat):It:=⟨fun i _=>i<n,fun i H x H'=>H'=H/\x=.int (lo+i),fun i _=>n<=i⟩
theorem Aj{P:Qv}{w:Qy}{K:Qg}{tg:Qx}(a it:Qh):Turn P w K tg (Itl K a) [it] it (fun i h=>h.IsListIter it a i) where
 mem:=by simp
 obj:=fun i h st b hb=>by
  have e:b=it:=by simpa using hb
  subst e;obtain⟨o,e,c,d⟩:=st;exact⟨o,e,fun v z=>by rw[d]at z;cases z⟩
 keep:=fun i h h' st k=>st.at fun o e=>k it (by simp) o e
 item:=by
  intro X hP hw hK hc i pins s σ H E I hf st hg;subst hP hw hK;obtain⟨xs,x,hq,hx⟩:=hg;obtain⟨its,rv,p,hz⟩:=I.list hq;obtain⟨u,hu,ru⟩:=rv.get hx;obtain⟨f0,f1,f2,f3,f4,f5⟩:=hf it (by simp);refine wpAny_pyNext_list_item st p.isList (x:=u) (by simpa using hu) fun h' st' sb=>?_
  have I1:Inv X pins σ H {s with heap:=h'}:=I.turned (t':=s.toks) (fun b o hb e=>(sb.2 b hb).trans e) f0 f1 f3 f4 f5;obtain⟨o,e,c,d⟩:=id st';exact⟨u,rfl,yh (s:={s with heap:=h'}) e c d (by decide) ⟨x,H,I1,ru,⟨rfl,fun ys hy=>by rw[I.pV hy hq];exact hx⟩,st',fun b hb=>(hf b hb).1⟩⟩
 done:=by intro X hP hw hK hc i pins s σ H E I hf st hg;subst hP hw hK;obtain⟨xs,hq,hx⟩:=hg;obtain⟨its,rv,p,hz⟩:=I.list hq;obtain⟨f0,f1,f2,f3,f4,f5⟩:=hf it (by simp);have hl:=rv.length;exact wpAny_pyNext_list_end (I.ok.hd hc) st p.isList (by simp;lia) fun h' eb=>⟨rfl,I.turned (t':=s.toks) (fun b o hb e=>eb b o hb e) f0 f1 f3 f4 f5⟩
 self:=fun _ _ _ _ _ st h=>wpAny_pyIter_listiter st h
theorem xm{P:Qv}{w:Qy}{K:Qg}{tg:Qx}(a it:Qh):Turn P w K tg (Itt K a) [it] it (fun i h=>h.IsTupleIter it a i) where
 mem:=by simp
 obj:=fun i h st b hb=>by
  have e:b=it:=by simpa using hb
  subst e;obtain⟨o,e,c,d⟩:=st;exact⟨o,e,fun v z=>by rw[d]at z;cases z⟩
 keep:=fun i h h' st k=>st.at fun o e=>k it (by simp) o e
 item:=by
  intro X hP hw hK hc i pins s σ H E I hf st hg;subst hP hw hK;obtain⟨xs,x,hq,hx⟩:=hg;obtain⟨its,rv,p,hz⟩:=I.tuple hq;obtain⟨u,hu,ru⟩:=rv.get hx;obtain⟨f0,f1,f2,f3,f4,f5⟩:=hf it (by simp);refine wpAny_pyNext_tuple_item st (show s.heap.IsTuple a its.toArray from p) (x:=u) (by simpa using hu) fun h' st' sb=>?_
  have I1:Inv X pins σ H {s with heap:=h'}:=I.turned (t':=s.toks) (fun b o hb e=>(sb.2 b hb).trans e) f0 f1 f3 f4 f5;obtain⟨o,e,c,d⟩:=id st';exact⟨u,rfl,yh (s:={s with heap:=h'}) e c d (by decide) ⟨x,H,I1,ru,⟨rfl,fun ys hy=>by rw[I.fv hy hq];exact hx⟩,st',fun b hb=>(hf b hb).1⟩⟩
 done:=by intro X hP hw hK hc i pins s σ H E I hf st hg;subst hP hw hK;obtain⟨xs,hq,hx⟩:=hg;obtain⟨its,rv,p,hz⟩:=I.tuple hq;obtain⟨f0,f1,f2,f3,f4,f5⟩:=hf it (by simp);have hl:=rv.length;exact wpAny_pyNext_tuple_end (I.ok.hd hc) st (show s.heap.IsTuple a its.toArray from p) (by simp;lia) fun h' eb=>⟨rfl,I.turned (t':=s.toks) (fun b o hb e=>eb b o hb e) f0 f1 f3 f4 f5⟩
 self:=fun _ _ _ _ _ st h=>wpAny_pyIter_tupleiter st h
theorem wo{P:Qv}{w:Qy}{K:Qg}{tg:Qx}(it:Qh)(lo:Int)(n:Nat):Turn P w K tg (Itr lo n) [it] it (fun i h=>Xa h it (lo+(i:Nat)*1) ((n:Int)-(i:Nat)) 1) where
 mem:=by simp
 obj:=fun i h st b hb=>by
  have e:b=it:=by simpa using hb
  subst e;exact⟨_,st,fun v z=>by have z':Xb _=U3 v:=z;cases z'⟩
 keep:=fun i h h' st k=>k it (by simp) _ st
 item:=by intro X hP hw hK hc i pins s σ H E I hf st hg;subst hP hw hK;obtain⟨f0,f1,f2,f3,f4,f5⟩:=hf it (by simp);have W:=Walks.range (prog:=X.prog) (w:=X.w) (I.ok.hd hc) it lo 1 n;refine W.item i s _ _ hg st fun v h' tk hv st' kk=>?_;obtain⟨t,rfl⟩:=hv;have I1:Inv X pins σ H {s with heap:=h',toks:=tk}:=I.turned (fun b o hb e=>kk b o (by simpa using hb) e) f0 f1 f3 f4 f5;refine⟨_,rfl,yh (s:={s with heap:=h',toks:=tk}) (n:="range_iterator") st' rfl rfl (by decide) ⟨.int (lo+i),H,I1,⟨t,?_⟩,⟨rfl,rfl⟩,st',fun b hb=>(hf b hb).1⟩⟩;rw[Pg]
 done:=by intro X hP hw hK hc i pins s σ H E I hf st hg;subst hP hw hK;obtain⟨f0,f1,f2,f3,f4,f5⟩:=hf it (by simp);exact wpAny_pyNext_range_end (I.ok.hd hc) st (by have:n<=i:=hg;lia) fun h' eb=>⟨rfl,I.turned (t':=s.toks) (fun b o hb e=>eb b o hb e) f0 f1 f3 f4 f5⟩
 self:=fun _ _ _ _ _ st h=>wpAny_pyIter_rangeiter st h
section
variable{X:Cx}{tg:Qx}
theorem vx{pins:List (Qh×Obj)}{σ:St}{H:Hp}{s:Qi}{R:It->Hp->Prop}{E:Qf->Qi->Prop}{lo hi:Int}{t u v:Tok}{tk:Nat}(I:Inv X pins σ H s)(h1:-(2 ^ 62)<=lo)(h2:lo<2 ^ 62)(h3:-(2 ^ 62)<=hi)(h4:hi<2 ^ 62)
  (q:R (Itr lo (hi-lo).toNat) H):Qn (Qs X.prog X.w) X.A (Tc (.ref s.heap.objs.size)) (PIE X pins σ tg R) E {s with heap:=s.heap.push { cls:=.type "range",data:=.fields #[.int lo t,.int hi u,.int 1 v] },toks:=tk}:=by
 refine wpAny_pyIter_range (Xc ..) (small_one h1 h2 h3 h4) ?_;have I1:Inv X pins σ H {s with heap:=s.heap.push { cls:=.type "range",data:=.fields #[.int lo t,.int hi u,.int 1 v] },toks:=tk}:=I.kept fun b o e=>Qk _ e;refine⟨(s.heap.push { cls:=.type "range",data:=.fields #[.int lo t,.int hi u,.int 1 v] }).objs.size,[(s.heap.push { cls:=.type "range",data:=.fields #[.int lo t,.int hi u,.int 1 v] }).objs.size],_,_,H,rfl,
  I1.kept (t':=tk) fun b o e=>Qk _ e,wo _ lo (hi-lo).toNat,?_,fun b hb=>?_,q⟩
 ·have e1:lo+((0:Nat):Int)*1=lo:=by simp
  have e2:(((hi-lo).toNat:Nat):Int)-((0:Nat):Int)=W0 lo hi 1:=by rw[rangeSize_one];split <;> lia
  show Xa _ _ (lo+((0:Nat):Int)*1) ((((hi-lo).toNat:Nat):Int)-((0:Nat):Int)) 1;rw[e1,e2];exact Qo _ rfl
 have e:b=(s.heap.push { cls:=.type "range",data:=.fields #[.int lo t,.int hi u,.int 1 v] }).objs.size:=by simpa using hb
 subst e;exact I1.wN (b_ _) (I1.hok.fresh (b_ _))
noncomputable def Kn(ta:TA):TI:=fun σ H R=>ta σ H fun vs H1=>∃j:Int,vs=[.int j]/\-(2 ^ 62)<=j/\j<2 ^ 62/\R (Itr 0 j.toNat) H1
noncomputable def JU(ta:TA):TI:=fun σ H R=>ta σ H fun vs H1=>∃i j:Int,vs=[.int i,.int j]/\(-(2 ^ 62)<=i/\i<2 ^ 62/\-(2 ^ 62)<=j/\j<2 ^ 62)/\R (Itr i (j-i).toNat) H1
theorem Ac{a:Qx}{ta:TA}{p pos:Pos}(hg:Gl X "range")(hm:X.mg "range"=none)(ha:PA X [a] ta)(hs:QA [a] X.env=[(false,QO a X.env)]:=by rfl):PI X tg (.Call (.Name "range" p) [a] [] pos) (Kn ta):=by
 intro pins s σ H R I h;refine Call_ (eS I hg hm VG (RM (thn (ha pos pins s σ H _ I h) fun us s1 ⟨vs,H1,I1,r1,q1⟩=>?_) hs rfl));obtain⟨j,e,q1,q2,q⟩:=q1;subst e;cases r1 with
 |cons r rr=>
  cases rr;obtain⟨t,rfl⟩:=r;exact call_range_1 (vx I1 (by lia) (by lia) q1 q2 (by simpa using q))
theorem zS{a b:Qx}{ta:TA}{p pos:Pos}(hg:Gl X "range")(hm:X.mg "range"=none)(ha:PA X [a,b] ta)(hs:QA [a,b] X.env=[(false,QO a X.env),(false,QO b X.env)]:=by rfl)(hs2:QA [b] X.env=[(false,QO b X.env)]:=by rfl) :
  PI X tg (.Call (.Name "range" p) [a,b] [] pos) (JU ta):=by
 intro pins s σ H R I h;refine Call_ (eS I hg hm VG (RM (thn (ha pos pins s σ H _ I h) fun us s1 ⟨vs,H1,I1,r1,q1⟩=>?_) (by rw[hs,hs2]) (by rw[hs2];rfl)));obtain⟨i,j,e,⟨q1,q2,q3,q4⟩,q⟩:=q1;subst e;cases r1 with
 |cons r rr=>
  cases rr with
  |cons r' rr=>
   cases rr;obtain⟨t,rfl⟩:=r;obtain⟨t',rfl⟩:=r';exact WH (vx I1 q1 q2 q3 q4 q)
noncomputable def Ld(wi:TI)(g:TG)(tb:TS):TS:=fun D σ H=>wi σ H fun J H1=>∃W:Nat->Nat->St->Hp->Prop,(∃m,W 0 m σ H1)/\∀i m σ H,W i m σ H->
 (J.stop i H/\D.nx σ H)\/(J.go i H/\∃N:St->Hp->Prop,(∀ σ' H',N σ' H'->∃m',m'<m/\W (i+1) m' σ' H')/\∀x H',J.yld i H x H'->g x σ H' fun σ2 H2=>tb { D with nx:=N,ct:=N,bk:=D.nx} σ2 H2)
noncomputable def nD(fp:List Qh)(h:Qz):List (Qh×Obj):=fp.filterMap fun b=>(h.get? b).map fun o=>(b,o)
theorem dq{fp:List Qh}{h:Qz}{b:Qh}{o:Obj}(hb:b∈fp)(e:h.get? b=some o):(b,o)∈nD fp h:=O3.mpr ⟨b,hb,by rw[e];rfl⟩
theorem zZ{fp:List Qh}{h:Qz}{p:Qh×Obj}(hp:p∈nD fp h):p.1∈fp/\h.get? p.1=some p.2:=by
 obtain⟨b,hb,e⟩:=O3.mp hp;cases q:h.get? b with
 |none=>rw[q]at e;cases e
 |some o=>
  rw[q]at e;have e':(b,o)=p:=G' e;subst e';exact⟨hb,q⟩
theorem Inv.pinned {pins:List (Qh×Obj)}{σ:St}{H:Hp}{s:Qi}{fp:List Qh}(I:Inv X pins σ H s)(hf:∀b∈fp,mT X pins H b)(ho:∀b∈fp,∃o,s.heap.get? b=some o/\∀v,o.data≠.cell v):Inv X (pins++nD fp s.heap) σ H s:=
 I.zN fun p hp=>(v_.mp hp).elim (fun z=>I.pin p (o_ _ z)) fun z=>by obtain⟨hb,e⟩:=zZ z;obtain⟨f0,f1,f2,_⟩:=hf p.1 hb;obtain⟨o,e',d⟩:=ho p.1 hb;rw[e]at e';cases e';exact⟨e,f0,f1,f2,d⟩
theorem Inv.jc {pins pl:List (Qh×Obj)}{σ:St}{H:Hp}{s:Qi}(I:Inv X (pins++pl) σ H s):Inv X pins σ H s:=I.zN fun p hp=>I.pin p (o_ _ (w_ _ hp))
theorem IM{iter:Qx}{body:List QR}{wi:TI}{g:TG}{tb:TS}{pos:Pos}(hp:U2 (Qs X.prog X.w) X.A X.env X.xe)(hc:X.calm=true)(hi:PI X tg iter wi)(hg:PG X tg g)(hb:PSs X body tb)
  (hs:∀x,Q_ iter X.env x=pure x:=by intro _;rfl):PS X (.For tg iter body [] pos) (Ld wi g tb):=by
 intro pins s σ H D I h;refine wpAny_For (thn (hi pins s σ H _ I h) fun v s1 h1=>thn h1 fun itv s2 h2=>?_) hs;obtain⟨it,fp,tn,J,H2,e,I2,T,st2,f2,W,⟨m0,w0⟩,turn⟩:=h2;subst e;have stat:∀{H':Hp},(∀b∈fp,H' b=none)->∀b∈fp,mT X pins H' b:=fun hn b hb=>⟨hn b hb,(f2 b hb).2⟩;refine codeAny_forLoop_any (fun n s'=>∃i σ' H',Inv X pins σ' H' s'/\tn i s'.heap/\(∀b∈fp,H' b=none)/\W i n σ' H') ?_ m0 ⟨0,σ,H2,I2,st2,fun b hb=>(f2 b hb).1,w0⟩;rintro n s3 ⟨i,σ3,H3,I3,st3,fr3,w3⟩;rcases turn i n σ3 H3 w3 with⟨stop,qn⟩|⟨go,N,hN,step⟩
 ·refine RP hp (thn (T.done X rfl rfl rfl hc i pins s3 σ3 H3 X.xe I3 (stat fr3) st3 stop) ?_);rintro r s4 ⟨hr,I4⟩;subst hr;exact Ta ⟨σ3,H3,I4,qn⟩
 refine RP hp (thn (T.item X rfl rfl rfl hc i pins s3 σ3 H3 X.xe I3 (stat fr3) st3 go) ?_);rintro r s4 ⟨u,hr,h4⟩;subst hr;refine RP hp (thn h4 ?_);rintro _ s5 ⟨x,H5,I5,r5,y5,st5,fr5⟩;have I5':=I5.pinned (stat fr5) (T.obj _ _ st5);refine RP hp (thn (hg _ s5 σ3 H5 x u _ I5' r5 (step x H5 y5)) ?_);rintro _ s6 ⟨σ6,H6,I6,q6⟩;refine RP hp (thn (hb _ s6 σ6 H6 _ I6 q6) fun f s7 q7=>?_);have again:∀{σ7:St}{H7:Hp},Inv X (pins++nD fp s5.heap) σ7 H7 s7->N σ7 H7->∃m,m<n/\∃i σ' H',Inv X pins σ' H' s7/\tn i s7.heap/\(∀b∈fp,H' b=none)/\W i m σ' H':=fun{σ7 H7} I7 n7=>by obtain⟨m',hm,w7⟩:=hN σ7 H7 n7;refine⟨m',hm,i+1,σ7,H7,I7.jc,T.keep _ _ _ st5 fun b hb o e=>(I7.pin (b,o) (o_ _ (o_ _ (dq hb e)))).1,fun b hb=>?_,w7⟩;obtain⟨o,e,d⟩:=T.obj _ _ st5 b hb;exact(I7.pin (b,o) (o_ _ (o_ _ (dq hb e)))).2.1
 cases f with
 |next=>obtain⟨σ7,H7,I7,n7⟩:=q7;exact again I7 n7
 |cont=>obtain⟨σ7,H7,I7,n7⟩:=q7;exact again I7 n7
 |brk=>obtain⟨σ7,H7,I7,q7⟩:=q7;exact⟨σ7,H7,I7.jc,q7⟩
 |ret v=>obtain⟨x7,σ7,H7,I7,r7,q7⟩:=q7;exact⟨x7,σ7,H7,I7.jc,r7,q7⟩
end
abbrev R2:=V->V->Hp->VK->Prop
noncomputable def OpR(X:Cx)(f:Qf->Qf->Sem Qf)(r:R2):Prop:=
 ∀(pins:List (Qh×Obj)) (s:Qi) (σ:St) (H:Hp) (x y:V) (v u:Qf) (Q:VK),Inv X pins σ H s->RelV x v->RelV y u->r x y H Q->
  Qn (Qs X.prog X.w) X.A (f v u) (EP X pins σ Q) X.xe s
noncomputable def UnR(X:Cx)(f:Qf->Sem Qf)(r:V->Hp->VK->Prop):Prop:=
 ∀(pins:List (Qh×Obj)) (s:Qi) (σ:St) (H:Hp) (x:V) (v:Qf) (Q:VK),Inv X pins σ H s->RelV x v->r x H Q->
  Qn (Qs X.prog X.w) X.A (f v) (EP X pins σ Q) X.xe s
noncomputable def bE(X:Cx)(f:Qf)(r:List V->Hp->VK->Prop):Prop:=
 ∀(pins:List (Qh×Obj)) (s:Qi) (σ:St) (H:Hp) (xs:List V) (us:List Qf) (Q:VK),Inv X pins σ H s->Vals xs us->r xs H Q->
  Qn (Qs X.prog X.w) X.A (call f us) (EP X pins σ Q) X.xe s
noncomputable def KQ(X:Cx)(r:V->Hp->(Bool->Hp->Prop)->Prop):Prop:=
 ∀(pins:List (Qh×Obj)) (s:Qi) (σ:St) (H:Hp) (x:V) (v:Qf) (Q:Bool->Hp->Prop),Inv X pins σ H s->RelV x v->r x H Q->
  Qn (Qs X.prog X.w) X.A (truthy v) (TP X pins σ Q) X.xe s
noncomputable def tOp(r:R2)(ta tb:TE):TE:=fun σ H Q=>ta σ H fun x H1=>tb σ H1 fun y H2=>r x y H2 Q
noncomputable def tUn(r:V->Hp->VK->Prop)(ta:TE):TE:=fun σ H Q=>ta σ H fun x H1=>r x H1 Q
noncomputable def rI(C:Int->Int->Prop)(g:Int->Int->V):R2:=fun x y H Q=>∃i j,x=.int i/\y=.int j/\C i j/\Q (g i j) H
noncomputable def rI0(g:Int->Int->V):R2:=fun x y H Q=>∃i j,x=.int i/\y=.int j/\Q (g i j) H
noncomputable def rU(g:Int->V):V->Hp->VK->Prop:=fun x H Q=>∃i,x=.int i/\Q (g i) H
section
variable{X:Cx}{a b c:Qx}{ta tb tc:TE}{pos:Pos}
theorem ID(ha:PE X a ta)(hb:PE X b tb){pins:List (Qh×Obj)}{s:Qi}{σ:St}{H:Hp}{R:V->V->Hp->Prop}(I:Inv X pins σ H s)
  (h:ta σ H fun x H1=>tb σ H1 fun y H2=>R x y H2) {Q:Qf->Qi->Prop} {f:Qf->Qf->Sem Qf}
  (hf:∀v u s2 x y H2,Inv X pins σ H2 s2->RelV x v->RelV y u->R x y H2->Qn (Qs X.prog X.w) X.A (f v u) Q X.xe s2) :
  Qn (Qs X.prog X.w) X.A (QO a X.env) (fun v s₁=>Qn (Qs X.prog X.w) X.A (QO b X.env) (fun u s₂=>Qn (Qs X.prog X.w) X.A (f v u) Q X.xe s₂) X.xe s₁) X.xe s:=by
 refine thn (ha pins s σ H _ I h) ?_;rintro v s1 ⟨x,H1,I1,r1,q1⟩;refine thn (hb pins s1 σ H1 _ I1 q1) ?_;rintro u s2 ⟨y,H2,I2,r2,q2⟩;exact hf v u s2 x y H2 I2 r1 r2 q2
theorem cI{op:T5}{r:R2}(ho:OpR X (Ro op) r)(ha:PE X a ta)(hb:PE X b tb):PE X (.BinOp a op b pos) (tOp r ta tb):=by intro pins s σ H Q I h;exact wpAny_BinOp (ID ha hb I h fun v u s2 x y H2 I2 rx ry q=>ho pins s2 σ H2 x y v u Q I2 rx ry q)
theorem Ki{op:UnaryOp}{r:V->Hp->VK->Prop}(ho:UnR X (unaryOp op) r)(ha:PE X a ta):PE X (.UnaryOp op a pos) (tUn r ta):=by intro pins s σ H Q I h;exact UnaryOp_ (thn (ha pins s σ H _ I h) fun v s1 ⟨x,H1,I1,r1,q1⟩=>ho pins s1 σ H1 x v Q I1 r1 q1)
theorem opI{f:Qf->Qf->Sem Qf}{C:Int->Int->Prop}{g:Int->Int->Int}
  (rule:∀(i j:Int) (t u:Tok) (s:Qi) (Q:Qf->Qi->Prop) (E:Qf->Qi->Prop),C i j->Q (.int (g i j) s.toks) {s with toks:=s.toks+1}->Qn (Qs X.prog X.w) X.A (f (.int i t) (.int j u)) Q E s) :
  OpR X f (rI C fun i j=>.int (g i j)):=by
 intro pins s σ H x y v u Q I rx ry h;obtain⟨i,j,rfl,rfl,hc,q⟩:=h;obtain⟨t,rfl⟩:=rx;obtain⟨t',rfl⟩:=ry;exact rule i j t t' s _ _ hc ⟨.int (g i j),H,I.tok _,⟨_,rfl⟩,q⟩
theorem JZ{f:Qf->Qf->Sem Qf}{g:Int->Int->Int}
  (rule:∀(i j:Int) (t u:Tok) (s:Qi) (Q:Qf->Qi->Prop) (E:Qf->Qi->Prop),Q (.int (g i j) s.toks) {s with toks:=s.toks+1}->Qn (Qs X.prog X.w) X.A (f (.int i t) (.int j u)) Q E s) :
  OpR X f (rI0 fun i j=>.int (g i j)):=by
 intro pins s σ H x y v u Q I rx ry h;obtain⟨i,j,rfl,rfl,q⟩:=h;obtain⟨t,rfl⟩:=rx;obtain⟨t',rfl⟩:=ry;exact rule i j t t' s _ _ ⟨.int (g i j),H,I.tok _,⟨_,rfl⟩,q⟩
theorem Dz{f:Qf->Qf->Sem Qf}{g:Int->Int->Bool}
  (rule:∀(i j:Int) (t u:Tok) (s:Qi) (Q:Qf->Qi->Prop) (E:Qf->Qi->Prop),Q (.bool (g i j)) s->Qn (Qs X.prog X.w) X.A (f (.int i t) (.int j u)) Q E s) :
  OpR X f (rI0 fun i j=>.bl (g i j)):=by
 intro pins s σ H x y v u Q I rx ry h;obtain⟨i,j,rfl,rfl,q⟩:=h;obtain⟨t,rfl⟩:=rx;obtain⟨t',rfl⟩:=ry;exact rule i j t t' s _ _ ⟨.bl (g i j),H,I,rfl,q⟩
noncomputable def E6(i j:Int):Prop:=0<j/\j<1073741824
noncomputable def Lc(i j:Int):Prop:=0<=j/\j<=1000000/\i.natAbs<2 ^ 64
noncomputable def vB(i j:Int):Prop:=(-(2 ^ 64)<i/\i<2 ^ 64)\/(-(2 ^ 64)<j/\j<2 ^ 64)
theorem vB.ok {i j:Int}(h:vB i j):IntMulOk i j:=by
 rcases h with⟨h1,h2⟩|⟨h1,h2⟩
 ·exact .of_left (Wq h1 h2)
 exact .of_right (Wq h1 h2)
theorem pS:OpR X (Ro .Add) (rI0 fun i j=>.int (i+j)):=JZ fun _ _ _ _ _ _ _ q=>add_int q
theorem Gm:OpR X (Ro .Sub) (rI0 fun i j=>.int (i-j)):=JZ fun _ _ _ _ _ _ _ q=>sub_int q
theorem lQ:OpR X (Ro .Mult) (rI vB fun i j=>.int (i*j)):=opI fun _ _ _ _ _ _ _ hc q=>mul_int q hc.ok
theorem yP:OpR X (Ro .FloorDiv) (rI E6 fun i j=>.int (i/j)):=opI fun i j _ _ _ _ _ hc q=>by have h1:(0:Int)<j:=hc.1;have h2:j<1073741824:=hc.2;exact floordiv_int (by lia) (by rw[Ob i (by lia)];exact q) (.inl (Uq (by lia)))
theorem nJ:OpR X (Ro .Mod) (rI (fun _ j=>0<j) fun i j=>.int (i%j)):=opI fun i j _ _ _ _ _ hc q=>by have h1:(0:Int)<j:=hc;exact mod_int' (by lia) (by rw[Oe i (by lia)];exact q)
theorem HE:OpR X (Ro .Pow) (rI Lc fun i j=>.int (i ^ j.toNat)):=opI fun _ _ _ _ _ _ _ hc q=>pow_int_small hc.1 hc.2.1 hc.2.2 q
theorem unI{f:Qf->Sem Qf}{g:Int->Int}
  (rule:∀(i:Int) (t:Tok) (s:Qi) (Q:Qf->Qi->Prop) (E:Qf->Qi->Prop),Q (.int (g i) s.toks) {s with toks:=s.toks+1}->Qn (Qs X.prog X.w) X.A (f (.int i t)) Q E s) :
  UnR X f (rU fun i=>.int (g i)):=by
 intro pins s σ H x v Q I rx h;obtain⟨i,rfl,q⟩:=h;obtain⟨t,rfl⟩:=rx;exact rule i t s _ _ ⟨.int (g i),H,I.tok _,⟨_,rfl⟩,q⟩
theorem HJ:UnR X (unaryOp .USub) (rU fun i=>.int (-i)):=unI fun _ _ _ _ _ q=>neg_int q
theorem BG{pins:List (Qh×Obj)}{σ:St}{H:Hp}{s:Qi}{Q:VK}{k k':Bool}(I:Inv X pins σ H s)(q:Q (.bl k) H)(e:k=k'):EP X pins σ Q (.bool k') s:=by subst e;exact⟨.bl k,H,I,rfl,q⟩
theorem Jn:OpR X (Q0 .Lt) (rI0 fun i j=>.bl (decide (i<j))):=Dz fun _ _ _ _ _ _ _ q=>lt_int q
theorem K7:OpR X (Q0 .LtE) (rI0 fun i j=>.bl (decide (i<=j))):=Dz fun _ _ _ _ _ _ _ q=>le_int q
theorem Ku:OpR X (Q0 .Gt) (rI0 fun i j=>.bl (decide (j<i))):=Dz fun _ _ _ _ _ _ _ q=>gt_int q
theorem Gg:OpR X (Q0 .GtE) (rI0 fun i j=>.bl (decide (j<=i))):=Dz fun _ _ _ _ _ _ _ q=>ge_int q
theorem Gu:OpR X (Q0 .Is) (fun x y H Q=>y=.non/\Q (.bl (decide (x=.non))) H):=by
 intro pins s σ H x y v u Q I rx ry h;obtain⟨rfl,q⟩:=h;cases ry;refine is_none_gen (BG I q ?_);cases x <;> first
  | (cases rx;rfl)
  | (obtain⟨t,rfl⟩:=rx;rfl)
theorem DU:OpR X (Q0 .IsNot) (fun x y H Q=>y=.non/\Q (.bl (!decide (x=.non))) H):=by
 intro pins s σ H x y v u Q I rx ry h;obtain⟨rfl,q⟩:=h;cases ry;refine isnot_none_gen (BG I q ?_);cases x <;> first
  | (cases rx;rfl)
  | (obtain⟨t,rfl⟩:=rx;rfl)
theorem aJ(b:Qx){op:Vc}(h:op≠.In:=by decide)(h2:op≠.NotIn:=by decide):Sr op b=false:=by
 have e1:(op == CmpOp.In)=false:=by cases op <;> first|rfl|exact absurd rfl h
 have e2:(op == CmpOp.NotIn)=false:=by cases op <;> first|rfl|exact absurd rfl h2
 cases b <;> simp[Sr,e1,e2]
theorem Er{op:Vc}{r:R2}(ho:OpR X (Q0 op) r)(ha:PE X a ta)(hb:PE X b tb)(hm:Sr op b=false):PE X (.Compare a [op] [b] pos) (tOp r ta tb):=by intro pins s σ H Q I h;exact wpAny_Compare1 (ID ha hb I h fun v u s2 x y H2 I2 rx ry q=>ho pins s2 σ H2 x y v u Q I2 rx ry q) hm
noncomputable def Bs(t:TE):TT:=fun σ H Q=>t σ H fun x H'=>∃k,x=.bl k/\Q k H'
theorem uQ{op:Vc}{r:R2}(ho:OpR X (Q0 op) r)(ha:PE X a ta)(hb:PE X b tb)(hm:Sr op b=false):PT X (.Compare a [op] [b] pos) (Bs (tOp r ta tb)):=by
 intro pins s σ H Q I h;refine wpAny_isTrue_Compare1 (thn (ha pins s σ H _ I h) fun v s1 ⟨x,H1,I1,r1,q1⟩=>thn (hb pins s1 σ H1 _ I1 q1) fun u s2 ⟨y,H2,I2,r2,q2⟩=>
  thn (ho pins s2 σ H2 x y v u _ I2 r1 r2 q2) fun c s3 ⟨z,H3,I3,r3,k,e,q3⟩=>?_) hm
 subst e;cases r3;exact RC ⟨H3,I3,q3⟩
noncomputable def Ck(r r':R2)(ta tb tc:TE):TE:=fun σ H Q=>ta σ H fun x H1=>tb σ H1 fun y H2=>r x y H2 fun z H3=>∃k,z=.bl k/\
 (if k=true then tc σ H3 fun w' H4=>r' y w' H4 Q else Q (.bl false) H3)
theorem Cc{op op':Vc}{r r':R2}(ho:OpR X (Q0 op) r)(ho':OpR X (Q0 op') r')(ha:PE X a ta)(hb:PE X b tb)(hc:PE X c tc)
  (hm:lastMarks [op,op'] [b,c]=false:=by with_unfolding_all rfl):PT X (.Compare a [op,op'] [b,c] pos) (Bs (Ck r r' ta tb tc)):=by
 intro pins s σ H Q I h;refine isTrue_chain (thn (ha pins s σ H _ I h) fun v s1 ⟨x,H1,I1,r1,q1⟩=>test_link (thn (hb pins s1 σ H1 _ I1 q1) fun u s2 ⟨y,H2,I2,r2,q2⟩=>
  thn (ho pins s2 σ H2 x y v u _ I2 r1 r2 q2) fun d s3 ⟨z,H3,I3,r3,k,e,q3⟩=>?_)) hm
 subst e;cases r3;refine RC ?_;cases k with
 |false=>
  obtain⟨k',e',q'⟩:=q3;cases e';exact ite_ff ⟨H3,I3,q'⟩
 |true=>
  refine ite_tt (test_last (thn (hc pins s3 σ H3 _ I3 q3) fun w' s4 ⟨z',H4,I4,r4,q4⟩=>thn (ho' pins s4 σ H4 y z' u w' _ I4 r2 r4 q4) ?_));rintro d' s5 ⟨z2,H5,I5,r5,k2,e2,q5⟩;subst e2;cases r5;exact RC ⟨H5,I5,q5⟩
noncomputable def HZ(K:Qg)(x:V)(H:Hp)(k:Bool):Prop:=
 match x with
 | .non=>k=false
 | .bl b=>k=b
 | .int i=>k=(i != 0)
 | .str y=>y.length<=sizeLine/\k=((y.length:Int) != 0)
 | .byt y=>y.size<=sizeLine/\k=((y.size:Int) != 0)
 | .ref p=>(∃xs,SqL K H p xs/\k=!xs.isEmpty)\/(∃xs,SqT K H p xs/\k=!xs.isEmpty)\/∃kvs,H p=some (.dK kvs)/\k=!kvs.isEmpty
 | _=>False
theorem xt{κ:Type}{kvs:List (κ×V)}{vs:List (κ×Qf)}(r:KV kvs vs):(!vs.isEmpty)=!kvs.isEmpty:=by cases r <;> rfl
theorem qI{xs:List V}{its:List Qf}(r:Vals xs its):(!its.toArray.isEmpty)=!xs.isEmpty:=by cases r <;> simp
theorem kP:(sizeLine:Nat)<2 ^ 63:=by rw[sizeLine_eq];decide
theorem Ik:KQ X (fun x H Q=>∃k,HZ X.K x H k/\Q k H):=by
 intro pins s σ H x v Q I rx h;obtain⟨k,e,q⟩:=h;have hl:=kP;have hs:sizeLine=16777216:=sizeLine_eq;cases x with
 |non=>
  cases rx;have e':k=false:=e;subst e';exact truthy_none ⟨H,I,q⟩
 |bl b=>
  cases rx;have e':k=b:=e;subst e';exact RC ⟨H,I,q⟩
 |int i=>
  obtain⟨t,rfl⟩:=rx;have e':k=(i != 0):=e;subst e';exact PySem.P.truthy_int ⟨H,I,q⟩
 |str y=>
  obtain⟨t,rfl⟩:=rx;obtain⟨hy,e'⟩:y.length<=sizeLine/\k=((y.length:Int) != 0):=e;subst e';exact PySem.P.truthy_str (by lia) ⟨H,I.tok _,q⟩
 |byt y=>
  obtain⟨t,rfl⟩:=rx;obtain⟨hy,e'⟩:y.size<=sizeLine/\k=((y.size:Int) != 0):=e;subst e';exact PySem.W.truthy_bytes (by lia) ⟨H,I.tok _,q⟩
 |ref p=>
  cases rx;have e':(∃xs,SqL X.K H p xs/\k=!xs.isEmpty)\/(∃xs,SqT X.K H p xs/\k=!xs.isEmpty)\/∃kvs,H p=some (.dK kvs)/\k=!kvs.isEmpty:=e;rcases e' with⟨xs,hx,e'⟩|⟨xs,hx,e'⟩|⟨kvs,hx,e'⟩
  ·subst e';obtain⟨its,r,pl,hz⟩:=I.list hx;have hlen:=r.length;exact wpAny_truthy_list pl.isList (by simp only[r_];lia) ⟨H,I.tok _,by rw[qI r];exact q⟩
  ·subst e';obtain⟨its,r,pl,hz⟩:=I.tuple hx;have hlen:=r.length;exact truthy_tuple pl (by simp only[r_];lia) ⟨H,I.tok _,by rw[qI r];exact q⟩
  ·subst e';obtain⟨hz,hS,vs,r,m⟩:kvs.length<=sizeLine/\(p == Q9)=false/\∃vs,KV kvs vs/\s.heap.DictOf (bo X.prog X.w) p vs:=I.hok p _ hx;have hlen:kvs.length=vs.length:=RE r;exact wpAny_truthy_dict hS m (by lia) ⟨H,I.tok _,by rw[xt r];exact q⟩
 | _=>exact(show False from e).elim
theorem CN(ha:PE X a ta)(he:∀whole,U1 a X.env whole=(do let v <-whole;V4 a.pos;S9 [v] (truthy v))) :
  PT X a (fun σ H Q=>ta σ H fun x H'=>∃k,HZ X.K x H' k/\Q k H'):=by
 intro pins s σ H Q I h;exact isTrue_plain (thn (ha pins s σ H _ I h) fun v s1 ⟨x,H1,I1,r1,q1⟩=>Ik pins s1 σ H1 x v Q I1 r1 q1) (he _)
theorem xa:OpR X (Ro .Add) (fun x y H Q=>∃i j,x=.str i/\y=.str j/\i.length+j.length<=sizeLine/\Q (.str (i++j)) H):=by intro pins s σ H x y v u Q I rx ry h;obtain⟨i,j,rfl,rfl,hz,q⟩:=h;obtain⟨t,rfl⟩:=rx;obtain⟨t',rfl⟩:=ry;exact add_str (fun t' tk=>⟨.str (i++j),H,I.tok _,⟨_,rfl⟩,q⟩) hz
theorem vals1{x:V}{us:List Qf}(r:Vals [x] us):∃u,us=[u]/\RelV x u:=by
 cases r with
 |cons r1 r2=>cases r2;exact⟨_,rfl,r1⟩
theorem vals2{x y:V}{us:List Qf}(r:Vals [x,y] us):∃u w',us=[u,w']/\RelV x u/\RelV y w':=by
 cases r with
 |cons r1 r2=>
  cases r2 with
  |cons r3 r4=>cases r4;exact⟨_,_,rfl,r1,r3⟩
theorem BA:bE X (.builtin "abs") (fun xs H Q=>∃i,xs=[.int i]/\Q (.int (if i<0 then -i else i)) H):=by intro pins s σ H xs us Q I r h;obtain⟨i,rfl,q⟩:=h;obtain⟨u,rfl,t,rfl⟩:=vals1 r;exact call_abs_int fun u tk=>⟨.int (if i<0 then -i else i),H,I.tok _,⟨_,rfl⟩,q⟩
theorem zW(hc:X.calm=true):bE X (.builtin "max") (fun xs H Q=>∃i j,xs=[.int i,.int j]/\Q (.int (if j > i then j else i)) H):=by
 intro pins s σ H xs us Q I r h;obtain⟨i,j,rfl,q⟩:=h;obtain⟨u,w',rfl,⟨t,rfl⟩,⟨t',rfl⟩⟩:=vals2 r;refine max_two_ints (I.ok.hd hc) fun h' tk k=>⟨_,H,I.kept k,?_,q⟩;by_cases hj:j > i
 ·rw[if_pos hj,if_pos hj];exact⟨_,rfl⟩
 rw[if_neg hj,if_neg hj];exact⟨_,rfl⟩
theorem Ay(hc:X.calm=true):bE X (.builtin "min") (fun xs H Q=>∃i j,xs=[.int i,.int j]/\Q (.int (if j<i then j else i)) H):=by
 intro pins s σ H xs us Q I r h;obtain⟨i,j,rfl,q⟩:=h;obtain⟨u,w',rfl,⟨t,rfl⟩,⟨t',rfl⟩⟩:=vals2 r;refine min_two_ints (I.ok.hd hc) fun h' tk k=>⟨_,H,I.kept k,?_,q⟩;by_cases hj:j<i
 ·rw[if_pos hj,if_pos hj];exact⟨_,rfl⟩
 rw[if_neg hj,if_neg hj];exact⟨_,rfl⟩
theorem vO:bE X (.builtin "divmod") (fun xs H Q=>∃i j,xs=[.int i,.int j]/\E6 i j/\∀p,H p=none->Q (.ref p) (upd H p (.tup [.int (i/j),.int (i%j)]))):=by intro pins s σ H xs us Q I r h;obtain⟨i,j,rfl,⟨h1,h2⟩,q⟩:=h;obtain⟨u,w',rfl,⟨t,rfl⟩,⟨t',rfl⟩⟩:=vals2 r;refine divmod_int (by lia) ?_ (.inl (Uq (by lia)));rw[Ob i (by lia),Oe i (by lia)];have hn:H s.heap.objs.size=none:=I.hok.fresh (b_ _);refine⟨.ref s.heap.objs.size,_,?_,rfl,q _ hn⟩;refine I.laid (fun b o e=>Qk _ e) (b_ _) ⟨by simp only[h_,LR];rw[sizeLine_eq];decide,[.int (i/j) s.toks,.int (i%j) (s.toks+1)],.cons ⟨_,rfl⟩ (.cons ⟨_,rfl⟩ .nil),?_⟩;exact⟨_,Qo s.heap rfl,rfl,0,rfl⟩
end
theorem qZ.some_of {v:V}{o:Option Qf}(r:qZ (some v) o):∃u,o=some u/\RelV v u:=by
 cases o with
 |none=>exact(show False from r).elim
 |some u=>exact⟨u,rfl,r⟩
structure Room (k:Nat) (A:QE):Prop where
 hd:A.handled=none
 dp:A.depth+3*k+5<recursionLimit
 un:A.units+16*k+200<cLine
 gs:A.guards=some []
theorem Room.mono {j k:Nat}{A:QE}(r:Room k A)(h:j<=k):Room j A:=⟨r.hd,by have:=r.dp;lia,by have:=r.un;lia,r.gs⟩
theorem Room.deeper {k:Nat}{A:QE}(r:Room (k+1) A)(env:Env):Room k (A.deeper env):=
 ⟨r.hd,by have:=r.dp;show A.depth+1+3*k+5<_;lia,by have:=r.un;show A.units+3+16*k+200<_;lia,r.gs⟩
theorem Room.depth {k:Nat}{A:QE}(r:Room k A):A.depth<recursionLimit:=by have:=r.dp;lia
theorem Room.units {k:Nat}{A:QE}(r:Room k A):A.units+64<cLine:=by have:=r.un;lia
noncomputable def La:TA:=fun _ H Q=>Q [] H
noncomputable def Jj(ta:TE)(tr:TA):TA:=fun σ H Q=>ta σ H fun x H1=>tr σ H1 fun xs H2=>Q (x::xs) H2
section
variable{X:Cx}{e:Qx}{es:List Qx}{te:TE}{t:TA}{pos:Pos}
theorem lK:PA X [] La:=fun _ _ _ _ H Q I h=>Vf ⟨[],H,I,.nil,h⟩
theorem f9(ha:PE X e te)(hr:PA X es t)(hs:QA (e::es) X.env=(false,QO e X.env)::QA es X.env:=by rfl):PA X (e::es) (Jj te t):=by intro pos pins s σ H Q I h;rw[hs];show Qn _ _ (spliced ((false,QO e X.env)::Si pos (QA es X.env))) _ _ s;refine R9 (thn (ha pins s σ H _ I h) ?_);rintro u s1 ⟨x,H1,I1,r1,q1⟩;exact thn (hr pos pins s1 σ H1 _ I1 q1) fun us s2 ⟨xs,H2,I2,r2,q2⟩=>⟨x::xs,H2,I2,.cons r1 r2,q2⟩
noncomputable def KJ(t:TA):TE:=fun σ H Q=>t σ H fun xs H1=>xs.length<=sizeLine/\∀p,H1 p=none->Q (.ref p) (upd H1 p (.lst xs))
theorem Bk(h:PA X es t):PE X (.List es pos) (KJ t):=by intro pins s σ H Q I hq;refine U4 (thn (h pos pins s σ H _ I hq) fun us s1 ⟨xs,H1,I1,r,z,q⟩=>⟨by rw[<-r.length];exact z,?_⟩);have hf:H1 s1.heap.objs.size=none:=I1.hok.fresh (b_ _);refine⟨.ref s1.heap.objs.size,upd H1 s1.heap.objs.size (.lst xs),I1.laid (t':=s1.toks) (fun b u e=>Qk _ e) (b_ _) ?_,rfl,q _ hf⟩;exact⟨z,us,0,r,Qo _ rfl⟩
end
abbrev Sp:=List V->Hp->VK->XK->Prop
abbrev CXT:=List Env->Hp->Qi->XK->Qf->Qi->Prop
structure Env0 (P:Qv) (w:Qy) (K:Qg) (mg:Str->Option Qf) (base:Qz) (A:QE) (outer:List Env) (s:Qi) (H:Hp):Prop where
 frames:A.frames=some outer
 mod:Mod K mg base
 bs:∀b o,base.get? b=some o->s.heap.get? b=some o/\H b=none
 bsz:base.objs.size<=s.heap.objs.size
 qE:s.heap.FunFrames base outer
 frf:∀b∈frs outer,H b=none
 hok:HOk P w H s.heap
 bare:S7 s.gens
noncomputable def CE(outer:List Env)(P:Qv)(w:Qy)(H:Hp)(s:Qi)(Q:VK)(u:Qf)(s':Qi):Prop:=
 ∃v H',s'.os=s.os/\S7 s'.gens/\Un (frs outer) [] H H' s.heap s'.heap/\HOk P w H' s'.heap/\RelV v u/\Q v H'
noncomputable def CR(CX:CXT)(outer:List Env)(P:Qv)(w:Qy)(H:Hp)(s:Qi)(Q:VK)(E:XK)(r:WI)(s':Qi):Prop:=
 match r with
 | .ok (.ret u)=>CE outer P w H s Q u s'
 | .ok _=>False
 | .error e=>CX outer H s E e s'
structure FnOk (P:Qv) (w:Qy) (K:Qg) (mg:Str->Option Qf) (base:Qz) (CX:CXT) (k:Nat) (f:Qh) (fd:QF) (ps:List Str) (sp:Sp):Prop where
 len:∀vs H Q E,sp vs H Q E->vs.length=ps.length
 run:∀(A:QE) (outer:List Env) (s:Qi) (H:Hp) (args:Args) (us:List Qf) (vs:List V) (Q:VK) (E:XK),Room k A->Env0 P w K mg base A outer s H->Uy s fd args (ps.zip us)->Vals vs us->sp vs H Q E->
  R7 (Qs P w) A (.call (.ref f) args) (CR CX outer P w H s Q E) s
theorem FnOk.imp {P:Qv}{w:Qy}{K:Qg}{mg:Str->Option Qf}{base:Qz}{CX:CXT}{k:Nat}{f:Qh}{fd:QF}{ps:List Str}{sp sp':Sp}(F:FnOk P w K mg base CX k f fd ps sp)
  (h:∀vs H Q E,sp' vs H Q E->sp vs H Q E):FnOk P w K mg base CX k f fd ps sp':=
 ⟨fun vs H Q E q=>F.len vs H Q E (h _ _ _ _ q),fun A outer s H args us vs Q E hr he hb hv hs=>F.run A outer s H args us vs Q E hr he hb hv (h _ _ _ _ hs)⟩
section
variable{X:Cx}{pins:List (Qh×Obj)}{σ:St}{H:Hp}{s s':Qi}
theorem Inv.L5 (I:Inv X pins σ H s):Env0 X.prog X.w X.K X.mg X.base X.A X.stack s H:=
 ⟨I.ok.frames,I.ok.mod,I.bs,m_ I.ok.bsz I.sz,I.stack,I.zJ,I.hok,I.bare⟩
theorem Inv.after {Q:VK}{u:Qf}(I:Inv X pins σ H s)(h:CE X.stack X.prog X.w H s Q u s'):EP X pins σ Q u s':=by obtain⟨v,H',os,bare,un,hok,r,q⟩:=h;obtain⟨hh,g,d,t,os'⟩:=s';obtain rfl:os'=s.os:=os;exact⟨v,H',I.call (h':=hh) (g':=g) (d':=d) (t':=t) (ch:=[]) un hok bare (fun b z=>absurd z (by simp)),r,q⟩
end
noncomputable def CK(sp:Sp)(dvs:List V)(E:XK)(t:TA):TE:=fun σ H Q=>t σ H fun vs H1=>sp (vs++dvs) H1 Q E
noncomputable def Binds(K:Qg)(fd:QF)(ps:List Str)(ds:List Qf):Prop:=
 ∀(s:Qi) (us:List Qf),K.In s.heap->(us++ds).length=ps.length->Uy s fd ⟨us,[]⟩ (ps.zip (us++ds))
theorem Binds.all {K:Qg}{fd:QF}{ps:List Str}(h:∀us:List Qf,us.length=ps.length->WJ fd ⟨us,[]⟩=pure (ps.zip us)):Binds K fd ps []:=fun s us _ hl=>by rw[E_]at hl ⊢;exact .of_eq (h us hl)
noncomputable def Passes(CX:CXT)(X:Cx)(E:XK):Prop:=∀(pins:List (Qh×Obj)) (σ:St) (H:Hp) (s:Qi) (e:Qf) (s':Qi),Inv X pins σ H s->CX X.stack H s E e s'->X.xe e s'
section
variable{X:Cx}{CX:CXT}{k:Nat}{f C:Qh}{fd:QF}{ps:List Str}{sp:Sp}{dvs:List V}{ds:List Qf}{E:XK}{x m:Str}{p pos apos:Pos}{e o:Qx}{es:List Qx}{ta:TE}{t:TA}
theorem GP{pins:List (Qh×Obj)}{σ:St}{H:Hp}{s:Qi}{Q:VK}{us:List Qf}{vs:List V}(F:FnOk X.prog X.w X.K X.mg X.base CX k f fd ps sp)(hr:Room k X.A)(hb:Binds X.K fd ps ds)(hd:Vals dvs ds)(hx:Passes CX X E)
  (I:Inv X pins σ H s) (r:Vals vs us) (h:sp (vs++dvs) H Q E):Qn (Qs X.prog X.w) X.A (call (.ref f) us) (EP X pins σ Q) X.xe s:=by
 have r2:Vals (vs++dvs) (us++ds):=r.append hd;have hl:(us++ds).length=ps.length:=by rw[<-r2.length];exact F.len _ _ _ _ h
 refine wpAny_call (RZ (F.run X.A X.stack s H ⟨us,[]⟩ (us++ds) (vs++dvs) Q E hr I.L5 (hb s us I.kIn hl) r2 h) fun r s' hq=>?_);cases r with
 |error e=>exact hx pins σ H s e s' I hq
 |ok fl=>
  cases fl with
  |ret u=>exact I.after hq
  |next=>exact QC hq
  |brk=>exact QC hq
  |cont=>exact QC hq
theorem Es(F:FnOk X.prog X.w X.K X.mg X.base CX k f fd ps sp)(hr:Room k X.A)(hg:Gl X x)(hm:X.mg x=some (.ref f))(hk:SN X.K (.ref f)=true)(hb:Binds X.K fd ps ds)(hd:Vals dvs ds)(hx:Passes CX X E)
  (ha:PA X (e::es) t) (hdb:(x ==("__debug__":Str))=false:=by decide) (he:QA (e::es) X.env=(false,QO e X.env)::QA es X.env:=by rfl) (hpl:(Si pos (QA es X.env)).any (·.1)=false:=by rfl) :
  PE X (.Call (.Name x p) (e::es) [] pos) (CK sp dvs E t):=by
 intro pins s σ H Q I h;refine Ri (yI I hg hm ?_ hdb);refine PySem.W.callWith_K (h₀:=X.base) I.ok.mod.kin hk (thn (ha pos pins s σ H _ I h) fun us s1 ⟨vs,H1,I1,r,q⟩=>⟨I1.kIn,?_⟩) he hpl;exact GP F hr hb hd hx I1 r q
end
structure FnScope (N P:List Str) (sc:Rc):Prop where
 kind:sc.kind=.function
 co:sc.isCoroutine=false
 gen:sc.isGenerator=false
 nd:N.Nodup
 pre:N.take P.length=P
 par:∀x∈P,sc.names.lookup x=some .local\/sc.names.lookup x=some .cell
 nofree:∀y∈sc.names,y.2≠.free
theorem rE{kindOf:Str->Option R0}{x:Str}:∀{binds:List (Str×Qf)}{m:Str->Option Qf},(∀v,(x,v) ∉ binds)->UL kindOf binds m x=m x
 | [],_,_=>rfl
 | (n,v)::r,m,h=>by
  unfold UL;rw[rE fun w hw=>h w (l_ _ hw)];split
  ·have:x≠n:=by rintro rfl;exact h v p_
   simp[this]
  rfl
theorem rL{kindOf:Str->Option R0}{x:Str}:∀{binds:List (Str×Qf)}{m:Str->Option Qf},(∀v,(x,v) ∉ binds)->UM kindOf binds m x=m x
 | [],_,_=>rfl
 | (n,v)::r,m,h=>by
  unfold UM;rw[rL fun w hw=>h w (l_ _ hw)];split
  ·rfl
  have:x≠n:=by rintro rfl;exact h v p_
  simp[this]
theorem sj{kindOf:Str->Option R0}{x:Str}{v:Qf}:∀{P:List Str}{vs:List Qf}{i:Nat}{m:Str->Option Qf},P.Nodup->P[i]?=some x->vs[i]?=some v->kindOf x=some .local->
  UL kindOf (P.zip vs) m x=some v
 | [],_,_,_,_,h,_,_=>by simp at h
 | _::_,[],_,_,_,_,h,_=>by simp at h
 |p::P,w::vs,0,m,nd,h1,h2,hk=>by simp at h1 h2;subst h1;subst h2;show UL kindOf ((p,w)::P.zip vs) m p=_;unfold UL;rw[rE fun v hv=>(F'.mp nd).1 (OF hv).1,if_pos hk];simp
 |p::P,w::vs,i+1,m,nd,h1,h2,hk=>by show UL kindOf ((p,w)::P.zip vs) m x=_;unfold UL;exact sj (i:=i) (F'.mp nd).2 (by simpa using h1) (by simpa using h2) hk
theorem sL{kindOf:Str->Option R0}{x:Str}{v:Qf}:∀{P:List Str}{vs:List Qf}{i:Nat}{m:Str->Option Qf},P.Nodup->P[i]?=some x->vs[i]?=some v->kindOf x≠some .local->
  UM kindOf (P.zip vs) m x=some v
 | [],_,_,_,_,h,_,_=>by simp at h
 | _::_,[],_,_,_,_,h,_=>by simp at h
 |p::P,w::vs,0,m,nd,h1,h2,hk=>by simp at h1 h2;subst h1;subst h2;show UM kindOf ((p,w)::P.zip vs) m p=_;unfold UM;rw[rL fun v hv=>(F'.mp nd).1 (OF hv).1,if_neg hk];simp
 |p::P,w::vs,i+1,m,nd,h1,h2,hk=>by show UM kindOf ((p,w)::P.zip vs) m x=_;unfold UM;exact sL (i:=i) (F'.mp nd).2 (by simpa using h1) (by simpa using h2) hk
noncomputable def start(N:List Str)(vs:List V):St:=vs.map some++MB (N.length-vs.length) none
noncomputable def wJ(CX:CXT)(P:Qv)(w:Qy)(K:Qg)(mg:Str->Option Qf)(base:Qz)(N:List Str)(qual:Str)(scope:Rc)(f:Qh)(cd:Qf)(A:QE)(outer:List Env)(s:Qi)(H:Hp)(E:XK):Cx where
 prog:=P
 w:=w
 K:=K
 mg:=mg
 base:=base
 A:=A.deeper (Td qual scope s.heap.objs.size f cd)
 N:=N
 s₀:=s
 H₀:=H
 env:=Td qual scope s.heap.objs.size f cd
 outer:=outer
 stack:=Td qual scope s.heap.objs.size f cd::outer
 ex:=[]
 calm:=true
 fn:=fun _=>true
 pn:=[]
 xe:=fun e s'=>Qn (Qs P w) (A.deeper (Td qual scope s.heap.objs.size f cd)) (leaving (Td qual scope s.heap.objs.size f cd) e) (fun _ s''=>CX outer H s E e s'') (fun e' s''=>CX outer H s E e' s'') s'
theorem vj{sc:Rc}{n:Nat}{x:Str}(h:sc.names.lookup x=some .cell):∃c,(Wi n sc.names []).lookup x=some c:=by have q:=Ur sc.names n [] (.inl h);exact Option.isSome_iff_exists.mp q
theorem AG{CX:CXT}{P:Qv}{w:Qy}{K:Qg}{mg:Str->Option Qf}{base:Qz}{N ps:List Str}{qual:Str}{scope:Rc}{f:Qh}{cd:Qf}{A:QE}{outer:List Env}{s s1:Qi}{H:Hp}{E:XK}{us:List Qf}{vs:List V}
  (S:FnScope N ps scope) (hd:A.handled=none) (e0:Env0 P w K mg base A outer s H) (hl:vs.length=ps.length) (r:Vals vs us)
  (x:InCallC s s.heap.objs.size (UL (Td qual scope s.heap.objs.size f cd).kindOf (ps.zip us) fun _=>none) (Wi (s.heap.objs.size+1) scope.names []) (UM (Td qual scope s.heap.objs.size f cd).kindOf (ps.zip us) fun _=>none) s1) :
  Inv (wJ CX P w K mg base N qual scope f cd A outer s H E) [] (start N vs) H s1:=by
 have hpl:ps.length<=N.length:=by have:=congrArg N9 S.pre;rw[D']at this;lia
 obtain⟨h1,tk,rfl,hk⟩:=x.done;have noA:∀b:Qh,b ∉ (wJ CX P w K mg base N qual scope f cd A outer s H E).ex:=fun b z=>absurd (show b∈([]:List Qh)from z) (by simp)
 refine⟨⟨e0.mod,S.kind,rfl,rfl,b_ _,fun y z c h1 h2=>?_,fun y hy=>?_,fun y c _ h=>?_,fun _=>hd,Around.frames_deeper e0.frames,.inr ⟨rfl,rfl⟩,fun b z=>absurd z (noA b),e0.bs,e0.bsz,fun b _ _=>noA b,fun b z=>absurd z (noA b),e0.qE,e0.frf⟩,
  rfl,e0.bare,Un.kept hk,⟨_,x.toInCall.ns,fun i y v h1 h2 h3=>?_⟩,fun y c h=>⟨_,x.cell y c h⟩,e0.hok.fresh (b_ _),fun y c h=>?_,fun p hp=>absurd (show p∈([]:List (Qh×Obj))from hp) (by simp),e0.hok.kept hk,?_⟩
 ·exact name_of_addr x.apart (Rq h1) (Rq h2)
 ·have hy:scope.names.lookup y=some .cell\/scope.names.lookup y=some .free:=hy;rcases hy with hy|hy
  ·exact vj hy
  exact absurd rfl (S.nofree _ (Rq hy))
 ·exact K_ (x.above y c (Rq h))
 ·have hi:i<vs.length:=by
   unfold start at h2;by_cases hi:i<vs.length
   ·exact hi
   rw[Ly (by simpa using hi)]at h2;rw[List.getElem?_replicate]at h2;split at h2 <;> cases h2
  have ha:vs[i]?=some v:=by
   unfold start at h2;rw[Mv (by simpa using hi),D_]at h2;cases e:vs[i]? with
   |none=>rw[e]at h2;cases h2
   |some a=>rw[e]at h2;cases h2;rfl
  obtain⟨u,hu,rv⟩:=r.get ha;have hp:ps[i]?=some y:=by rw[<-S.pre,List.getElem?_take_of_lt (by lia)];exact h1
  have ndP:ps.Nodup:=by rw[<-S.pre];exact S.nd.sublist (M1 _ _)
  refine⟨u,rv,?_⟩;rcases S.par y (G_ hp)with k|k
  ·exact .inl ⟨k,sj ndP hp hu k⟩
  obtain⟨c,e⟩:=vj (n:=s.heap.objs.size+1) k;refine .inr ⟨.inl k,c,e,?_⟩;have q:=x.cell y c e;rw[sL ndP hp hu (by show scope.names.lookup y≠_;rw[k];decide)]at q;exact q
 ·exact e0.hok.fresh (K_ (x.above y c (Rq h)))
 unfold start;show _=N.length;rw[f',a_,List.length_replicate];lia
theorem K6{CX:CXT}{P:Qv}{w:Qy}{K:Qg}{mg:Str->Option Qf}{base:Qz}{k:Nat}{f:Qh}{name qual:Str}{params:Arguments}{body:List QR}{scope:Rc}{dV kV doc pm cdv ct oc:Qf}{an od:Option Qh}
  {osl:Array (Option Qf)}{N ps:List Str}{sp:Sp} (lk:K.lookup f=some ⟨oc,od,.func (RN name qual params body scope dV kV doc pm an cdv ct),osl⟩) (hcd:Tp K cdv qual=true) (S:FnScope N ps scope)
  (len:∀vs H Q E,sp vs H Q E->vs.length=ps.length)
  (hbody:∀(A:QE) (outer:List Env) (s:Qi) (H:Hp) (vs:List V) (Q:VK) (E:XK),Room k (A.deeper (Td qual scope s.heap.objs.size f cdv))->sp vs H Q E->
   ∃t,PSs (wJ CX P w K mg base N qual scope f cdv A outer s H E) body t/\t { nx:=fun _ H'=>Q .non H',rt:=Q} (start N vs) H) :
  FnOk P w K mg base CX (k+1) f (RN name qual params body scope dV kV doc pm an cdv ct) ps sp:=by
 refine⟨len,fun A outer s H args us vs Q E hr e0 hb r hsp=>?_⟩;have hl:=len _ _ _ _ hsp;have KX:K.In s.heap:=e0.mod.kin.keeps fun b o e=>(e0.bs b o e).1;have lim:s.heap.NoLimit:=e0.mod.nolimit.keeps fun b o e=>(e0.bs b o e).1;have hkind:∀y∈ps.zip us,scope.names.lookup y.1=some .local\/(scope.names.lookup y.1=some .cell/\((Wi (s.heap.objs.size+1) scope.names []).lookup y.1).isSome=true):=fun⟨n,v⟩ hy=>by
  rcases S.par n (OF hy).1 with q|q
  ·exact .inl q
  exact .inr ⟨q,Ur _ _ _ (.inl q)⟩
 refine codeAny_call_function hr.depth (KX _ _ lk) rfl S.co S.gen rfl (PySem.W.codeRec_of KX hcd) (hb _ _ _ _ ?_);refine wpAny_newFunctionEnv_cells S.kind hkind fun env he s1 x=>?_;subst he;refine⟨lim.keeps x.toInCall.keep,codeAny_func ?_⟩;obtain⟨t,ht,hq⟩:=hbody A outer s H vs Q E (hr.deeper _) hsp;have I:Inv (wJ CX P w K mg base N qual scope f cdv A outer s H E) [] (start N vs) H s1:=AG S hr.hd e0 hl r x;refine QM (ht [] s1 (start N vs) H _ I hq) (fun fl s' hs=>?_) fun e s' hs=>hs;have fin:∀{σ':St}{H':Hp}{v:V}{u:Qf},Inv (wJ CX P w K mg base N qual scope f cdv A outer s H E) [] σ' H' s'->RelV v u->Q v H'->CE outer P w H s Q u s':=
  fun{σ' H' v u} J rv q=>⟨v,H',J.os,J.bare,J.base,J.hok,rv,q⟩
 cases fl with
 |ret u=>
  obtain⟨v,σ',H',J,rv,q⟩:=hs;exact fin J rv q
 |next=>
  obtain⟨σ',H',J,q⟩:=hs;exact fin (v:=V.non) (u:=QT) J rfl q
 |brk=>
  obtain⟨_,_,_,q⟩:=hs;exact QC q
 |cont=>
  obtain⟨_,_,_,q⟩:=hs;exact QC q
section
variable{X:Cx}{x:Str}{p pos:Pos}{e:Qx}{es:List Qx}{t:TA}{id T:String}{r:List V->Hp->VK->Prop}
noncomputable def tCB(r:List V->Hp->VK->Prop)(t:TA):TE:=fun σ H Q=>t σ H fun vs H1=>r vs H1 Q
theorem qm(hc:bE X (.builtin id) r)(hg:Gl X x)(hm:X.mg x=none)(hv:RL x=some (.builtin id))(ha:PA X (e::es) t)(hn:x≠"__name__":=by decide)(hdb:(x ==("__debug__":Str))=false:=by decide)
  (he:QA (e::es) X.env=(false,QO e X.env)::QA es X.env:=by rfl) (hpl:(Si pos (QA es X.env)).any (·.1)=false:=by rfl):PE X (.Call (.Name x p) (e::es) [] pos) (tCB r t):=by
 intro pins s σ H Q I h;refine Ri (eS I hg hm hv ?_ hn hdb);exact VH (thn (ha pos pins s σ H _ I h) fun us s1 ⟨vs,H1,I1,r1,q1⟩=>hc pins s1 σ H1 vs us Q I1 r1 q1) he hpl
theorem rF(hc:bE X (.type T) r)(hg:Gl X x)(hm:X.mg x=none)(hv:RL x=some (.type T))(ha:PA X (e::es) t)(hn:x≠"__name__":=by decide)(hdb:(x ==("__debug__":Str))=false:=by decide)
  (he:QA (e::es) X.env=(false,QO e X.env)::QA es X.env:=by rfl) (hpl:(Si pos (QA es X.env)).any (·.1)=false:=by rfl):PE X (.Call (.Name x p) (e::es) [] pos) (tCB r t):=by
 intro pins s σ H Q I h;refine Ri (eS I hg hm hv ?_ hn hdb);exact RM (thn (ha pos pins s σ H _ I h) fun us s1 ⟨vs,H1,I1,r1,q1⟩=>hc pins s1 σ H1 vs us Q I1 r1 q1) he hpl
end
end L2
namespace HT
open PySem PyProof.Rows
section
variable{prog:Qv}{w:Qy}{A:QE}{E:Qf->Qi->Prop}{s:Qi}
theorem Fd{t b:Qh}{vs ws:List Qf}{Q:Qf->Qi->Prop}(ht:WA s.heap t vs.toArray)(hb:WA s.heap b ws.toArray)(hv:vs≠[])
  (h1:ws=[]->Q (.ref t) s) (h2:ws≠[]->Q (.ref s.heap.objs.size) {s with heap:=s.heap.push { cls:=.type "tuple",data:=.seq (vs++ws).toArray} })
  (hsz:vs.length+ws.length<=sizeLine):Qn (Qs prog w) A (Ro .Add (.ref t) (.ref b)) Q E s:=by
 obtain⟨⟨cls,dd,data,sl⟩,ho,hc,n,hd⟩:=id ht;obtain⟨⟨cls2,dd2,data2,sl2⟩,ho2,hc2,n2,hd2⟩:=id hb;simp only at hc hd hc2 hd2;subst hc hd hc2 hd2;have e:vs.toArray++ws.toArray=(vs++ws).toArray:=by simp
 by_cases hw:ws=[]
 ·exact U5 ⟨_,ho,rfl⟩ ⟨_,ho2,rfl⟩ T6 UT SX SO (SF _ _)
   (tuple_addW1 t b vs.toArray ws.toArray n n2 dd dd2 sl sl2 (by simpa using hv) (by simp[hw])) ⟨ho,ho2,h1 hw⟩
 refine U5 ⟨_,ho,rfl⟩ ⟨_,ho2,rfl⟩ T6 UT SX SO (SF _ _)
  (tuple_addW2 t b vs.toArray ws.toArray n n2 dd dd2 sl sl2 (by simpa using hv) (by simpa using hw) (by rw[r_,r_];exact hsz)) ⟨ho,ho2,?_⟩
 rw[e];exact h2 hw
noncomputable def sIx(n d:Nat):Option Int->Nat
 |none=>d
 |some v=>if v<0 then(v+(n:Int)).toNat else min v.toNat n
theorem AR(n d:Nat):sIx n d none=d:=rfl
theorem F5(n d k:Nat):sIx n d (some (k:Int))=min k n:=by show(if(k:Int)<0 then((k:Int)+(n:Int)).toNat else min (k:Int).toNat n)=min k n;rw[if_neg (by lia),LK]
theorem Hf(n d:Nat)(hd:d<=n)(o:Option Int):sIx n d o<=n:=by
 cases o with
 |none=>exact hd
 |some v=>
  show(if v<0 then(v+(n:Int)).toNat else min v.toNat n)<=n;by_cases hv:v<0
  ·rw[if_pos hv];lia
  rw[if_neg hv];exact Nat.min_le_right _ _
theorem yO(v:Int)(n d:Nat):(if v<0 then max (v+(n:Int)) 0 else min v (n:Int))=((sIx n d (some v):Nat):Int):=by
 show(if v<0 then max (v+(n:Int)) 0 else min v (n:Int))=(((if v<0 then(v+(n:Int)).toNat else min v.toNat n):Nat):Int);by_cases hv:v<0
 ·simp only[if_pos hv];lia
 simp only[if_neg hv];lia
theorem xj(lo hi:Option Int)(n:Nat):Sz lo hi 1 (n:Int)=(((sIx n 0 lo:Nat):Int),((sIx n n hi:Nat):Int)):=by
 have h1:¬((1:Int)<0):=by lia
 unfold Sz;simp only[h1,if_false];refine Nt ?_ ?_
 ·cases lo with
  |none=>rfl
  |some v=>exact yO v n 0
 cases hi with
 |none=>rfl
 |some v=>exact yO v n n
theorem xo(i j:Nat):RU (i:Int) (j:Int) 1=j-i:=by
 unfold RU;have h1:(1:Int) > 0:=by lia
 simp only[h1,if_true,Int.ediv_one];split <;> lia
theorem pW{v:Qf}{o:Option Int}{Q:Option Int->Qi->Prop}(p:T7 v o)(h:Q o s):Qn (Qs prog w) A (V5 v) Q E s:=by
 cases p with
 |none=>exact V6 h
 |int i t=>exact slicePart_int h
theorem nC{sl:Qh}{vl vu:Qf}{lo hi:Option Int}{n:Nat}{Q:Int×Int×Nat->Qi->Prop}(hs:s.heap.IsSliceOf sl vl vu .none)(pl:T7 vl lo)(pu:T7 vu hi)
  (h:Q (((sIx n 0 lo:Nat):Int),1,sIx n n hi-sIx n 0 lo) s):Qn (Qs prog w) A (TF (.ref sl) (pure (n:Int))) Q E s:=by
 obtain⟨os,hos,hcs,hds⟩:=id hs;unfold TF WC;refine Qe (Qe (Rb hos hds (x:=vl) rfl (Qe (Rb hos hds (x:=vu) rfl (Qe (Rb hos hds (x:=.none) rfl (Qj ?_)))))));refine Qe (V6 ?_);show Qn _ _ (if((1:Int) == 0)=true then _ else _) _ _ s;rw[if_neg (by decide)];refine Qe (pW pl (Qe (pW pu (Qe (Qj ?_)))));show Qn _ _ (match Sz lo hi 1 (n:Int)with|(lo,hi)=>pure (lo,(1:Int),RU lo hi 1)) _ _ s;rw[xj lo hi n];show Qn _ _ (pure (((sIx n 0 lo:Nat):Int),(1:Int),RU ((sIx n 0 lo:Nat):Int) ((sIx n n hi:Nat):Int) 1)) _ _ s;rw[xo];exact Qj h
theorem AU(xs:Array Qf)(i k:Nat):((A_ k).filterMap fun(m:Nat)=>xs[((i:Int)+(m:Int)*1).toNat]?).toArray=((xs.toList.drop i).take k).toArray:=by
 have e:(fun(m:Nat)=>xs[((i:Int)+(m:Int)*1).toNat]?)=fun m=>xs[i+m]?:=by
  funext m;have:((i:Int)+(m:Int)*1).toNat=i+m:=by lia
  rw[this]
 rw[e];have:=pick_run xs i k;rw[List.filterMap_map]at this;have e2:((fun x=>xs[x]?) ∘ fun x=>i+x)=fun m=>xs[i+m]?:=rfl;rw[e2]at this;rw[this]
theorem lX{t sl:Qh}{items:Array Qf}{vl vu:Qf}{lo hi:Option Int}{Q:Qf->Qi->Prop}(ht:WA s.heap t items)(hs:s.heap.IsSliceOf sl vl vu .none)(pl:T7 vl lo)(pu:T7 vu hi)
  (hw:¬(sIx items.size 0 lo=0/\sIx items.size items.size hi=items.size))
  (h:Q (.ref s.heap.objs.size) {s with heap:=s.heap.push { cls:=.type "tuple",data:=.seq ((items.toList.drop (sIx items.size 0 lo)).take (sIx items.size items.size hi-sIx items.size 0 lo)).toArray} })
  (hsz:items.size<=sizeLine):Qn (Qs prog w) A (Tq (.ref t) (.ref sl)) Q E s:=by
 have htake:sizeOk (.seq ((items.toList.drop (sIx items.size 0 lo)).take (sIx items.size items.size hi-sIx items.size 0 lo)).toArray):=by show((items.toList.drop (sIx items.size 0 lo)).take (sIx items.size items.size hi-sIx items.size 0 lo)).toArray.size<=sizeLine;rw[r_,D',H_,gV];omega
 have hj:sIx items.size items.size hi<=items.size:=Hf _ _ (b_ _) hi;obtain⟨os,hos,hcs,hds⟩:=id hs;have hTs:s.TypeIs (.ref sl) "slice":=⟨os,hos,hcs⟩;unfold Tq
 try with_reducible refine QK ?_
 first|refine Qe (Qj ?_)|skip
 refine Qe (wpAny_sequenceKey ht.typeIs (by decide) ?_);refine Qe (QW (name:=Ra "__getitem__") ht.typeIs R4
  (QY R4 ht.typeIs entry_tuple_getitem ?_ (args_tuple_getitem _ _)))
 show Qn _ _ (Wr (.ref t) >>= _) _ _ s;refine Qe (tupleItemsOf_ ht ?_);refine Qe (U6 hTs ?_);rw[if_pos (by decide)];refine Qe (nC hs pl pu ?_);have hno:¬((((sIx items.size 0 lo:Nat):Int) == 0&&(1:Int) == 1&&(sIx items.size items.size hi-sIx items.size 0 lo) == items.size)=true):=by intro q;rw[Lz,Lz]at q;have q1:((sIx items.size 0 lo:Nat):Int)=0:=eq_of_beq q.1.1;have q2:sIx items.size items.size hi-sIx items.size 0 lo=items.size:=eq_of_beq q.2;exact hw ⟨by lia,by lia⟩
 show Qn _ _ (if(((sIx items.size 0 lo:Nat):Int) == 0&&(1:Int) == 1&&(sIx items.size items.size hi-sIx items.size 0 lo) == items.size)=true then _ else _) _ _ s;rw[if_neg hno,AU]
 first
  |exact Qe (m:=R1 _) (QJ (Qj ⟨_,rfl,Qj h⟩) htake)
  |exact Qe (m:=R1 _) (QJ (Qe (Qj (Qj ⟨_,rfl,Qj h⟩))) htake)
  |exact Qe (Qe (m:=R1 _) (QJ (Qj (Qj ⟨_,rfl,Qj h⟩)) htake))
  |exact Qe (Qe (m:=R1 _) (QJ (Qj ⟨_,rfl,Qj h⟩) htake))
end
end HT
namespace L2
open PySem PySem.Spec PyProof.Rows
abbrev TO:=St->Hp->(Option Int->Hp->Prop)->Prop
noncomputable def PO(X:Cx)(e:Option Qx)(t:TO):Prop:=
 ∀(pins:List (Qh×Obj)) (s:Qi) (σ:St) (H:Hp) (Q:Option Int->Hp->Prop),Inv X pins σ H s->t σ H Q->
  Qn (Qs X.prog X.w) X.A (evalPart e X.env) (fun u s'=>∃o H',Inv X pins σ H' s'/\T7 u o/\Q o H') X.xe s
noncomputable def EZ:TO:=fun _ H Q=>Q none H
noncomputable def J2(t:TE):TO:=fun σ H Q=>t σ H fun x H1=>∃i,x=.int i/\Q (some i) H1
theorem intsAre_of{ns:List Int}:∀{us:List Qf},Vals (ns.map V.int) us->Rr us ns:=by
 induction ns with
 |nil=>intro us r;rw[MN]at r;cases r;exact .nil
 |cons n ns ih=>
  intro us r;rw[g_]at r;cases r with
  |cons r1 r2=>
   obtain⟨t,e⟩:=r1;subst e;exact .cons n t (ih r2)
section
variable{X:Cx}{e:Qx}{te:TE}{lo hi:Option Qx}{tl th:TO}{pos p2:Pos}
theorem zl:PO X none EZ:=by intro pins s σ H Q I h;rw[Ws];exact Qj ⟨none,H,I,.none,h⟩
theorem yi(h:PE X e te):PO X (some e) (J2 te):=by intro pins s σ H Q I hw;rw[evalPart_some];refine thn (h pins s σ H _ I hw) ?_;rintro u s1 ⟨x,H1,I1,r1,q1⟩;obtain⟨i,rfl,q⟩:=q1;obtain⟨t,rfl⟩:=r1;exact⟨some i,H1,I1,.int i t,q⟩
noncomputable def SlR(X:Cx)(r:V->Option Int->Option Int->Hp->VK->Prop):Prop:=
 ∀(pins:List (Qh×Obj)) (s:Qi) (σ:St) (H:Hp) (x:V) (v vl vu:Qf) (lo hi:Option Int) (sl:Qh) (Q:VK),Inv X pins σ H s->RelV x v->s.heap.IsSliceOf sl vl vu .none->T7 vl lo->T7 vu hi->r x lo hi H Q->
  ∃T id,typeLookup (.type T) "__getitem__"=pure (some (.builtin id))/\s.TypeIs v T/\Qn (Qs X.prog X.w) X.A (Tq v (.ref sl)) (EP X pins σ Q) X.xe s
noncomputable def tSl(r:V->Option Int->Option Int->Hp->VK->Prop)(te:TE)(tl th:TO):TE:=fun σ H Q=>te σ H fun x H1=>tl σ H1 fun l H2=>th σ H2 fun u H3=>r x l u H3 Q
theorem vt{r:V->Option Int->Option Int->Hp->VK->Prop}(hr:SlR X r)(he:PE X e te)(hl:PO X lo tl)(hu:PO X hi th):PE X (.Subscript e (.Slice lo hi none p2) pos) (tSl r te tl th):=by intro pins s σ H Q I h;refine VI (thn (he pins s σ H _ I h) ?_);rintro v s1 ⟨x,H1,I1,r1,q1⟩;refine wpAny_Slice (thn (hl pins s1 σ H1 _ I1 q1) fun vl s2 ⟨l,H2,I2,pl,q2⟩=>thn (hu pins s2 σ H2 _ I2 q2) ?_);rintro vu s3 ⟨u,H3,I3,pu,q3⟩;rw[Ws];refine Qj ?_;have I4:Inv X pins σ H3 {s3 with heap:=s3.heap.push { cls:=.type "slice",data:=.fields #[vl,vu,.none] } }:=I3.kept (t':=s3.toks) fun b ob q=>Qk _ q;obtain⟨T,id,hT,ht,hg⟩:=hr pins {s3 with heap:=s3.heap.push { cls:=.type "slice",data:=.fields #[vl,vu,.none] } } σ H3 x v vl vu l u s3.heap.objs.size Q I4 r1 (Xy ..) pl pu q3;show Qn (Qs X.prog X.w) X.A (S4 e (.Slice lo hi none p2) v (.ref s3.heap.objs.size)) (EP X pins σ Q) X.xe {s3 with heap:=s3.heap.push { cls:=.type "slice",data:=.fields #[vl,vu,.none] } };exact tail_any (ops:=[.ref s3.heap.objs.size,v]) ht hT hg (by with_unfolding_all rfl)
noncomputable def ju(xs:List V)(lo hi:Option Int):List V:=(xs.drop (HT.sIx xs.length 0 lo)).take (HT.sIx xs.length xs.length hi-HT.sIx xs.length 0 lo)
theorem ox(xs:List V)(lo hi:Option Int):(ju xs lo hi).length<=xs.length:=by unfold ju;rw[D',H_];lia
noncomputable def Lb(K:Qg):V->Option Int->Option Int->Hp->VK->Prop:=fun x lo hi H Q=>∃a xs,x=.ref a/\SqT K H a xs/\
 ¬(HT.sIx xs.length 0 lo=0/\HT.sIx xs.length xs.length hi=xs.length)/\∀p,H p=none->Q (.ref p) (upd H p (.tup (ju xs lo hi)))
theorem IB:SlR X (Lb X.K):=by
 intro pins s σ H x v vl vu lo hi sl Q I rx hs pl pu h;obtain⟨a,xs,rfl,hx,hw,q⟩:=h;cases rx;obtain⟨its,r,ht,hz⟩:=I.tuple hx;have hlen:its.toArray.size=xs.length:=by rw[r_];exact r.length.symm
 refine⟨"tuple",_,R4.lookup,ht.typeIs,?_⟩;refine HT.lX ht hs pl pu (by rw[hlen];exact hw) ?_ (by rw[hlen];exact hz);rw[hlen];refine⟨.ref s.heap.objs.size,_,I.laid (t':=s.toks) (o:=.tup (ju xs lo hi)) (fun b ob q=>Qk _ q) (b_ _) ?_,rfl,q _ (I.hok.fresh (b_ _))⟩;exact⟨m_ (ox xs lo hi) hz,_,(r.drop (HT.sIx xs.length 0 lo)).take (HT.sIx xs.length xs.length hi-HT.sIx xs.length 0 lo),Wj _ _⟩
noncomputable def JH(K:Qg):R2:=fun x y H Q=>∃a b xs ys,x=.ref a/\y=.ref b/\SqT K H a xs/\SqT K H b ys/\xs≠[]/\xs.length+ys.length<=sizeLine/\
 (ys=[]->Q (.ref a) H)/\(ys≠[]->∀p,H p=none->Q (.ref p) (upd H p (.tup (xs++ys))))
theorem Vals.tf {xs:List V}{us:List Qf}(r:Vals xs us):us=[]↔xs=[]:=by
 cases r with
 |nil=>simp
 |cons _ _=>simp
theorem EV:OpR X (Ro .Add) (JH X.K):=by intro pins s σ H x y v u Q I rx ry h;obtain⟨a,b,xs,ys,rfl,rfl,ha,hb,hx,hz,q1,q2⟩:=h;cases rx;cases ry;obtain⟨its,r1,p1,_⟩:=I.tuple ha;obtain⟨its2,r2,p2,_⟩:=I.tuple hb;refine HT.Fd p1 p2 (fun z=>hx (r1.tf.mp z)) (fun z=>⟨.ref a,H,I,rfl,q1 (r2.tf.mp z)⟩) (fun z=>?_) (by rw[<-r1.length,<-r2.length];exact hz);refine⟨.ref s.heap.objs.size,_,I.laid (t':=s.toks) (o:=.tup (xs++ys)) (fun b ob q=>Qk _ q) (b_ _) ?_,rfl,q2 (fun w=>z (r2.tf.mpr w)) _ (I.hok.fresh (b_ _))⟩;exact⟨by rw[f'];exact hz,_,r1.append r2,Wj _ _⟩
theorem oH:bE X (.type "tuple") (fun xs H Q=>∃a ys,xs=[.ref a]/\SqT X.K H a ys/\Q (.ref a) H):=by intro pins s σ H xs us Q I r h;obtain⟨a,ys,rfl,ha,q⟩:=h;obtain⟨u,rfl,ru⟩:=vals1 r;cases ru;obtain⟨its,_,p1,_⟩:=I.tuple ha;exact VJ (items:=its.toArray) p1 ⟨.ref a,H,I,rfl,q⟩
end
noncomputable def ixN(n:Nat)(i:Int):Option Nat:=if 0<=i then(if i<n then some i.toNat else none)else if -(n:Int)<=i then some (i+n).toNat else none
noncomputable def atI{α:Type}(xs:List α)(i:Int):Option α:=(ixN xs.length i).bind fun j=>xs[j]?
theorem tj{n:Nat}{i:Int}{j:Nat}(h:ixN n i=some j):seqIndex? i n=some j/\j<n/\-(n:Int)<=i/\i<n:=by
 unfold ixN at h;by_cases h0:0<=i
 ·rw[if_pos h0]at h;by_cases h1:i<n
  ·rw[if_pos h1]at h;have e:i.toNat=j:=G' h;exact⟨by rw[Vl h0 h1,e],by lia,by lia,h1⟩
  rw[if_neg h1]at h;cases h
 rw[if_neg h0]at h;by_cases h1:-(n:Int)<=i
 ·rw[if_pos h1]at h;have e:(i+n).toNat=j:=G' h;exact⟨by rw[U7 (by lia) h1,e],by lia,h1,by lia⟩
 rw[if_neg h1]at h;cases h
theorem tQ{α:Type}{xs:List α}{i:Int}{v:α}(h:atI xs i=some v):∃j,seqIndex? i xs.length=some j/\xs[j]?=some v/\j<xs.length/\-(xs.length:Int)<=i/\i<xs.length:=by
 unfold atI at h;cases e:ixN xs.length i with
 |none=>rw[e]at h;cases h
 |some j=>
  rw[e]at h;obtain⟨h1,h2,h3,h4⟩:=tj e;exact⟨j,h1,h,h2,h3,h4⟩
theorem cK{α:Type}{xs:List α}{j:Nat}{v:α}(h:xs[j]?=some v):atI xs (j:Int)=some v:=by
 have hj:j<xs.length:=(d_.mp h).1;have e:ixN xs.length (j:Int)=some j:=by unfold ixN;rw[if_pos (by lia),if_pos (by lia)];simp
 unfold atI;rw[e];exact h
noncomputable def yJ(b:Qx):Prop:=∀o i,Tw b false o i=Xl [o,i] (Tq o i)
noncomputable def IxR(X:Cx)(r:R2):Prop:=
 ∀(value slice:Qx) (pins:List (Qh×Obj)) (s:Qi) (σ:St) (H:Hp) (x y:V) (v u:Qf) (Q:VK),Inv X pins σ H s->RelV x v->RelV y u->r x y H Q->
  Tw slice false v u=Xl [v,u] (Tq v u)->Qn (Qs X.prog X.w) X.A (S4 value slice v u) (EP X pins σ Q) X.xe s
noncomputable def MtR(X:Cx)(id:String)(r:V->List V->Hp->VK->Prop):Prop:=
 ∀(pins:List (Qh×Obj)) (s:Qi) (σ:St) (H:Hp) (x:V) (xs:List V) (v:Qf) (us:List Qf) (Q:VK),Inv X pins σ H s->RelV x v->Vals xs us->r x xs H Q->
  Qn (Qs X.prog X.w) X.A (call (.builtin id) (v::us)) (EP X pins σ Q) X.xe s
section
variable{X:Cx}{a b:Qx}{ta tb:TE}{pos:Pos}
theorem IxR.or {r r':R2}(h:IxR X r)(h':IxR X r'):IxR X (fun x y H Q=>r x y H Q\/r' x y H Q):=by
 intro value slice pins s σ H x y v u Q I rx ry q hs;rcases q with q|q
 ·exact h value slice pins s σ H x y v u Q I rx ry q hs
 exact h' value slice pins s σ H x y v u Q I rx ry q hs
theorem G7{r:R2}(hr:IxR X r)(ha:PE X a ta)(hb:PE X b tb)(hs:yJ b):PE X (.Subscript a b pos) (tOp r ta tb):=by intro pins s σ H Q I h;exact VI (ID ha hb I h fun v u s2 x y H2 I2 rx ry q=>hr a b pins s2 σ H2 x y v u Q I2 rx ry q (hs _ _))
noncomputable def Kw(K:Qg):R2:=fun x y H Q=>∃p xs i v,x=.ref p/\y=.int i/\SqL K H p xs/\atI xs i=some v/\Q v H
noncomputable def J4(K:Qg):R2:=fun x y H Q=>∃p xs i v,x=.ref p/\y=.int i/\SqT K H p xs/\atI xs i=some v/\Q v H
noncomputable def Kh:R2:=fun x y H Q=>∃z i c,x=.str z/\y=.int i/\z.length<=sizeLine/\atI z.cps.toList i=some c/\Q (.str ⟨#[c]⟩) H
theorem yX:IxR X (Kw X.K):=by
 intro value slice pins s σ H x y v u Q I rx ry h hs;obtain⟨p,xs,i,z,rfl,rfl,hq,he,q⟩:=h;cases rx;obtain⟨t,rfl⟩:=ry;obtain⟨its,r,pl,hz⟩:=I.list hq;obtain⟨j,h1,h2,h3,h4,h5⟩:=tQ he;obtain⟨w,ew,rw'⟩:=r.get h2;have hl:=r.length;have hn:=kP;have fin:EP X pins σ Q w s:=⟨z,H,I,rw',q⟩;by_cases h0:0<=i
 ·have hj:i.toNat=j:=by rw[Vl h0 h5]at h1;exact G' h1
  exact item_listR pl.isList h0 (by lia) (by rw[hj];simpa using ew) fin hs
 have hj:(i+(its.toArray.size:Int)).toNat=j:=by rw[U7 (by lia) h4]at h1;rw[r_,<-hl];exact G' h1
 exact Us (x:=w) pl.isList.typeIs slot_list_getitem.lookup
  (wpAny_getItem_list_neg (Q:=fun r s'=>r=w/\EP X pins σ Q r s') pl.isList (by lia) (by rw[r_] <;> lia) (by lia) (by rw[hj];simpa using ew) ⟨rfl,fin⟩) hs
theorem IA:IxR X (J4 X.K):=by
 intro value slice pins s σ H x y v u Q I rx ry h hs;obtain⟨p,xs,i,z,rfl,rfl,hq,he,q⟩:=h;cases rx;obtain⟨t,rfl⟩:=ry;obtain⟨its,r,pl,hz⟩:=I.tuple hq;obtain⟨j,h1,h2,h3,h4,h5⟩:=tQ he;obtain⟨w,ew,rw'⟩:=r.get h2;have hl:=r.length;have hn:=kP;have fin:EP X pins σ Q w s:=⟨z,H,I,rw',q⟩;exact Us (x:=w) pl.typeIs slot_tuple_getitem.lookup
  (getItem_tuple (j:=j) (Q:=fun r s'=>r=w/\EP X pins σ Q r s') pl (by lia) (by lia) (by rw[r_,<-hl];exact h1) (by simpa using ew) ⟨rfl,fin⟩) hs
theorem CA:IxR X Kh:=by
 intro value slice pins s σ H x y v u Q I rx ry h hs;obtain⟨z,i,c,rfl,rfl,hz,he,q⟩:=h;obtain⟨t,rfl⟩:=rx;obtain⟨t',rfl⟩:=ry;obtain⟨j,h1,h2,h3,h4,h5⟩:=tQ he;have hl:z.cps.toList.length=z.length:=by simp[Str.length]
 rw[hl]at h1 h4 h5;have hn:=kP;exact tail_any (typeIs_str s z t) slot_str_getitem.lookup (getItem_str (c:=c) (by have e1:decide (i < -(2 ^ 63:Int))=false:=decide_eq_false (by lia);have e2:decide (i>=2 ^ 63)=false:=decide_eq_false (by lia);rw[e1,e2,PQ]) (by rw[h1];simpa using h2) ⟨.str ⟨#[c]⟩,H,I.tok _,⟨_,rfl⟩,q⟩) hs
noncomputable def rIx(K:Qg):R2:=fun x y H Q=>Kw K x y H Q\/J4 K x y H Q\/Kh x y H Q
theorem Gj:IxR X (rIx X.K):=yX.or (IA.or CA)
theorem xS(its:List Qf)(n j:Nat)(u:Qf):QI (·.setIfInBounds j u) { cls:=.type "list",data:=.seq its.toArray n}={ cls:=.type "list",data:=.seq (its.set j u).toArray n}:=by simp[QI]
theorem Inv.lst {pins:List (Qh×Obj)}{σ:St}{H:Hp}{s:Qi}{p:Qh}{xs:List V}(I:Inv X pins σ H s)(h:H p=some (.lst xs)) :
  ∃(its:List Qf) (n:Nat),Vals xs its/\s.heap.get? p=some { cls:=.type "list",data:=.seq its.toArray n}/\xs.length<=sizeLine:=by
 obtain⟨z,its,n,r,e⟩:=I.hok p _ h;exact⟨its,n,r,e,z⟩
theorem Inv.Ii {pins:List (Qh×Obj)}{σ:St}{H:Hp}{s:Qi}{p:Qh}{xs ys:List V}{its its':List Qf}{n n':Nat}{f:Obj->Obj}(I:Inv X pins σ H s)(h:H p=some (.lst xs))
  (ho:s.heap.get? p=some { cls:=.type "list",data:=.seq its.toArray n}) (hf:f { cls:=.type "list",data:=.seq its.toArray n}={ cls:=.type "list",data:=.seq its'.toArray n'}) (r:Vals ys its') (hz:ys.length<=sizeLine) (t:Nat) :
  Inv X pins σ (upd H p (.lst ys)) {s with heap:=s.heap.update p f,toks:=t}:=by
 have e:(s.heap.update p f).get? p=some { cls:=.type "list",data:=.seq its'.toArray n'}:=by rw[Q1 f ho (by rw[hf] <;> rfl),hf]
 refine I.write (x:=p) (e:=p) (by rw[h];trivial) (.inl rfl) (fun b u hb q=>(Ru _ _ (R6 hb)).trans q) ⟨_,e⟩ ?_;exact⟨hz,its',n',r,e⟩
noncomputable def K8:V->V->V->Hp->(Hp->Prop)->Prop:=fun o i v H Q=>∃p xs k j,o=.ref p/\i=.int k/\H p=some (.lst xs)/\ixN xs.length k=some j/\Q (upd H p (.lst (xs.set j v)))
theorem set_list:xn X K8:=by
 intro pins s σ H o i v ov iv u Q I ro ri rv h;obtain⟨p,xs,k,j,rfl,rfl,hp,hj,q⟩:=h;cases ro;obtain⟨t,rfl⟩:=ri;obtain⟨its,n,r,ho,hz⟩:=I.lst hp;obtain⟨h1,h2,h3,h4⟩:=tj hj;have hl:=r.length;have hn:=kP;have I':Inv X pins σ (upd H p (.lst (xs.set j v))) {s with heap:=s.heap.update p (QI (·.setIfInBounds j u)) }:=
  I.Ii hp ho (xS its n j u) (r.set rv j) (by rw[Lv];exact hz) s.toks
 by_cases h0:0<=k
 ·have hk:k.toNat=j:=by rw[Vl h0 h4]at h1;exact G' h1
  exact PySem.W.ki_setAt ho h0 (by lia) (by rw[r_,<-hl];exact h4) (by rw[hk];exact⟨_,I',q⟩)
 have hk:(k+(its.toArray.size:Int)).toNat=j:=by rw[U7 (by lia) h3]at h1;rw[r_,<-hl];exact G' h1
 exact PySem.W.ki_setBack ho (by lia) (by rw[r_,<-hl];exact h3) (by lia) (by rw[hk];exact⟨_,I',q⟩)
theorem uj(lo hi:Option Int)(n:Nat):(Sv lo hi none n).1=((HT.sIx n 0 lo:Nat):Int)/\(Sv lo hi none n).2.1=((HT.sIx n n hi:Nat):Int)/\(Sv lo hi none n).2.2=1:=by
 refine⟨?_,?_,rfl⟩
 ·cases lo with
  |none=>simp[Sv,HT.sIx]
  |some i=>
   simp only[Sv,HT.sIx,Pl,show(1:Int) > 0 by decide,if_true];by_cases h:i<0
   ·simp only[h,if_true] <;> lia
   simp only[h,if_false] <;> lia
 cases hi with
 |none=>simp[Sv,HT.sIx]
 |some i=>
  simp only[Sv,HT.sIx,Pl,show(1:Int) > 0 by decide,if_true];by_cases h:i<0
  ·simp only[h,if_true] <;> lia
  simp only[h,if_false] <;> lia
theorem qY(its:List Qf)(lo hi:Option Int):slicePick its.toArray lo hi none=((its.drop (HT.sIx its.length 0 lo)).take (HT.sIx its.length its.length hi-HT.sIx its.length 0 lo)).toArray:=by obtain⟨h1,h2,h3⟩:=uj lo hi its.toArray.size;unfold slicePick;rw[h1,h2,h3];simp only[sliceRange_one,pick_run,r_] <;> rfl
noncomputable def KR(K:Qg):V->Option Int->Option Int->Hp->VK->Prop:=fun x lo hi H Q=>∃a xs,x=.ref a/\SqL K H a xs/\∀p,H p=none->Q (.ref p) (upd H p (.lst (ju xs lo hi)))
theorem yK:SlR X (KR X.K):=by intro pins s σ H x v vl vu lo hi sl Q I rx hs pl pu h;obtain⟨a,xs,rfl,hx,q⟩:=h;cases rx;obtain⟨its,r,ht,hz⟩:=I.list hx;have hlen:=r.length;refine⟨"list",_,slot_list_getitem.lookup,ht.isList.typeIs,?_⟩;refine wpAny_getItem_list_slice ht.isList hs pl pu .none (by simp) ?_ (by rw[r_] <;> lia);rw[qY,<-hlen];refine⟨.ref s.heap.objs.size,_,I.laid (t':=s.toks) (o:=.lst (ju xs lo hi)) (fun b ob q=>Qk _ q) (b_ _) ?_,rfl,q _ (I.hok.fresh (b_ _))⟩;exact⟨m_ (ox xs lo hi) hz,_,0,(r.drop (HT.sIx xs.length 0 lo)).take (HT.sIx xs.length xs.length hi-HT.sIx xs.length 0 lo),Qo _ rfl⟩
theorem mD:bE X (.builtin "len") (fun xs H Q=>∃p ys,xs=[.ref p]/\(SqL X.K H p ys\/SqT X.K H p ys)/\Q (.int ys.length) H):=by
 intro pins s σ H xs us Q I r h;obtain⟨p,ys,rfl,hq,q⟩:=h;obtain⟨u,rfl,rx⟩:=vals1 r;cases rx;have hn:=kP;rcases hq with hq|hq
 ·obtain⟨its,r',pl,hz⟩:=I.list hq;have hlen:=r'.length;exact Calls.call_len_list pl.isList (by simp only[r_] <;> lia) ⟨.int ys.length,H,I.tok _,⟨s.toks+1,by rw[r_,hlen]⟩,q⟩
 obtain⟨its,r',pl,hz⟩:=I.tuple hq;have hlen:=r'.length;exact len_tuple pl (by simp only[r_] <;> lia) ⟨.int ys.length,H,I.tok _,⟨s.toks+1,by rw[r_,hlen]⟩,q⟩
theorem tE:bE X (.builtin "len") (fun xs H Q=>∃z,xs=[.str z]/\z.length<=sizeLine/\Q (.int z.length) H):=by intro pins s σ H xs us Q I r h;obtain⟨z,rfl,hz,q⟩:=h;obtain⟨u,rfl,t,rfl⟩:=vals1 r;have hn:=kP;exact len_str (by lia) ⟨.int z.length,H,I.tok _,⟨_,rfl⟩,q⟩
theorem mL:bE X (.type "list") (fun xs H Q=>∃p ys,xs=[.ref p]/\(SqL X.K H p ys\/SqT X.K H p ys)/\∀l,H l=none->Q (.ref l) (upd H l (.lst ys))):=by
 intro pins s σ H xs us Q I r h;obtain⟨p,ys,rfl,hq,q⟩:=h;obtain⟨u,rfl,rx⟩:=vals1 r;cases rx;have fin:∀(its:List Qf),Vals ys its->ys.length<=sizeLine->∀(h':Qz) (c':Nat),(∀b o',s.heap.get? b=some o'->h'.get? b=some o')->
   h'.get? s.heap.objs.size=some { cls:=.type "list",dict:=none,data:=.seq its.toArray c',slots:=#[] }->EP X pins σ Q (.ref s.heap.objs.size) {s with heap:=h'}:=fun its r' hz h' c' kp e=>
  ⟨.ref s.heap.objs.size,_,I.laid (t':=s.toks) kp (b_ _) (show ba X.prog X.w _ h' _ (.lst ys)from⟨hz,its,c',r',e⟩),rfl,q _ (I.hok.fresh (b_ _))⟩
 rcases hq with hq|hq
 ·obtain⟨its,r',pl,hz⟩:=I.list hq;have hlen:=r'.length;obtain⟨o,ho,hc,n,hd⟩:=pl.isList;exact Wt p (.inl rfl) ho hc hd (fun h' c' kp e=>fin its r' hz h' c' kp e) (by simp only[r_] <;> lia)
 obtain⟨its,r',pl,hz⟩:=I.tuple hq;have hlen:=r'.length;obtain⟨o,ho,hc,n,hd⟩:=pl;exact Wt p (.inr rfl) ho hc hd (fun h' c' kp e=>fin its r' hz h' c' kp e) (by simp only[r_] <;> lia)
theorem r6:bE X (.type "tuple") (fun xs H Q=>∃p ys,xs=[.ref p]/\((SqL X.K H p ys/\∀l,H l=none->Q (.ref l) (upd H l (.tup ys)))\/(SqT X.K H p ys/\Q (.ref p) H))):=by
 intro pins s σ H xs us Q I r h;obtain⟨p,ys,rfl,h⟩:=h;obtain⟨u,rfl,rx⟩:=vals1 r;cases rx;rcases h with⟨hq,q⟩|⟨hq,q⟩
 ·obtain⟨its,r',pl,hz⟩:=I.list hq;have hlen:=r'.length;refine call_tuple_list pl.isList (fun h' kp=>?_) (by simp only[r_] <;> lia);have I1:Inv X pins σ H {s with heap:=h'}:=I.kept (t':=s.toks) kp;have I2:Inv X pins σ (upd H h'.objs.size (.tup ys)) {s with heap:=h'.push { cls:=.type "tuple",data:=.seq its.toArray} }:=
   I1.laid (t':=s.toks) (fun b o e=>Qk _ e) (b_ _) (show ba X.prog X.w _ _ _ (.tup ys)from⟨hz,its,r',Wj _ _⟩)
  exact⟨.ref h'.objs.size,_,I2,rfl,q _ (I1.hok.fresh (b_ _))⟩
 obtain⟨its,r',pl,hz⟩:=I.tuple hq;exact VJ pl ⟨.ref p,H,I,rfl,q⟩
noncomputable def tyV(K:Qg)(T:String)(x:V)(H:Hp):Prop:=match x with
 | .str _=>T="str"
 | .int _=>T="int"
 | .ref p=>(T="list"/\∃xs,SqL K H p xs)\/(T="tuple"/\∃o,K.lookup p=some o/\o.cls=.type "tuple"/\o.dict=none)\/
   (T="dict"/\((∃kvs,H p=some (.dK kvs))\/∃kvs,H p=some (.dT kvs)))\/(T="set"/\∃S n,H p=some (.set S n))
 | _=>False
theorem By{pins:List (Qh×Obj)}{σ:St}{H:Hp}{s:Qi}{T:String}{x:V}{v:Qf}(I:Inv X pins σ H s)(r:RelV x v)(ty:tyV X.K T x H) :
  s.TypeIs v T/\∀a,v=.ref a->∃ob,s.heap.get? a=some ob/\ob.dict=none:=by
 cases x with
 |str z=>
  obtain⟨t,rfl⟩:=r;cases (show T="str" from ty);exact⟨typeIs_str s z t,fun _ e=>nomatch e⟩
 |int i=>
  obtain⟨t,rfl⟩:=r;cases (show T="int" from ty);exact⟨typeIs_int s i t,fun _ e=>nomatch e⟩
 |ref p=>
  cases r;rcases ty with⟨rfl,xs,hq⟩|⟨rfl,o,hk,hc,hd⟩|⟨rfl,hk⟩|⟨rfl,S,n,hk⟩
  ·obtain⟨its,_,pl,_⟩:=I.list hq;refine⟨pl.isList.typeIs,fun a e=>?_⟩;cases e;obtain⟨o,n,e,c,hd,_⟩:=pl;exact⟨o,e,hd⟩
  ·refine⟨⟨o,I.kIn p o hk,hc⟩,fun a e=>?_⟩;cases e;exact⟨o,I.kIn _ o hk,hd⟩
  ·have z:∃o,s.heap.get? p=some o/\o.ExactDict:=by
    rcases hk with⟨kvs,hk⟩|⟨kvs,hk⟩
    ·obtain⟨_,_,_,_,o,_,_,e,ex,_⟩:=I.hok p _ hk;exact⟨o,e,ex⟩
    obtain⟨_,_,_,_,o,_,_,e,ex,_⟩:=I.hok p _ hk;exact⟨o,e,ex⟩
   obtain⟨o,e,ex⟩:=z;refine⟨⟨o,e,ex.1⟩,fun a e2=>?_⟩;cases e2;exact⟨o,e,ex.2.1⟩
  ·obtain⟨o,_,_,_,e,ex,_⟩:=I.hok p _ hk;refine⟨⟨o,e,ex.1⟩,fun a e2=>?_⟩;cases e2;exact⟨o,e,ex.2.1⟩
 | _=>exact QC ty
noncomputable def L9(K:Qg)(T:String)(r:V->List V->Hp->VK->Prop)(to:TE):TE:=fun σ H Q=>to σ H fun x H1=>tyV K T x H1/\r x [] H1 Q
noncomputable def tBM(K:Qg)(T:String)(r:V->List V->Hp->VK->Prop)(to:TE)(t:TA):TE:=fun σ H Q=>to σ H fun x H1=>tyV K T x H1/\t σ H1 fun xs H2=>r x xs H2 Q
variable{o e:Qx}{es:List Qx}{to:TE}{t:TA}{name:Str}{apos cpos:Pos}{T id:String}{r:V->List V->Hp->VK->Prop}
theorem Ib(pa:PlainAttrs T)(slot:WK T name id)(hty:WL (.builtin id)=pure (.type "method_descriptor"))(hm:MtR X id r)(ho:PE X o to)
  (hbase:TH o name X.env (QO o X.env)=QO o X.env:=by rfl) (hline:(apos.endLine == cpos.line)=true:=by rfl):PE X (.Call (.Attribute o name apos) [] [] cpos) (L9 X.K T r to):=by
 intro pins s σ H Q I h;refine wpAny_Call_method0_late hbase hline (thn (ho pins s σ H _ I h) ?_);rintro v s1 ⟨x,H1,I1,r1,ty,q1⟩;obtain⟨h1,h2⟩:=By I1 r1 ty;exact⟨T,id,pa,slot,hty,h1,h2,Ut rfl (PySem.evalArgs_none (hm pins s1 σ H1 x [] v [] Q I1 r1 .nil q1))⟩
theorem IV(pa:PlainAttrs T)(slot:WK T name id)(hty:WL (.builtin id)=pure (.type "method_descriptor"))(hm:MtR X id r)(ho:PE X o to)(ha:PA X (e::es) t)
  (hbase:TH o name X.env (QO o X.env)=QO o X.env:=by rfl)
  (hfew:((Si cpos (QA (e::es) X.env)).all (fun x=>!x.1)&&(backToKw cpos (Xd [] X.env)).all (fun x=>x.1.isSome)
   && decide ((e::es).length+([]:List V7).length+(if([]:List V7).isEmpty then 0 else 1)<30))=true:=by rfl)
  (hline:(apos.endLine == cpos.line)=true:=by rfl) (hs:QA (e::es) X.env=(false,QO e X.env)::QA es X.env:=by rfl) (hplain:(Si cpos (QA es X.env)).any (·.1)=false:=by rfl) :
  PE X (.Call (.Attribute o name apos) (e::es) [] cpos) (tBM X.K T r to t):=by
 intro pins s σ H Q I h;refine wpAny_Call_method_late hbase hfew hline rfl (thn (ho pins s σ H _ I h) ?_);rintro v s1 ⟨x,H1,I1,r1,ty,q1⟩;obtain⟨h1,h2⟩:=By I1 r1 ty;refine⟨T,id,pa,slot,hty,h1,h2,?_⟩;have hA:=ha cpos pins s1 σ H1 _ I1 q1;rw[hs]at hA ⊢;refine Ut (by show(false || (Si cpos (QA es X.env)).any (·.1))=false;rw[hplain] <;> rfl) (Calls.evalArgs_plain ?_);exact thn hA fun us s2 ⟨vs,H2,I2,r2,q2⟩=>hm pins s2 σ H2 x vs v us Q I2 r1 r2 q2
end
noncomputable def MtM(X:Cx)(id:String)(r:V->List V->Hp->VK->Prop):Prop:=
 ∀(pins:List (Qh×Obj)) (s:Qi) (σ:St) (H:Hp) (x:V) (xs:List V) (v:Qf) (us:List Qf) (Q:VK),Inv X pins σ H s->RelV x v->Vals xs us->r x xs H Q->
  Qn (Qs X.prog X.w) X.A (call (.builtin id) (v::us)) (EP X pins σ Q) X.xe s
theorem Vals.one:∀{x:V}{us:List Qf},Vals [x] us->∃u,us=[u]/\RelV x u
 | _,_,.cons r .nil=>⟨_,rfl,r⟩
theorem Vals.zero:∀{us:List Qf},Vals [] us->us=[]
 | _,.nil=>rfl
theorem Vals.dropLast {xs:List V}{us:List Qf}(h:Vals xs us):Vals xs.dropLast us.dropLast:=by
 induction h with
 |nil=>exact .nil
 |cons r t ih=>
  cases t with
  |nil=>exact .nil
  |cons q t'=>exact .cons r ih
theorem xH{α:Type}(l:List α):l.eraseIdx (l.length-1)=l.dropLast:=by
 induction l with
 |nil=>rfl
 |cons a r ih=>
  cases r with
  |nil=>rfl
  |cons b r=>
   have e:(a::b::r).length-1=((b::r).length-1)+1:=by have h1:(a::b::r).length=r.length+2:=rfl;have h2:(b::r).length=r.length+1:=rfl;lia
   rw[e,List.eraseIdx_cons_succ,ih]
   all_goals rfl
section
variable{X:Cx}{pins:List (Qh×Obj)}{σ:St}{H:Hp}{s:Qi}{l b:Qh}{xs ys zs:List V}
theorem Inv.Gk {its its':List Qf}{n:Nat}{f:Array Qf->Array Qf}{t':Nat}(I:Inv X pins σ H s)(hH:H l=some (.lst xs))
  (e:s.heap.get? l=some { cls:=.type "list",data:=.seq its.toArray n}) (hf:f its.toArray=its'.toArray) (hv:Vals ys its') (hz:ys.length<=sizeLine) :
  Inv X pins σ (upd H l (.lst ys)) {s with heap:=s.heap.update l (QI f),toks:=t'}:=by
 have q:=XN e f;rw[hf]at q;refine I.write (x:=l) (e:=l) (by rw[hH];exact trivial) (.inl rfl) (fun b' u hb hu=>(Ru s.heap (QI f) (R6 hb)).trans hu) ⟨_,q⟩ ?_;exact⟨hz,its',_,hv,q⟩
theorem Inv.Lh {its:List Qf}{t':Nat}(I:Inv X pins σ H s)(hv:Vals ys its)(hz:ys.length<=sizeLine) :
  Inv X pins σ (upd H s.heap.objs.size (.lst ys)) {s with heap:=s.heap.push { cls:=.type "list",data:=.seq its.toArray},toks:=t'}:=
 I.laid (fun _ _ q=>Qk _ q) (b_ _) ⟨hz,its,0,hv,Qo _ rfl⟩
theorem Inv.fresh (I:Inv X pins σ H s):H s.heap.objs.size=none:=I.hok.fresh (b_ _)
theorem Inv.Fe (I:Inv X pins σ H s)(hH:H l=some (.lst xs)):xs.length<=sizeLine/\∃(its:List Qf) (n:Nat),Vals xs its/\xs.length=its.length/\s.heap.get? l=some { cls:=.type "list",data:=.seq its.toArray n}:=by obtain⟨z,its,n,r,e⟩:=I.hok l _ hH;exact⟨z,its,n,r,r.length,e⟩
theorem Cq{n:Nat}(h:n<=sizeLine):SH n=false:=by unfold SH;exact decide_eq_false (by lia)
end
section
variable{X:Cx}
noncomputable def DL:V->List V->Hp->VK->Prop:=fun x vs H Q=>∃l xs y,x=.ref l/\vs=[y]/\H l=some (.lst xs)/\xs.length<sizeLine/\Q .non (upd H l (.lst (xs++[y])))
theorem nI:MtM X "list.append" DL:=by intro pins s σ H x vs v us Q I rx rv h;obtain⟨l,xs,y,rfl,rfl,hH,hz,q⟩:=h;cases rx;obtain⟨u,rfl,ru⟩:=rv.one;obtain⟨z,its,n,r,hl,e⟩:=I.Fe hH;refine VL F.slot_list_append ⟨_,e,rfl⟩ F.entry_list_append (F.args_list_append_2 _ _) (PySem.list_append l its.toArray n u (by rw[r_];lia)) ⟨e,?_⟩;refine⟨.non,_,I.Gk (its':=its++[u]) hH e (by simp) (r.append (.cons ru .nil)) ?_,rfl,q⟩;rw[f',OP];lia
noncomputable def E5:V->List V->Hp->VK->Prop:=fun x vs H Q=>∃l b xs zs,x=.ref l/\vs=[.ref b]/\H l=some (.lst xs)/\H b=some (.lst zs)/\xs.length+zs.length<=sizeLine/\Q .non (upd H l (.lst (xs++zs)))
theorem A8:MtM X "list.extend" E5:=by
 intro pins s σ H x vs v us Q I rx rv h;obtain⟨l,b,xs,zs,rfl,rfl,hH,hB,hz,q⟩:=h;cases rx;obtain⟨u,rfl,ru⟩:=rv.one;cases ru;obtain⟨z,its,n,r,hl,e⟩:=I.Fe hH;obtain⟨z2,its2,n2,r2,hl2,e2⟩:=I.Fe hB;have hsz:its.toArray.size+its2.toArray.size<=sizeLine:=by rw[r_,r_];lia
 have hlong:¬(!its.toArray.isEmpty&&SH (its.toArray.size+its2.toArray.size))=true:=by rw[Cq hsz,PK];exact Mf
 refine VL F.slot_list_extend ⟨_,e,rfl⟩ F.entry_list_extend (F.args_list_extend_2 _ _)
  (Vs l its.toArray n b its2.toArray n2 hlong (by rw[r_];lia) (by lia)) ⟨e,e2,?_⟩
 refine⟨.non,_,I.Gk (its':=its++its2) hH e (by simp) (r.append r2) ?_,rfl,q⟩;rw[f'];omega
noncomputable def Lj:V->List V->Hp->VK->Prop:=fun x vs H Q=>∃l xs y,x=.ref l/\vs=[]/\H l=some (.lst xs)/\xs[xs.length-1]?=some y/\Q y (upd H l (.lst xs.dropLast))
theorem HD:MtM X "list.pop" Lj:=by
 intro pins s σ H x vs v us Q I rx rv h;obtain⟨l,xs,y,rfl,rfl,hH,hy,q⟩:=h;cases rx;have hus:=rv.zero;subst hus;obtain⟨z,its,n,r,hl,e⟩:=I.Fe hH;obtain⟨u,hu,ru⟩:=r.get hy;have hy':its.toArray[its.toArray.size-1]?=some u:=by show its.toArray[its.length-1]?=some u;rw[<-f_,<-hl];exact hu
 refine VL F.slot_list_pop ⟨_,e,rfl⟩ F.entry_list_pop (F.args_list_pop_1 _) (Xe l its.toArray n u hy' (by rw[r_];lia)) ⟨e,?_⟩;refine⟨y,_,I.Gk (its':=its.dropLast) hH e ?_ r.dropLast ?_,ru,q⟩
 ·show its.toArray.eraseIdxIfInBounds (its.toArray.size-1)=its.dropLast.toArray;rw[r_,List.eraseIdxIfInBounds_toArray,xH]
 rw[MK];lia
end
section
variable{κ:Type}[DecidableEq κ]
noncomputable def eO(kvs:List (κ×V))(k:κ):Option V:=(kvs.find? fun kv=>decide (kv.1=k)).map (·.2)
noncomputable def putK(kvs:List (κ×V))(k:κ)(v:V):List (κ×V):=
 if(kvs.any fun kv=>decide (kv.1=k))=true then kvs.map (fun kv=>if kv.1=k then(kv.1,v)else kv)else kvs++[(k,v)]
theorem qO{p:κ×V}{r:List (κ×V)}{k:κ}(e:p.1=k):eO (p::r) k=some p.2:=by simp[eO,Mc,e]
theorem qd{p:κ×V}{r:List (κ×V)}{k:κ}(e:¬p.1=k):eO (p::r) k=eO r k:=by simp[eO,Mc,e]
theorem mU(k:κ):∀kvs:List (κ×V),(kvs.any fun kv=>decide (kv.1=k))=(eO kvs k).isSome
 | []=>rfl
 |p::r=>by
  rw[Of];by_cases e:p.1=k
  ·simp only[qO e,decide_eq_true e,Bool.true_or,O4]
  rw[qd e,decide_eq_false e,Bool.false_or];exact mU k r
theorem iZ(kvs:List (κ×V))(k:κ)(v:V):(putK kvs k v).length<=kvs.length+1:=by
 unfold putK;split
 ·rw[a_];lia
 rw[f',h_,LR];lia
theorem mH{kvs:List (κ×V)}{k:κ}(v:V)(h:eO kvs k=none):putK kvs k v=kvs++[(k,v)]:=by unfold putK;rw[mU,h];exact if_neg (by decide)
theorem qZ.Av {o:Option V}{u:Option Qf}(r:qZ o u):o.isSome=u.isSome:=by
 cases o with
 |none=>cases u with
  |none=>rfl
  |some _=>exact(show False from r).elim
 |some _=>cases u with
  |none=>exact(show False from r).elim
  |some _=>rfl
theorem KV.val {kvs:List (κ×V)}{vs:List (κ×Qf)}(r:KV kvs vs)(k:κ):qZ (eO kvs k) (T3 vs k):=by
 unfold KV at r;induction r with
 |nil=>exact RK
 | @cons p q ps qs h t ih=>
  obtain⟨h1,h2⟩:=h;by_cases e:p.1=k
  ·have e':q.1=k:=h1.symm.trans e;have b:T3 (q::qs) k=some q.2:=by simp[T3,Mc,e']
   rw[qO e,b];exact h2
  have e':¬q.1=k:=fun z=>e (h1.trans z);have b:T3 (q::qs) k=T3 qs k:=by simp[T3,Mc,e']
  rw[qd e,b];exact ih
theorem KV.any {kvs:List (κ×V)}{vs:List (κ×Qf)}(r:KV kvs vs)(k:κ):(kvs.any fun kv=>decide (kv.1=k))=vs.any fun kv=>decide (kv.1=k):=by
 unfold KV at r;induction r with
 |nil=>rfl
 |cons h t ih=>rw[Of,Of,ih,h.1]
theorem KV.Hw {kvs:List (κ×V)}{vs:List (κ×Qf)}(r:KV kvs vs)(k:κ){y:V}{u:Qf}(ry:RelV y u) :
  KV (kvs.map fun kv=>if kv.1=k then(kv.1,y)else kv) (vs.map fun kv=>if kv.1=k then(kv.1,u)else kv):=by
 unfold KV at r ⊢;induction r with
 |nil=>exact .nil
 | @cons p q ps qs h t ih=>
  rw[g_,g_];refine .cons ?_ ih;obtain⟨h1,h2⟩:=h;by_cases e:p.1=k
  ·rw[if_pos e,if_pos (h1.symm.trans e)];exact⟨h1,ry⟩
  rw[if_neg e,if_neg (fun z=>e (h1.trans z))];exact⟨h1,h2⟩
theorem KV.put {kvs:List (κ×V)}{vs:List (κ×Qf)}(r:KV kvs vs)(k:κ){y:V}{u:Qf}(ry:RelV y u):KV (putK kvs k y) (stored vs k u):=by
 unfold putK stored;rw[r.any k];by_cases e:(vs.any fun kv=>decide (kv.1=k))=true
 ·rw[if_pos e,if_pos e];exact r.Hw k ry
 rw[if_neg e,if_neg e];exact Xf r ⟨rfl,ry⟩
theorem KV.length {kvs:List (κ×V)}{vs:List (κ×Qf)}(r:KV kvs vs):kvs.length=vs.length:=RE r
end
theorem ym{P:Qv}{w:Qy}{k:Key}{u:Qf}(r:RelV (kV k) u):(bo P w).is k u=true:=by
 rcases k with i | _|x
 ·obtain⟨t,e⟩:=(show ∃t,u=RX i t from r);subst e;exact vX P w i t
 ·cases r;rfl
 obtain⟨t,e⟩:=(show ∃t,u=U0 x t from r);subst e;exact vS P w x t
theorem rW{P:Qv}{w:Qy}:∀{ks:List Key}{us:List Qf},Vals (ks.map kV) us->ItemsAre (bo P w) ks us
 | [],_,r=>by rw[MN]at r;cases r;exact .nil
 |k::ks,_,r=>by
  rw[g_]at r;cases r with
  |cons h t=>exact .cons (ym h) (rW t)
abbrev KT(H:Hp):List (List Key×V)->List (List Key×Qh×Qf)->Prop:=So fun p q=>p.1=q.1/\H q.2.1=some (.tup (p.1.map kV))/\RelV p.2 q.2.2
theorem KT.val {H:Hp}{kvs:List (List Key×V)}{xs:List (List Key×Qh×Qf)}(r:KT H kvs xs)(k:List Key):qZ (eO kvs k) ((Ui xs k).map (·.2)):=by
 induction r with
 |nil=>exact RK
 | @cons p q ps qs h t ih=>
  obtain⟨h1,_,h2⟩:=h;by_cases e:p.1=k
  ·have e':q.1=k:=h1.symm.trans e;have b:Ui (q::qs) k=some q.2:=by simp[Ui,Mc,e']
   rw[qO e,b];exact h2
  have e':¬q.1=k:=fun z=>e (h1.trans z);have b:Ui (q::qs) k=Ui qs k:=by simp[Ui,Mc,e']
  rw[qd e,b];exact ih
theorem KT.Hw {H:Hp}{kvs:List (List Key×V)}{xs:List (List Key×Qh×Qf)}(r:KT H kvs xs)(k:List Key){y:V}{u:Qf}(ry:RelV y u) :
  KT H (kvs.map fun kv=>if kv.1=k then(kv.1,y)else kv) (xs.map (putAt k u)):=by
 induction r with
 |nil=>exact .nil
 | @cons p q ps qs h t ih=>
  rw[g_,g_];refine .cons ?_ ih;obtain⟨h1,h2,h3⟩:=h;unfold putAt;by_cases e:p.1=k
  ·rw[if_pos e,if_pos (h1.symm.trans e)];exact⟨h1,h2,ry⟩
  rw[if_neg e,if_neg (fun z=>e (h1.trans z))];exact⟨h1,h2,h3⟩
theorem KT.put {H:Hp}{kvs:List (List Key×V)}{xs:List (List Key×Qh×Qf)}(r:KT H kvs xs)(k:List Key){b:Qh}{y:V}{u:Qf}(hb:H b=some (.tup (k.map kV)))(ry:RelV y u) :
  KT H (putK kvs k y) (storedH xs k b u):=by
 have e:(kvs.any fun kv=>decide (kv.1=k))=(Ui xs k).isSome:=by rw[mU,(r.val k).Av,Option.isSome_map]
 unfold putK storedH;rw[e];by_cases q:(Ui xs k).isSome=true
 ·rw[if_pos q,if_pos q];exact r.Hw k ry
 rw[if_neg q,if_neg q];exact Xf r ⟨rfl,hb,ry⟩
theorem KT.keeps {H H':Hp}{kvs:List (List Key×V)}{xs:List (List Key×Qh×Qf)}(r:KT H kvs xs)(ht:∀b ys,H b=some (.tup ys)->H' b=some (.tup ys)):KT H' kvs xs:=
 Paired.GN r fun _ _ z=>⟨z.1,ht _ _ z.2.1,z.2.2⟩
section
variable{P:Qv}{w:Qy}{H:Hp}{h:Qz}{a:Qh}
theorem Gb{u:HO}(ok:HOk P w H h)(e:Rd H a u):ba P w H h a u:=e.ok ok
theorem yf{kvs:List (Key×V)}(ok:HOk P w H h)(e:Rd H a (.dK kvs)):kvs.length<=sizeLine/\(a == Q9)=false/\∃vs,KV kvs vs/\h.DictOf (bo P w) a vs:=
 show ba P w H h a (.dK kvs)from Gb ok e
theorem FO{kvs:List (Key×V)}(ok:HOk P w H h)(e:H a=some (.dK kvs)):kvs.length<=sizeLine/\(a == Q9)=false/\∃vs,KV kvs vs/\h.DictOf (bo P w) a vs:=yf ok (.inl e)
theorem wy{ks:List Key}(ok:HOk P w H h)(e:H a=some (.tup (ks.map kV))):(SE (bo P w)).is h ks a:=by obtain⟨_,its,r,o,h1,h2,n,h3⟩:=(show ba P w H h a (.tup (ks.map kV))from ok a _ e);exact⟨o,its.toArray,n,h1,h2,h3,by simpa using rW r⟩
theorem yN{kvs:List (List Key×V)}(ok:HOk P w H h)(e:Rd H a (.dT kvs)):kvs.length<=sizeLine/\(a == Q9)=false/\
  ∃xs,KT H kvs xs/\h.DictOfH (SE (bo P w)) a xs:=by
 obtain⟨z,y,xs,r,o,es,ep,h1,h2,h3,h4,h5⟩:=(show ba P w H h a (.dT kvs)from Gb ok e);refine⟨z,y,xs,r,o,es,ep,h1,h2,h3,h4,fun x hx=>?_,h5⟩;have all:∀{l:List (List Key×V)}{m:List (List Key×Qh×Qf)},KT H l m->∀x∈m,(SE (bo P w)).is h x.1 x.2.1:=by
  intro l m q;induction q with
  |nil=>intro x hx;exact nomatch hx
  | @cons p q ps qs hq t ih=>
   intro x hx;rcases n_.mp hx with e|hx
   ·subst e;exact wy ok (by rw[<-hq.1];exact hq.2.1)
   exact ih x hx
 exact all r x hx
theorem Kr{kvs:List (List Key×V)}(ok:HOk P w H h)(e:H a=some (.dT kvs)):kvs.length<=sizeLine/\(a == Q9)=false/\
  ∃xs,KT H kvs xs/\h.DictOfH (SE (bo P w)) a xs:=yN ok (.inl e)
end
noncomputable def oP(H:Hp)(a:Qh)(y:V)(r:Option V):Prop:=
 (∃kvs k,Rd H a (.dK kvs)/\y=kV k/\r=eO kvs k)\/∃kvs k b,Rd H a (.dT kvs)/\y=.ref b/\H b=some (.tup (k.map kV))/\r=eO kvs k
noncomputable def AF(H:Hp)(a:Qh)(y v:V)(H':Hp):Prop:=
 (∃kvs k,H a=some (.dK kvs)/\y=kV k/\kvs.length<sizeLine/\H'=upd H a (.dK (putK kvs k v)))\/
 ∃kvs k b,H a=some (.dT kvs)/\y=.ref b/\H b=some (.tup (k.map kV))/\kvs.length<sizeLine/\H'=upd H a (.dT (putK kvs k v))
theorem oP.k {H:Hp}{a:Qh}{kvs:List (Key×V)}{k:Key}(e:H a=some (.dK kvs)):oP H a (kV k) (eO kvs k):=.inl ⟨kvs,k,.inl e,rfl,rfl⟩
theorem AF.k {H:Hp}{a:Qh}{kvs:List (Key×V)}{k:Key}{v:V}(e:H a=some (.dK kvs))(hl:kvs.length<sizeLine):AF H a (kV k) v (upd H a (.dK (putK kvs k v))):=.inl ⟨kvs,k,e,rfl,hl,rfl⟩
section
variable{X:Cx}{pins:List (Qh×Obj)}{σ:St}{H:Hp}{s:Qi}{a:Qh}{y v:V}{u r:Qf}{o:Option V}{A:QE}{E:Qf->Qi->Prop}
theorem Inv.big (I:Inv X pins σ H s):Q9<s.heap.objs.size:=by have h:Q8<s.heap.objs.size:=(I.mod.glob.keeps I.bk).lt;exact NU (by decide) h
theorem rP{Q:Qf->Qi->Prop}(hu:A.units+1<cLine)(I:Inv X pins σ H s)(g:oP H a y (some v))(ry:RelV y u)(h:∀w' s',Inv X pins σ H s'->RelV v w'->Q w' s') :
  Qn (Qs X.prog X.w) A (Tq (.ref a) u) Q E s:=by
 rcases g with⟨kvs,k,e,ey,l⟩|⟨kvs,k,b,e,ey,eb,l⟩
 ·subst ey;obtain⟨z,hd,vs,rel,dd⟩:=yf I.hok e;obtain⟨w',hw,rw'⟩:=qZ.some_of (v:=v) (o:=T3 vs k) (by rw[l];exact rel.val k);exact wpAny_getItem_of (ym ry) dd.mapOf hw (h w' _ (I.tok _) rw')
 subst ey;cases (show u=QV b from ry);obtain⟨z,hd,xs,rel,dd⟩:=yN I.hok e;obtain⟨w',hw,rw'⟩:=qZ.some_of (v:=v) (o:=(Ui xs k).map (·.2)) (by rw[l];exact rel.val k);obtain⟨p,hp,hp2⟩:=NK.mp hw;refine wpAny_getItem_heap (U8 hu) (wy I.hok eb) dd hp ?_;rw[hp2];exact h w' _ (I.tok _) rw'
theorem oW{h':Qz}{t':Nat}{ob:HO}(I:Inv X pins σ H s)(mu:Mut (H a))(hs:Q7 a s.heap h')(he:∃q,h'.get? a=some q)(new:ba X.prog X.w (upd H a ob) h' a ob) :
  Inv X pins σ (upd H a ob) {s with heap:=h',toks:=t'}:=
 I.write (x:=a) (e:=a) mu (.inl rfl) (fun b q hb z=>(hs.2 b hb).trans z) he new
theorem De{P:Qv}{w:Qy}{H':Hp}{h':Qz}{kvs:List (Key×V)}{vs:List (Key×Qf)}(z:kvs.length<=sizeLine)(hd:(a == Q9)=false)(rel:KV kvs vs)(dd:h'.DictOf (bo P w) a vs) :
  ba P w H' h' a (.dK kvs):=⟨z,hd,vs,rel,dd⟩
theorem nH{H':Hp}{Q:Unit->Qi->Prop}(hu:A.units+1<cLine)(I:Inv X pins σ H s)(g:AF H a y v H')(ry:RelV y u)(rv:RelV v r)(h:∀s',Inv X pins σ H' s'->Q () s') :
  Qn (Qs X.prog X.w) A (V3 (.ref a) u r) Q E s:=by
 rcases g with⟨kvs,k,e,ey,l,eH⟩|⟨kvs,k,b,e,ey,eb,l,eH⟩
 ·subst ey eH;obtain⟨z,hd,vs,rel,dd⟩:=FO I.hok e;have hz:vs.length<=sizeLine:=by rw[<-rel.length];exact z
  have hl:(putK kvs k v).length<=sizeLine:=by have:=iZ kvs k v;lia
  refine wpAny_setItem_pairs (hsz:=hz) (ym ry) dd fun h' dd' hs=>h _ ?_;have he:∃q,h'.get? a=some q:=let ⟨q,_,_,hq,_⟩:=dd';⟨q,hq⟩
  exact oW I (by rw[e];exact RK) hs he (De hl hd (rel.put k rv) dd')
 subst ey eH;cases (show u=QV b from ry);obtain⟨z,hd,xs,rel,dd⟩:=Kr I.hok e;have hz:xs.length<=sizeLine:=by rw[<-RE rel];exact z
 have hl:(putK kvs k v).length<=sizeLine:=by have:=iZ kvs k v;lia
 refine wpAny_setItem_heap (hsz:=hz) (U8 hu) (wy I.hok eb) dd fun h' dd' hs=>h _ ?_;obtain⟨q,es,ep,hq,h2,h3,h4,_,h5⟩:=dd';refine oW I (by rw[e];exact RK) hs ⟨q,hq⟩ ⟨hl,hd,_,(rel.put k eb rv).keeps fun c ys ec=>?_,q,es,ep,hq,h2,h3,h4,h5⟩;rw[aM (CQ ec e (fun z=>nomatch z))];exact ec
end
section
variable{X:Cx}{pins:List (Qh×Obj)}{σ:St}{H:Hp}{s:Qi}{a:Qh}{kvs:List (Key×V)}{k:Key}{u:Qf}{A:QE}{E:Qf->Qi->Prop}
theorem JW{Q:Qf->Qi->Prop}(I:Inv X pins σ H s)(e:Rd H a (.dK kvs))(h:∀t s',Inv X pins σ H s'->Q (.int kvs.length t) s'):Qn (Qs X.prog X.w) A (call (.builtin "len") [.ref a]) Q E s:=by obtain⟨z,hd,vs,rel,dd⟩:=yf I.hok e;refine call_len_dict hd dd (by rw[<-rel.length];rw[sizeLine_eq]at z;lia) ?_;rw[<-rel.length];exact h _ _ (I.tok _)
end
noncomputable def JC(i:Qx):Prop:=∀ov iv,Tw i false ov iv=Xl [ov,iv] (Tq ov iv)
theorem Fp{prog:Qv}{w:Qy}{A:QE}{E:Qf->Qi->Prop}{s:Qi}{env:Env}{value slice:Qx}{pos:Pos}{T id:String}{Q:Qf->Qi->Prop}
  (hl:typeLookup (.type T) "__getitem__"=pure (some (.builtin id))) (hs:JC slice)
  (h:Qn (Qs prog w) A (QO value env) (fun o s₁=>Qn (Qs prog w) A (QO slice env) (fun i s₂=>s₂.TypeIs o T/\Qn (Qs prog w) A (Tq o i) Q E s₂) E s₁) E s) :
  Qn (Qs prog w) A (QO (.Subscript value slice pos) env) Q E s:=by
 refine VI (QM h (fun o s₁ h₁=>QM h₁ (fun i s₂ h₂=>?_) fun _ _ x=>x) fun _ _ x=>x);obtain⟨hT,h₂⟩:=h₂;unfold S4;refine Qe ?_;rw[Uz hT.not_modules];refine Qe (Uj hT hl ?_);have fin:Qn (Qs prog w) A (Tw slice false o i) (fun r s₃=>Qn (Qs prog w) A (V8 value o r >>= fun _=>pure r) Q E s₃) E s₂:=by rw[hs o i];exact VM (QM h₂ (fun r s₃ h₃=>Qe (UN (Qj h₃))) fun _ _ x=>x)
 first
  |exact Qj (Qe fin)
  |exact Qe (Qj (Qe fin))
  |exact Qe fin
theorem oz{X:Cx}{pins:List (Qh×Obj)}{σ:St}{H:Hp}{s:Qi}{a:Qh}{y:V}{o:Option V}(I:Inv X pins σ H s)(g:oP H a y o):s.TypeIs (.ref a) "dict":=by
 rcases g with⟨kvs,k,e,_,_⟩|⟨kvs,k,b,e,_,_,_⟩
 ·obtain⟨_,_,vs,_,dd⟩:=yf I.hok e;exact dd.typeIs
 obtain⟨_,_,xs,_,dd⟩:=yN I.hok e;exact dd.typeIs
noncomputable def Jq(td ty:TE):TE:=fun σ H Q=>td σ H fun x H1=>ty σ H1 fun y H2=>∃a v,x=.ref a/\oP H2 a y (some v)/\Q v H2
noncomputable def J7(td ty tv:TE):TS:=fun D σ H=>tv σ H fun v H1=>td σ H1 fun x H2=>ty σ H2 fun y H3=>∃a H4,x=.ref a/\AF H3 a y v H4/\D.nx σ H4
section
variable{X:Cx}{o i e value:Qx}{pos pos' tpos:Pos}{td ty tv:TE}
theorem oT(hu:X.A.units+1<cLine)(ho:PE X o td)(hi:PE X i ty)(hs:JC i):PE X (.Subscript o i pos) (Jq td ty):=by intro pins s σ H Q I h;refine Fp TV.lookup hs (thn (ho pins s σ H _ I h) fun u s1 ⟨x,H1,I1,rx,q1⟩=>thn (hi pins s1 σ H1 _ I1 q1) ?_);rintro iv s2 ⟨y,H2,I2,ry,a,v,ex,g,q2⟩;subst ex;obtain rfl:u=QV a:=rx;exact⟨oz I2 g,rP hu I2 g ry fun w' s3 I3 rw'=>⟨v,H2,I3,rw',q2⟩⟩
theorem Dy(hu:X.A.units+1<cLine)(ho:PE X o td)(hi:PE X i ty)(hv:PE X value tv)(hs:S8 value (some (.Subscript o i pos')) pos.line X.env=pure false) :
  PS X (.Assign [.Subscript o i pos'] value pos) (J7 td ty tv):=by
 intro pins s σ H D I h;refine wpAny_Assign_Subscript (thn (hv pins s σ H _ I h) fun r s1 ⟨v,H1,I1,rv,q1⟩=>thn (ho pins s1 σ H1 _ I1 q1) fun u s2 ⟨x,H2,I2,rx,q2⟩=>thn (hi pins s2 σ H2 _ I2 q2) fun iv s3 ⟨y,H3,I3,ry,a,H4,ex,g,q3⟩=>?_) hs;subst ex;obtain rfl:u=QV a:=rx;exact nH hu I3 g ry rv fun s4 I4=>⟨σ,H4,I4,q3⟩
end
theorem Bu{P:Qv}{w:Qy}{H:Hp}(h:Qz)(hb:Q9<h.objs.size):ba P w H (h.push { cls:=.type "dict",data:=.dict #[] }) h.objs.size (.dK []):=
 ⟨B_ _,beq_eq_false_iff_ne.mpr (R6 (x_ hb)),[],.nil,XU h⟩
theorem BH{P:Qv}{w:Qy}{H:Hp}(h:Qz)(hb:Q9<h.objs.size):ba P w H (h.push { cls:=.type "dict",data:=.dict #[] }) h.objs.size (.dT []):=
 ⟨B_ _,beq_eq_false_iff_ne.mpr (R6 (x_ hb)),[],.nil,_,#[],0,Qo _ rfl,⟨rfl,rfl,rfl⟩,rfl,rfl,Mk⟩
noncomputable def Hq:TE:=fun _ H Q=>∀p,H p=none->Q (.ref p) (upd H p (.dT []))
section
variable{X:Cx}{pos:Pos}
theorem CT:PE X (.Dict [] [] pos) Hq:=fun pins s σ H Q I h=>
 wpAny_Dict_empty ⟨.ref s.heap.objs.size,_,I.laid (a:=s.heap.objs.size) (o:=.dT []) (t':=s.toks) (fun _ _ q=>Qk _ q) (b_ _) (BH s.heap I.big),rfl,h _ (I.hok.fresh (b_ _))⟩
end
noncomputable def xv:List (TE×TE)->St->Hp->(List (V×V)->Hp->Prop)->Prop
 | [],_,H,Q=>Q [] H
 | (tk,tv)::r,σ,H,Q=>tk σ H fun x H1=>tv σ H1 fun y H2=>xv r σ H2 fun ps H3=>Q ((x,y)::ps) H3
abbrev VV:List (V×V)->List (Qf×Qf)->Prop:=So fun p q=>RelV p.1 q.1/\RelV p.2 q.2
noncomputable def PPs(X:Cx)(pos:Pos)(keys:List (Option Qx))(values:List Qx)(trs:List (TE×TE)):Prop:=
 ∀(pins:List (Qh×Obj)) (s:Qi) (σ:St) (H:Hp) (Q:List (V×V)->Hp->Prop),Inv X pins σ H s->xv trs σ H Q->
  Qn (Qs X.prog X.w) X.A (evalPairs (pairTrees keys values X.env pos)) (fun vs s'=>∃ps H',Inv X pins σ H' s'/\VV ps vs/\Q ps H') X.xe s
theorem Fj{X:Cx}{pos:Pos}:PPs X pos [] [] []:=fun pins s σ H Q I h=>pairTrees_nil_walk ⟨[],H,I,.nil,h⟩
theorem wk{X:Cx}{pos:Pos}{k v:Qx}{ks:List (Option Qx)}{vs:List Qx}{tk tv:TE}{trs:List (TE×TE)}(hk:PE X k tk)(hv:PE X v tv)(hr:PPs X pos ks vs trs) :
  PPs X pos (some k::ks) (v::vs) ((tk,tv)::trs):=fun pins s σ H Q I h=>
 pairTrees_cons_walk (thn (hk pins s σ H _ I h) fun u s1 ⟨x,H1,I1,rx,q1⟩=>thn (hv pins s1 σ H1 _ I1 q1) fun w2 s2 ⟨y,H2,I2,ry,q2⟩=>
  thn (hr pins s2 σ H2 _ I2 q2) fun ws s3 ⟨ps,H3,I3,rel,q3⟩=>⟨(x,y)::ps,H3,I3,.cons ⟨rx,ry⟩ rel,q3⟩)
noncomputable def jf(kvs more:List (Key×V)):List (Key×V):=more.foldl (fun acc kv=>putK acc kv.1 kv.2) kvs
theorem KV.merge:∀{more:List (Key×V)}{rs:List (Key×Qf)}{kvs:List (Key×V)}{vs:List (Key×Qf)},KV more rs->KV kvs vs->KV (jf kvs more) (merged vs rs):=by
 intro more rs kvs vs r;unfold KV at r;induction r generalizing kvs vs with
 |nil=>intro q;exact q
 | @cons p q ps qs h t ih=>
  intro r0;have e:KV (putK kvs p.1 p.2) (stored vs q.1 q.2):=by have:=r0.put p.1 h.2;rw[<-h.1];exact this
  exact ih e
theorem jS:∀(more kvs:List (Key×V)),(jf kvs more).length<=kvs.length+more.length
 | [],kvs=>by show kvs.length<=kvs.length+0;lia
 |p::r,kvs=>by have h1:=jS r (putK kvs p.1 p.2);have h2:=iZ kvs p.1 p.2;show(jf (putK kvs p.1 p.2) r).length<=_;rw[h_];lia
theorem pH{P:Qv}{w:Qy}:∀{kvs:List (Key×V)}{ws:List (Qf×Qf)},VV (kvs.map fun kv=>(kV kv.1,kv.2)) ws->∃rs,Carries (bo P w) ws rs/\KV kvs rs
 | [],_,r=>by rw[MN]at r;cases r;exact⟨[],RK,.nil⟩
 |p::kvs,_,r=>by
  rw[g_]at r;cases r with
  | @cons a b as bs h t=>
   obtain⟨rs,c,q⟩:=pH (P:=P) (w:=w) t;obtain⟨b1,b2⟩:=b;exact⟨(p.1,b2)::rs,⟨ym h.1,rfl,c⟩,.cons ⟨rfl,h.2⟩ q⟩
noncomputable def JL(trs:List (TE×TE)):TE:=fun σ H Q=>∀p,H p=none->xv trs σ (upd H p (.dK [])) fun ps H2=>H2 p=some (.dK [])/\∃kvs:List (Key×V),ps=kvs.map (fun kv=>(kV kv.1,kv.2))/\kvs.length<=15/\Q (.ref p) (upd H2 p (.dK (jf [] kvs)))
theorem Ei{X:Cx}{pos:Pos}{keys:List (Option Qx)}{values:List Qx}{trs:List (TE×TE)}(h:PPs X pos keys values trs)(hall:keys.all (·.isSome)=true)(hl:keys.length=values.length)(h0:keys≠[])
  (h15:keys.length<=15):PE X (.Dict keys values pos) (JL trs):=by
 intro pins s σ H Q I q;have hn:=I.hok.fresh (b_ s.heap.objs.size);have I1:=I.laid (a:=s.heap.objs.size) (o:=.dK []) (h':=s.heap.push { cls:=.type "dict",data:=.dict #[] }) (t':=s.toks) (fun _ _ q=>Qk _ q) (b_ _) (Bu s.heap I.big);refine wpAny_Dict_walk (knd:=bo X.prog X.w) hall hl h0 h15 (thn (h pins _ σ _ _ I1 (q _ hn)) ?_);rintro ws s2 ⟨ps,H2,I2,rel,e,kvs,ep,lk,q2⟩;subst ep;obtain⟨rs,c,rk⟩:=pH (P:=X.prog) (w:=X.w) rel;obtain⟨z,hd,vs0,r0,dd⟩:=FO I2.hok e;cases r0;refine⟨rs,c,dd,fun h' dd' hs=>⟨.ref s.heap.objs.size,_,?_,rfl,q2⟩⟩;have hz:(jf [] kvs).length<=sizeLine:=by have h1:=jS kvs [];rw[LR]at h1;rw[sizeLine_eq];lia
 have he:∃q,h'.get? s.heap.objs.size=some q:=let ⟨q,_,_,hq,_⟩:=dd';⟨q,hq⟩
 exact oW I2 (by rw[e];exact RK) hs he (De hz hd (rk.merge .nil) dd')
end L2
namespace Att
open PySem PySem.W PySem.Calls PyProof.Rows
theorem oM{P:T8}{h:Qz}:∀(ns:List Int) (vs:List Qf),WellAll P h vs (ns.map WData.int)->Rr vs ns:=by
 intro ns;induction ns with
 |nil=>
  intro vs w;rw[MN]at w;cases w;exact .nil
 |cons n ns ih=>
  intro vs w;rw[g_]at w;cases w with
  |cons a b=>
   cases a;exact .cons _ _ (ih _ b)
theorem An{l:OpenLaw}{n:Nat}(hn:l.most=some n){P:T8}{h:Qz}{args:List WData}{vals:List Qf}
  (hpre:l.row.toRowW.claim.pre args=true) (hwl:WellAll P h vals args) :
  ∃a vs ns,vals=[QV a]/\args=[WData.list (ns.map WData.int)]/\h.get? a=some { cls:=.type "list",data:=.seq vs.toArray}/\Rr vs ns/\ns.length<=n:=by
 have hsh:WShape.hasAll [] args [.list .int]=true:=(pre_splitW hpre).1;have hc:l.pre.holds [] { args:=args}=true:=(pre_splitW hpre).2;obtain⟨d,r,rfl,h1,h2⟩:=hasAllW_cons hsh;obtain rfl:=hasAllW_nil h2;obtain⟨xs,rfl,h3⟩:=hasW_list h1;obtain⟨ns,rfl⟩:=items_int h3;have hlen:ns.length<=n:=by
  unfold OpenLaw.pre at hc;have h4:(WTm.not (.lt (.lit (.int (n:Int))) (.len (.arg 0)))).holds [] { args:=[.list (ns.map .int)] }=true:=by have h4:=(holds_andW hc).1;rw[hn]at h4;exact h4
  have h5:=condW_of h4 (w_not (w_lt w_lit (w_len_list (w_arg rfl))));rw[a_]at h5;refine LA fun q=>?_;have q':(n:Int)<((ns.length:Nat):Int):=by lia
  first
   | (rw[decide_eq_true q']at h5;exact absurd h5 (by decide))
   | (simp at h5;omega)
 cases hwl with
 |cons w1 w2=>
  cases w2;cases w1 with
  |list ho hall=>exact⟨_,_,ns,rfl,rfl,ho,oM ns _ hall,hlen⟩
theorem A0(l:OpenLaw)(args:List WData):l.row.toRowW.claim.post args (.bool true) args=true:=
 postW_of (r:=l.row.toRowW) (X:=(true == true))
  (show WShape.has [] (.bool true) .bool=true by first|rfl|decide|simp[WShape.has,WShape.arms,WShape.armsAll])
  (show(WTm.eq .res (.lit (.bool true))).value [] { args:=args,res:=some (.bool true),after:=args}=some (.bool (true == true))from w_eq_bool (w_res rfl) w_lit) rfl
theorem vg{l:OpenLaw}{n:Nat}{q:Qv}{loose:List Str}{XP:(Str->Option Qf)->Qz->Prop}{YP:Qy->Qz->Prop}{d:DefRec}
  (hn:l.most=some n) (hdf:d.params.defaults=[])
  (call:∀(w:Qy) (s₀ s₁:Qi) (mg mb:Str->Option Qf) (fa:Qh) (o:Obj) (pm cd doc:Qf) (a:Qh) (vs:List Qf) (ns:List Int),
   Ground q loose [] XP w s₀ mg mb s₁.heap->YP w s₁.heap->
   s₁.heap.get? fa=some o->o.data=.func (docDef d.name d.params d.body d.scope pm cd doc)->s₁.heap.CodeRec cd d.name->mg d.name=some (.ref fa)->
   s₁.heap.get? a=some { cls:=.type "list",data:=.seq vs.toArray}->Rr vs ns->ns.length<=n->s₁.gens=#[]->
   R7 (Qs l.prog w) T4 (.call (.ref fa) ⟨[.ref a],[]⟩) (fun r s'=>r=.ok (.ret (.bool true))/\OldK s₁.heap s'.heap/\s'.os=s₁.os/\S7 s'.gens) s₁) :
  WalkO q loose XP YP l.row.toRowW d [] (fun f vs=>VN f vs):=by
 intro w s₀ s₁ mg mb G Y fa o pm cd doc dV kV ho hd hcd hD hmg hg args vals as hpre hlay hrd hwl hlo;obtain rfl:dV=.none:=Dflts.none hD hdf;obtain rfl:kV=.none:=Dflts.noKw hD;obtain⟨a,vs,ns,rfl,rfl,hobj,hints,hlen⟩:=An hn hpre hwl;refine enter_call (RZ (call w s₀ s₁ mg mb fa o pm cd doc a vs ns G Y ho (fd_plain hd) hcd hmg hobj hints hlen hg) fun r s' hq=>?_);obtain⟨rfl,h2,h3,h4⟩:=hq;exact⟨.inl ⟨.bool true,.bool true,[],rfl,fun _=>rfl,.bool true,A0 l _,fun _=>⟨NG,fun _ hm=>(nomatch hm)⟩⟩,h2,h3,h4⟩
section
variable{prog:Qv}{w:Qy}{A:QE}{E:Qf->Qi->Prop}{s:Qi}{K:Frag}
noncomputable def ledger(h:Qz)(L d:Qh):List (Qh×Obj):=(A_ h.objs.size).filterMap fun a=>if a=L\/a=d then none else(h.get? a).map fun o=>(a,o)
end
end Att
namespace L2
open PySem PySem.Spec PyProof.Rows
theorem rT:∀{vs:List Qf}{ns:List Int},Rr vs ns->Vals (ns.map V.int) vs
 | _,_,.nil=>.nil
 | _,_,.cons n t h=>.cons ⟨t,rfl⟩ (rT h)
noncomputable def Hx(H:Hp):Prop:=∀b,H b=none\/∃o xs,H b=some (.frz o (.lst xs))
theorem Ba{P:Qv}{w:Qy}{K:Qg}{mg mb:Str->Option Qf}{CX:CXT}{k:Nat}{fa a:Qh}{fd:QF}{x:Str}{sp:Sp}{s₁:Qi}{vs:List Qf}{ns:List Int}
  (KX:K.In s₁.heap) (hns:s₁.heap.Ns Q8 mg) (hb:s₁.heap.Ns UJ mb) (hbb:∀x:Str,x≠"__name__"->mb x=RL x) (hlim:s₁.heap.NoLimit) (hg:s₁.gens=#[])
  (ha:s₁.heap.get? a=some { cls:=.type "list",data:=.seq vs.toArray}) (hi:Rr vs ns) (hl:ns.length<=sizeLine) (hr:Room k T4)
  (F:∀base:Qz,K.In base->base.Ns Q8 mg->FnOk P w K mg base CX k fa fd [x] sp) (hbind:∀(s:Qi) (u:Qf),Uy s fd ⟨[u],[]⟩ [(x,u)])
  (hsp:∀H:Hp,Hx H->SqL K H a (ns.map V.int)->sp [.ref a] H (fun v _=>v=.bl true) fun _ _ _=>False)
  (hCX:∀H e s',CX [] H s₁ (fun _ _ _=>False) e s'->False) :
  R7 (Qs P w) T4 (.call (.ref fa) ⟨[.ref a],[]⟩) (fun r s'=>r=.ok (.ret (.bool true))/\OldK s₁.heap s'.heap/\s'.os=s₁.os/\S7 s'.gens) s₁:=by
 have rv:=rT hi;have lenV:=hi.length;have core:∀H:Hp,Hx H->SqL K H a (ns.map V.int)->HOk P w H s₁.heap->(∀b,H b≠none->b=a)->(H a≠none->K.lookup a=none)->
   R7 (Qs P w) T4 (.call (.ref fa) ⟨[.ref a],[]⟩) (fun r s'=>r=.ok (.ret (.bool true))/\OldK s₁.heap s'.heap/\s'.os=s₁.os/\S7 s'.gens) s₁:=by
  intro H hO hS hok hA hK;have base_of:∀{b:Qh}{o:Obj},s₁.heap.get? b=some o->H b=none->(ue s₁.heap H).get? b=some o:=fun e n=>C2 e n;have noA:∀{b:Qh}{o:Obj}{es:Array R_}{ep:Nat},s₁.heap.get? b=some o->o.data=.dict es ep->H b=none:=fun{b o es ep} e d=>by
   cases q:H b with
   |none=>rfl
   |some u=>
    have e':b=a:=hA b (by rw[q];simp);subst e';rw[ha]at e;cases e;have d':WM vs.toArray _=Data.dict es ep:=d;cases d'
  have nsK:∀{b:Qh}{m:Str->Option Qf},s₁.heap.Ns b m->(ue s₁.heap H).Ns b m:=fun{b m} ⟨o,es,ep,e,d,r⟩=>⟨o,es,ep,base_of e (noA e d),d,r⟩;have hKb:K.In (ue s₁.heap H):=fun b o e=>base_of (KX b o e) (by
   cases q:H b with
   |none=>rfl
   |some u=>
    have e':b=a:=hA b (by rw[q];simp);subst e';rw[hK (by rw[q];simp)]at e;cases e)
  have hM:Mod K mg (ue s₁.heap H):=⟨hKb,nsK hns,⟨mb,nsK hb,hbb⟩,let ⟨mc,h1,h2⟩:=hlim;⟨mc,nsK h1,h2⟩⟩;have e0:Env0 P w K mg (ue s₁.heap H) T4 [] s₁ H:=⟨rfl,hM,fun b o e=>Fw e,Nu (Am _ _),trivial,fun b hb=>absurd (show b∈([]:List Qh)from hb) (by simp),hok,.of_eq hg⟩;refine RZ ((F _ hKb (nsK hns)).run T4 [] s₁ H ⟨[.ref a],[]⟩ [.ref a] [.ref a] _ _ hr e0 (hbind s₁ (.ref a)) (.cons rfl .nil) (hsp H hO hS)) fun r s' h=>?_;cases r with
  |error e=>exact(hCX H e s' h).elim
  |ok fl=>
   cases fl with
   |next=>exact QC h
   |brk=>exact QC h
   |cont=>exact QC h
   |ret u=>
    obtain⟨v,H',os,bare,un,hok',r',q⟩:=h;have q':v=.bl true:=q;subst q';obtain rfl:u=VD true:=r';refine⟨rfl,OldK.of_keep fun b o e=>?_,os,bare⟩;cases q:H b with
    |none=>exact un.keep b o e q (by intro z;exact absurd (show b∈([]:List Qh)from z) (by simp)) (by simp)
    |some u=>
     rcases hO b with z|⟨ob,xs,z⟩
     ·rw[q]at z;cases z
     have z2:=un.frzs b ob _ z;obtain⟨e1,_⟩:=hok b _ z;obtain⟨e2,_⟩:=hok' b _ z2;rw[e]at e1;cases e1;exact e2
 cases hk:K.lookup a with
 |some o=>
  have e:=KX a o hk;rw[ha]at e;cases e;refine core (fun _=>none) (fun _=>.inl rfl) (.inr ⟨_,vs.toArray,_,hk,rfl,rfl,rfl,by rw[r_,lenV];exact hl,by simpa using rv⟩) (fun b u z=>by have z':(none:Option HO)=some u:=z;cases z') (fun b z=>absurd rfl z) fun z=>absurd rfl z
 |none=>
  refine core (fun b=>if b=a then some (.frz { cls:=.type "list",data:=.seq vs.toArray} (.lst (ns.map V.int)))else none) (fun b=>?_) (.inl (.inr ⟨{ cls:=.type "list",data:=.seq vs.toArray},if_pos rfl⟩)) (fun b u z=>?_) (fun b z=>?_) fun _=>hk
  ·by_cases hb:b=a
   ·exact .inr ⟨_,_,if_pos hb⟩
   exact .inl (if_neg hb)
  ·by_cases hb:b=a
   ·have z':=(if_pos hb).symm.trans z;cases z';subst hb;exact⟨ha,by rw[a_];exact hl,vs,_,rv,ha⟩
   have z':=(if_neg hb).symm.trans z;cases z'
  by_cases hb:b=a
  ·exact hb
  exact absurd (if_neg hb) z
theorem EC{l:Uk}{n k:Nat}{q:Qv}{loose:List Str}{XP:(Str->Option Qf)->Qz->Prop}{YP:Qy->Qz->Prop}{d:DefRec}{K:T8->Qg}{CX:Qy->CXT}{sp:Qy->Sp}{x:Str}
  (hn:l.most=some n) (hn2:n<=sizeLine) (hdf:d.params.defaults=[]) (hr:Room k T4)
  (hY:∀(w:Qy) (h:Qz),YP w h->(K w.params).In h)
  (F:∀(w:Qy) (mg:Str->Option Qf) (fa:Qh) (h:Qz),(K w.params).In h->h.Ns Q8 mg->mg d.name=some (.ref fa)->
   ∃fd:QF,(∀(s:Qi) (u:Qf),Uy s fd ⟨[u],[]⟩ [(x,u)])/\
    ∀base:Qz,(K w.params).In base->base.Ns Q8 mg->FnOk l.prog w (K w.params) mg base (CX w) k fa fd [x] (sp w))
  (hsp:∀(w:Qy) (H:Hp) (a:Qh) (ns:List Int),ns.length<=n->Hx H->SqL (K w.params) H a (ns.map V.int)->sp w [.ref a] H (fun v _=>v=.bl true) fun _ _ _=>False)
  (hCX:∀(w:Qy) (H:Hp) (s:Qi) (e:Qf) (s':Qi),CX w [] H s (fun _ _ _=>False) e s'->False) :
  Wu q loose XP YP l.row.toRowW d [] (fun f vs=>VN f vs):=by
 refine Att.vg hn hdf fun w s₀ s₁ mg mb fa o pm cd doc a vs ns G Y ho hd hcd hmg hobj hints hlen hg=>?_;have KX:=hY w _ Y;obtain⟨fd,hb,hF⟩:=F w mg fa _ KX G.T.g hmg;exact Ba KX G.T.g G.T.b G.T.builtins G.T.nolimit hg hobj hints (m_ hlen hn2) hr hF hb (fun H hO hS=>hsp w H a ns hlen hO hS) fun H e s'=>hCX w H s₁ e s'
noncomputable def eZ(s:QR):Arguments:=match s with
 | .FunctionDef _ a _ _ _ _ _ _ _ _=>a
 | _=>{ posonlyargs:=[],args:=[],vararg:=none,kwonlyargs:=[],kw_defaults:=[],kwarg:=none,defaults:=[] }
noncomputable def dA(s:QR):List QR:=match s with
 | .FunctionDef _ _ b _ _ _ _ _ _ _=>b
 | _=>[]
noncomputable def ax(s:QR):Rc:=match s with
 | .FunctionDef _ _ _ _ _ _ sc _ _ _=>sc
 | _=>{ kind:=.function,names:=[],isGenerator:=false,isCoroutine:=false}
abbrev CX0:CXT:=fun _ _ _ _ _ _=>False
abbrev E0:XK:=fun _ _ _=>False
theorem Jo{X:Cx}:Passes CX0 X E0:=fun _ _ _ _ _ _ _ h=>h.elim
structure Fun (K:Qg) (x qual:Str) (st:QR) (f:Qh) (fd:QF):Prop where
 ex:∃(oc:Qf) (od:Option Qh) (kV doc pm:Qf) (an:Option Qh) (cdv ct:Qf) (osl:Array (Option Qf)),
  fd=RN x qual (eZ st) (dA st) (ax st) .none kV doc pm an cdv ct/\K.lookup f=some ⟨oc,od,.func fd,osl⟩/\Tp K cdv qual=true
 kp:SN K (.ref f)=true
section
variable{P:Qv}{w:Qy}{K:Qg}{mg:Str->Option Qf}{base:Qz}
theorem Fun.ok {x qual:Str}{st:QR}{f:Qh}{fd:QF}{N ps:List Str}{k:Nat}{sp:Sp}(F:Fun K x qual st f fd)(S:FnScope N ps (ax st))(len:∀vs H Q E,sp vs H Q E->vs.length=ps.length)
  (hbody:∀(cdv:Qf) (A:QE) (outer:List Env) (s:Qi) (H:Hp) (vs:List V) (Q:VK) (E:XK),Room k (A.deeper (Td qual (ax st) s.heap.objs.size f cdv))->sp vs H Q E->
   ∃t,PSs (wJ CX0 P w K mg base N qual (ax st) f cdv A outer s H E).nox (dA st) t/\t { nx:=fun _ H'=>Q .non H',rt:=Q} (start N vs) H):FnOk P w K mg base CX0 (k+1) f fd ps sp:=by
 obtain⟨oc,od,kV,doc,pm,an,cdv,ct,osl,rfl,lk,hcd⟩:=F.ex;refine K6 lk hcd S len fun A outer s H vs Q E hr hsp=>?_;obtain⟨t,h,q⟩:=hbody cdv A outer s H vs Q E hr hsp;exact⟨t,h.nox,q⟩
theorem Fun.binds {x qual:Str}{st:QR}{f:Qh}{fd:QF}{ps:List Str}(F:Fun K x qual st f fd)
  (h:∀(kV doc pm:Qf) (an:Option Qh) (cdv ct:Qf) (us:List Qf),us.length=ps.length->WJ (RN x qual (eZ st) (dA st) (ax st) .none kV doc pm an cdv ct) ⟨us,[]⟩=pure (ps.zip us)):Binds K fd ps []:=by
 obtain⟨oc,od,kV,doc,pm,an,cdv,ct,osl,rfl,lk,hcd⟩:=F.ex;exact .all (h kV doc pm an cdv ct)
theorem xh{x qual:Str}{st:QR}{f:Qh}{oc:Qf}{od an:Option Qh}{osl:Array (Option Qf)}{kV doc pm cdv ct:Qf}(l:K.lookup f=some ⟨oc,od,.func (RN x qual (eZ st) (dA st) (ax st) .none kV doc pm an cdv ct),osl⟩)
  (c:Tp K cdv qual=true) (k:SN K (.ref f)=true):Fun K x qual st f (RN x qual (eZ st) (dA st) (ax st) .none kV doc pm an cdv ct):=⟨⟨oc,od,kV,doc,pm,an,cdv,ct,osl,rfl,l,c⟩,k⟩
end
theorem rm{A:QE}{k:Nat}(hr:Room k A):A.units+1<cLine:=Mg (MA (by decide:1<=64) _) hr.units
section
variable{X:Cx}
theorem pv(i:Nat){x:Str}{pos:Pos}(hN:X.N[i]?=some x:=by rfl)(hv:Vis X.env.scope x:=by first|exact e_ rfl|exact s_ (e_ rfl)|exact s_ (s_ rfl))(hd:(x ==("__debug__":Str))=false:=by decide)
  (hcd:(x ==("__classdict__":Str))=false:=by decide):PE X (.Name x pos) (GC i):=jr hN hv hd hcd
end
theorem KH{A B:Prop}(h:B):if false=true then A else B:=by rw[if_neg Mf];exact h
theorem L6{A B:Prop}(h:A):if true=true then A else B:=by rw[if_pos rfl];exact h
noncomputable def bI(H H':Hp):Prop:=∀b o,H b=some o->H' b=some o
theorem bI.seq {K:Qg}{H H':Hp}{a:Qh}{xs:List V}(e:bI H H')(h:SqL K H a xs):SqL K H' a xs:=by
 rcases h with (h|⟨o,h⟩)|h
 ·exact .inl (.inl (e _ _ h))
 ·exact .inl (.inr ⟨o,e _ _ h⟩)
 exact .inr h
end L2
namespace ZG
open PySem
noncomputable def Sq(b:Bool)(h:Qz)(l:Qh)(xs:Array Qf):Prop:=match b with
 |true=>h.IsTuple l xs
 |false=>h.IsList l xs
noncomputable def Dr(b:Bool)(h:Qz)(i l:Qh)(k:Nat):Prop:=match b with
 |true=>h.IsTupleIter i l k
 |false=>h.IsListIter i l k
theorem Sq.ext {b:Bool}{h h':Qz}{l c:Qh}{xs:Array Qf}(x:Sq b h l xs)(k:Sw c h h')(n:l≠c):Sq b h' l xs:=by
 cases b with
 |true=>exact Xt (show h.IsTuple l xs from x) k n
 |false=>exact Xz (show h.IsList l xs from x) k n
theorem Dr.ext {b:Bool}{h h':Qz}{i l c:Qh}{k:Nat}(x:Dr b h i l k)(e:Sw c h h')(n:i≠c):Dr b h' i l k:=by
 cases b with
 |true=>exact W4 (show h.IsTupleIter i l k from x) e n
 |false=>exact Xg (show h.IsListIter i l k from x) e n
theorem Dr.some {b:Bool}{h:Qz}{i l:Qh}{k:Nat}(x:Dr b h i l k):∃o,h.get? i=some o/\∀v,o.data≠.cell v:=by
 cases b with
 |true=>obtain⟨o,e,_,d⟩:=(show h.IsTupleIter i l k from x);exact⟨o,e,fun v z=>by rw[d]at z;cases z⟩
 |false=>obtain⟨o,e,_,d⟩:=(show h.IsListIter i l k from x);exact⟨o,e,fun v z=>by rw[d]at z;cases z⟩
theorem Dr.at {b:Bool}{h h':Qz}{i l:Qh}{k:Nat}(x:Dr b h i l k)(e:∀o,h.get? i=P7 o->h'.get? i=P7 o):Dr b h' i l k:=by
 cases b with
 |true=>obtain⟨o,q,r⟩:=(show h.IsTupleIter i l k from x);exact⟨o,e o q,r⟩
 |false=>obtain⟨o,q,r⟩:=(show h.IsListIter i l k from x);exact⟨o,e o q,r⟩
section
variable{prog:Qv}{w:Qy}{A:QE}{E:Qf->Qi->Prop}{s:Qi}
theorem EB{i l:Qh}{k:Nat}{xs:Array Qf}{v:Qf}{Q:Qf->Qi->Prop}(d:s.heap.IsTupleIter i l k)(q:s.heap.IsTuple l xs)(hv:xs[k]?=some v)
  (r:∀g,g.IsTupleIter i l (k+1)->Q7 i s.heap g->Q v {s with heap:=g}):Qn (Qs prog w) A (QU (.ref i)) Q E s:=by
 obtain⟨oi,hoi,ci,di⟩:=id d;obtain⟨ol,hol,_,nl,dl⟩:=q;unfold QU;refine Qe (QW (name:=Ra "__next__") d.typeIs RQ (QY RQ d.typeIs Tx ?_ (Tr _)));show Qn _ _ (UO (.ref i) 0 >>= _) _ _ s;refine Qe (Rb hoi di (x:=.ref l) rfl ?_);show Qn _ _ (if(QV l == QT)=true then _ else _) _ _ s;rw[if_neg (show ¬((QV l == QT)=true)from Mf)];show Qn _ _ (UO (.ref i) 1 >>= _) _ _ s;refine Qe (Rb hoi di (x:=.int k 0) rfl ?_);show Qn _ _ (U9 (.ref l) >>= _) _ _ s;refine Qe (RH hol dl ?_);simp only[LK,hv];refine Qe (Rk hoi di (by simp) (Qj ⟨v,rfl,Qj (r _ ?_ (QX ..))⟩));exact⟨_,Q1 _ hoi (RA (QS di _)),(Sf ..).trans ci,by rw[QS di];simp[Rh]⟩
theorem HY{i l:Qh}{k:Nat}{xs:Array Qf}{Q:Qf->Qi->Prop}(hh:A.handled=none)(d:s.heap.IsTupleIter i l k)(q:s.heap.IsTuple l xs)(hv:xs[k]?=none)
  (r:∀g e,Sw i s.heap g->(∃o,g.get? e=some o/\o.cls=.type "StopIteration")->E (.ref e) {s with heap:=g}):Qn (Qs prog w) A (QU (.ref i)) Q E s:=by
 obtain⟨oi,hoi,ci,di⟩:=id d;obtain⟨ol,hol,_,nl,dl⟩:=q;unfold QU;refine Qe (QW (name:=Ra "__next__") d.typeIs RQ (QY RQ d.typeIs Tx ?_ (Tr _)));show Qn _ _ (UO (.ref i) 0 >>= _) _ _ s;refine Qe (Rb hoi di (x:=.ref l) rfl ?_);show Qn _ _ (if(QV l == QT)=true then _ else _) _ _ s;rw[if_neg (show ¬((QV l == QT)=true)from Mf)];show Qn _ _ (UO (.ref i) 1 >>= _) _ _ s;refine Qe (Rb hoi di (x:=.int k 0) rfl ?_);show Qn _ _ (U9 (.ref l) >>= _) _ _ s;refine Qe (RH hol dl ?_);simp only[LK,hv];refine Qe (RV (Qe (Rk hoi di (by simp) ?_)));show Qn _ _ (T9 (.type "StopIteration") [] >>= _) _ _ _;refine Qe ?_;simp only[T9,Vt];refine Qe (QJ ?_ (by size_fits));refine Qe (m:=RI _ _) (Sx (a:=QT) (by first|rfl|(simp only[RI];rfl)) ?_);refine QJ ?_ (by size_fits);simp only[Vu];refine Qe (TJ ?_)
 first|rw[show A.in1.handled=none from hh]|rw[hh]
 refine Qe (Qj (Uu ?_));exact r _ _ (((QX ..).extBut.push _).push _) ⟨_,Qo _ rfl,rfl⟩
theorem xN{b:Bool}{i l:Qh}{k:Nat}{xs:Array Qf}{v:Qf}{Q:Qf->Qi->Prop}(d:Dr b s.heap i l k)(q:Sq b s.heap l xs)(hv:xs[k]?=some v)
  (r:∀g,Dr b g i l (k+1)->Q7 i s.heap g->Q v {s with heap:=g}):Qn (Qs prog w) A (QU (.ref i)) Q E s:=by
 cases b with
 |true=>exact EB d q hv r
 |false=>exact wpAny_nextOf_list_item d q hv r
theorem FQ{b:Bool}{i l:Qh}{k:Nat}{xs:Array Qf}{Q:Qf->Qi->Prop}(hh:A.handled=none)(d:Dr b s.heap i l k)(q:Sq b s.heap l xs)(hv:xs[k]?=none)
  (r:∀g e,Sw i s.heap g->(∃o,g.get? e=some o/\o.cls=.type "StopIteration")->E (.ref e) {s with heap:=g}):Qn (Qs prog w) A (QU (.ref i)) Q E s:=by
 cases b with
 |true=>exact HY hh d q hv r
 |false=>exact wpAny_nextOf_list_end hh d q hv r
structure Off (z TI TO i1 i2 l1 l2:Qh):Prop where
 a1:TI≠z
 a2:TO≠z
 a3:i1≠z
 a4:i2≠z
 a5:TI≠TO
 a6:TI≠i1
 a7:TI≠i2
 a8:TO≠i1
 a9:TO≠i2
 b1:i1≠i2
 c1:l1≠z
 c2:l1≠TO
 c3:l1≠i1
 c4:l1≠i2
 e1:l2≠z
 e2:l2≠TO
 e3:l2≠i1
 e4:l2≠i2
theorem Kc{b1 b2:Bool}{z TI TO i1 i2 l1 l2:Qh}{k:Nat}{xs ys:Array Qf}{x y a b:Qf}{Q:Qf->Qi->Prop}(D:Off z TI TO i1 i2 l1 l2)
  (hz:Sj s.heap z TI TO .none) (hi:Rv s.heap TI (.ref i1) (.ref i2)) (ho:Rv s.heap TO a b)
  (d1:Dr b1 s.heap i1 l1 k) (d2:Dr b2 s.heap i2 l2 k) (q1:Sq b1 s.heap l1 xs) (q2:Sq b2 s.heap l2 ys) (hx:xs[k]?=some x) (hy:ys[k]?=some y)
  (r:∀g,Sj g z TI TO (Rh s.heap.objs.size)->Rv g TO x y->Dr b1 g i1 l1 (k+1)->Dr b2 g i2 l2 (k+1)->Rv g s.heap.objs.size x y->g.objs.size=s.heap.objs.size+1->
   (∀c o,c≠z->c≠TO->c≠i1->c≠i2->s.heap.get? c=some o->g.get? c=some o)->Q (.ref s.heap.objs.size) {s with heap:=g}) :
  Qn (Qs prog w) A (Rt.«zip.__next__» ⟨[.ref z],[]⟩) (fun fin s'=>∃v,fin=.done (.ret v)/\Q v s') E s:=by
 show Qn _ _ (UO (.ref z) 2 >>= _) _ _ _;refine Qe (Rb hz rfl (x:=.bool false) rfl ?_);show Qn _ _ (UO (.ref z) 3 >>= _) _ _ _;refine Qe (Rb hz rfl (x:=.ref TI) rfl (Qe (RH hi rfl ?_)));show Qn _ _ (Rm (.ref z) >>= _) _ _ _;refine Qe ?_;unfold Rm;refine Qe (Rb hz rfl (x:=.none) rfl (Qj ?_));simp only[if_true];refine Qe (RV (Qe (Rb hz rfl (x:=.ref TO) rfl (Qe (RO hz (by simp) fun g1 z1 s1=>?_)))));have z1:Sj g1 z TI TO .ellipsis:=z1;refine Qe ?_;simp only[Ov,Pu,OG,OQ];refine Qe (Qe (TL ?_));show Qn _ _ (QU (.ref i1) >>= _) _ _ _;refine Qe (xN (d1.ext s1.extBut D.a3) (q1.ext s1.extBut D.c1) hx fun g2 w2 s2=>Qj ?_);have o2:Rv g2 TO a b:=s2.extBut _ _ D.a8 (s1.extBut _ _ D.a2 ho);refine Qe (RH o2 rfl (Qe (Te o2 fun g3 o3 s3=>?_)));have o3:Rv g3 TO x b:=o3;refine Qe (Uv (Qj (Qe (Qe (TL ?_)))));show Qn _ _ (QU (.ref i2) >>= _) _ _ _;refine Qe (xN (((d2.ext s1.extBut D.a4).ext s2.extBut D.b1.symm).ext s3.extBut D.a9.symm) (((q2.ext s1.extBut D.e1).ext s2.extBut D.e3).ext s3.extBut D.e2) hy fun g4 w4 s4=>Qj ?_);have o4:Rv g4 TO x b:=s4.extBut _ _ D.a9 o3;refine Qe (RH o4 rfl (Qe (Te o4 fun g5 o5 s5=>?_)));have o5:Rv g5 TO x y:=o5;refine Qe (Uv (Qj (Qj (Qe (RH o5 rfl (Qe (UA ?_)))))));have sz:g5.objs.size=s.heap.objs.size:=by rw[s5.1,s4.1,s3.1,s2.1,s1.1]
 have z5:Sj g5 z TI TO .ellipsis:=s5.extBut _ _ D.a2.symm (s4.extBut _ _ D.a4.symm (s3.extBut _ _ D.a2.symm (s2.extBut _ _ D.a3.symm z1)));have k5:∀c o,c≠z->c≠TO->c≠i1->c≠i2->s.heap.get? c=some o->g5.get? c=some o:=fun c o n1 n2 n3 n4 e=>
  s5.extBut _ _ n2 (s4.extBut _ _ n4 (s3.extBut _ _ n2 (s2.extBut _ _ n3 (s1.extBut _ _ n1 e))))
 have w15:Dr b1 g5 i1 l1 (k+1):=((w2.ext s3.extBut D.a8.symm).ext s4.extBut D.b1).ext s5.extBut D.a8.symm;have w25:Dr b2 g5 i2 l2 (k+1):=w4.ext s5.extBut D.a9.symm;have zlt:z<g5.objs.size:=Qr z5;show Qn _ _ (SJ (.ref z) (.ref g5.objs.size) >>= _) _ _ _;refine Qe ?_;unfold SJ;have z6:Sj (g5.push { cls:=.type "tuple",data:=.seq #[x,y] }) z TI TO .ellipsis:=Qk _ z5;refine Qe (RO z6 (by simp) fun g7 z7 s7=>?_);have z7:Sj g7 z TI TO (Rh g5.objs.size):=z7;refine RO z7 (by simp) fun g8 z8 s8=>?_
 have z8:Sj g8 z TI TO (Rh g5.objs.size):=z8;have up:∀c o,c≠z->g5.get? c=some o->g8.get? c=some o:=fun c o n e=>s8.extBut _ _ n (s7.extBut _ _ n (Qk _ e));have t8:Rv g8 g5.objs.size x y:=s8.extBut _ _ (M6 zlt) (s7.extBut _ _ (M6 zlt) (Qo _ rfl));have e8:g8.objs.size=g5.objs.size+1:=by rw[s8.1,s7.1,Q6]
 rw[sz]at z8 t8 e8;refine Qj ⟨_,rfl,?_⟩;show Q (.ref g5.objs.size) _;rw[sz];exact r g8 z8 (up _ _ D.a2 o5) (w15.at fun o e=>up _ o D.a3 e) (w25.at fun o e=>up _ o D.a4 e) t8 e8 fun c o n1 n2 n3 n4 e=>up c o n1 (k5 c o n1 n2 n3 n4 e)
theorem zEnd{b1 b2:Bool}{z TI TO i1 i2 l1 l2:Qh}{k:Nat}{xs ys:Array Qf}{a b:Qf}{Q:Fin->Qi->Prop}(hh:A.handled=none)(D:Off z TI TO i1 i2 l1 l2)
  (hz:Sj s.heap z TI TO .none) (hi:Rv s.heap TI (.ref i1) (.ref i2)) (ho:Rv s.heap TO a b)
  (d1:Dr b1 s.heap i1 l1 k) (d2:Dr b2 s.heap i2 l2 k) (q1:Sq b1 s.heap l1 xs) (q2:Sq b2 s.heap l2 ys) (hn:xs[k]?=none\/ys[k]?=none)
  (r:∀g e,(∀c o,c≠z->c≠TO->c≠i1->c≠i2->s.heap.get? c=some o->g.get? c=some o)->(∃o,g.get? e=some o/\o.cls=.type "StopIteration")->E (.ref e) {s with heap:=g}) :
  Qn (Qs prog w) A (Rt.«zip.__next__» ⟨[.ref z],[]⟩) Q E s:=by
 show Qn _ _ (UO (.ref z) 2 >>= _) _ _ _;refine Qe (Rb hz rfl (x:=.bool false) rfl ?_);show Qn _ _ (UO (.ref z) 3 >>= _) _ _ _;refine Qe (Rb hz rfl (x:=.ref TI) rfl (Qe (RH hi rfl ?_)));show Qn _ _ (Rm (.ref z) >>= _) _ _ _;refine Qe ?_;unfold Rm;refine Qe (Rb hz rfl (x:=.none) rfl (Qj ?_));simp only[if_true];refine Qe (RV (Qe (Rb hz rfl (x:=.ref TO) rfl (Qe (RO hz (by simp) fun g1 z1 s1=>?_)))));have z1:Sj g1 z TI TO .ellipsis:=z1;refine Qe ?_;simp only[Ov,Pu,OG,OQ];refine Qe (Qe (TL ?_));show Qn _ _ (QU (.ref i1) >>= _) _ _ _;cases hx:xs[k]? with
 |none=>
  refine Qe (FQ hh (d1.ext s1.extBut D.a3) (q1.ext s1.extBut D.c1) hx fun g2 e s2 he=>?_);obtain⟨oe,hoe,ce⟩:=he;have z2:Sj g2 z TI TO .ellipsis:=s2 _ _ D.a3.symm z1;have ne:e≠z:=fun q=>by subst q;rw[z2]at hoe;cases hoe;simp at ce
  exact RO z2 (by simp) fun g3 _ s3=>r g3 e (fun c o n1 _ n3 _ q=>s3.extBut _ _ n1 (s2 _ _ n3 (s1.extBut _ _ n1 q))) ⟨oe,s3.extBut _ _ ne hoe,ce⟩
 |some x=>
  have hy:ys[k]?=none:=by
   rcases hn with h|h
   ·rw[hx]at h;cases h
   exact h
  refine Qe (xN (d1.ext s1.extBut D.a3) (q1.ext s1.extBut D.c1) hx fun g2 w2 s2=>Qj ?_);have o2:Rv g2 TO a b:=s2.extBut _ _ D.a8 (s1.extBut _ _ D.a2 ho);refine Qe (RH o2 rfl (Qe (Te o2 fun g3 o3 s3=>?_)));refine Qe (Uv (Qj (Qe (Qe (TL ?_)))));show Qn _ _ (QU (.ref i2) >>= _) _ _ _;refine Qe (FQ hh (((d2.ext s1.extBut D.a4).ext s2.extBut D.b1.symm).ext s3.extBut D.a9.symm) (((q2.ext s1.extBut D.e1).ext s2.extBut D.e3).ext s3.extBut D.e2) hy fun g4 e s4 he=>?_);obtain⟨oe,hoe,ce⟩:=he;have z4:Sj g4 z TI TO .ellipsis:=s4 _ _ D.a4.symm (s3.extBut _ _ D.a2.symm (s2.extBut _ _ D.a3.symm z1));have ne:e≠z:=fun q=>by subst q;rw[z4]at hoe;cases hoe;simp at ce
  exact RO z4 (by simp) fun g5 _ s5=>r g5 e (fun c o n1 n2 n3 n4 q=>s5.extBut _ _ n1 (s4 _ _ n4 (s3.extBut _ _ n2 (s2.extBut _ _ n3 (s1.extBut _ _ n1 q))))) ⟨oe,s5.extBut _ _ ne hoe,ce⟩
theorem wj{b1 b2:Bool}{z TI TO i1 i2 l1 l2:Qh}{k:Nat}{xs ys:Array Qf}{x y a b:Qf}{Q:Option Qf->Qi->Prop}(D:Off z TI TO i1 i2 l1 l2)
  (hz:Sj s.heap z TI TO .none) (hi:Rv s.heap TI (.ref i1) (.ref i2)) (ho:Rv s.heap TO a b)
  (d1:Dr b1 s.heap i1 l1 k) (d2:Dr b2 s.heap i2 l2 k) (q1:Sq b1 s.heap l1 xs) (q2:Sq b2 s.heap l2 ys) (hx:xs[k]?=some x) (hy:ys[k]?=some y)
  (r:∀g,Sj g z TI TO (Rh s.heap.objs.size)->Rv g TO x y->Dr b1 g i1 l1 (k+1)->Dr b2 g i2 l2 (k+1)->Rv g s.heap.objs.size x y->g.objs.size=s.heap.objs.size+1->
   (∀c o,c≠z->c≠TO->c≠i1->c≠i2->s.heap.get? c=some o->g.get? c=some o)->Q (some (.ref s.heap.objs.size)) {s with heap:=g}) :
  Qn (Qs prog w) A (RS (.ref z)) Q E s:=by
 have hT:s.TypeIs (.ref z) "zip":=⟨_,hz,rfl⟩;unfold RS;refine Qe (Rw (QW (name:=Ra "__next__") hT Tf (QY Tf hT Vv ?_ (Vg _))));exact Kc D hz hi ho d1 d2 q1 q2 hx hy fun g p1 p2 p3 p4 p5 p6 p7=>Qj (r g p1 p2 p3 p4 p5 p6 p7)
theorem xC{b1 b2:Bool}{z TI TO i1 i2 l1 l2:Qh}{k:Nat}{xs ys:Array Qf}{a b:Qf}{Q:Option Qf->Qi->Prop}(hh:A.handled=none)(D:Off z TI TO i1 i2 l1 l2)
  (hz:Sj s.heap z TI TO .none) (hi:Rv s.heap TI (.ref i1) (.ref i2)) (ho:Rv s.heap TO a b)
  (d1:Dr b1 s.heap i1 l1 k) (d2:Dr b2 s.heap i2 l2 k) (q1:Sq b1 s.heap l1 xs) (q2:Sq b2 s.heap l2 ys) (hn:xs[k]?=none\/ys[k]?=none)
  (r:∀g,(∀c o,c≠z->c≠TO->c≠i1->c≠i2->s.heap.get? c=some o->g.get? c=some o)->Q none {s with heap:=g}):Qn (Qs prog w) A (RS (.ref z)) Q E s:=by
 have hT:s.TypeIs (.ref z) "zip":=⟨_,hz,rfl⟩;unfold RS;refine Qe (Rw (QW (name:=Ra "__next__") hT Tf (QY Tf hT Vv (zEnd hh D hz hi ho d1 d2 q1 q2 hn fun g e k he=>?_) (Vg _))));obtain⟨o,he,hc⟩:=he;exact Qe (Sl (T:="StopIteration") (b:=true) ⟨o,he,hc⟩ Ts (Qj (r _ k)))
end
noncomputable def nm(b:Bool):String:=if b=true then "tuple_iterator" else "list_iterator"
abbrev Z1(h:Qz)(b1:Bool)(l1:Qh):Qz:=h.push { cls:=.type (nm b1),data:=.fields #[.ref l1,.int 0 0] }
abbrev Z2(h:Qz)(b1 b2:Bool)(l1 l2:Qh):Qz:=(Z1 h b1 l1).push { cls:=.type (nm b2),data:=.fields #[.ref l2,.int 0 0] }
abbrev Z3(h:Qz)(b1 b2:Bool)(l1 l2:Qh):Qz:=(Z2 h b1 b2 l1 l2).push { cls:=.type "tuple",data:=.seq #[.ref h.objs.size,.ref (Z1 h b1 l1).objs.size] }
abbrev Z4(h:Qz)(b1 b2:Bool)(l1 l2:Qh):Qz:=(Z3 h b1 b2 l1 l2).push { cls:=.type "tuple",data:=.seq #[.none,.none] }
abbrev Z5(h:Qz)(b1 b2:Bool)(l1 l2:Qh):Qz:=(Z4 h b1 b2 l1 l2).push { cls:=.type "zip",data:=.fields #[.none,.bool false,.bool false,.ref (Z2 h b1 b2 l1 l2).objs.size,.ref (Z3 h b1 b2 l1 l2).objs.size] }
theorem Eg(b1 b2:Bool)(l1 l2:Qh)(xs ys:Array Qf) :
  Meets (Rt.«zip.__new__» ⟨[.type "zip",.ref l1,.ref l2],[]⟩) (fun _ R s=>Sq b1 s.heap l1 xs/\Sq b2 s.heap l2 ys/\R (.ok (.ret (.ref (Z4 s.heap b1 b2 l1 l2).objs.size))) {s with heap:=Z5 s.heap b1 b2 l1 l2}):=
 .of_wp fun prog w A R s h=>by
  obtain⟨hp,g,d,tk,os⟩:=s;obtain⟨q1,q2,h⟩:=h;have hsub:=sub_zip;cases b1 with
  |false=>
   have p1:Vm (SY ⟨hp,g,d,tk,os⟩) l1 xs:=q1;cases b2 with
   |false=>
    have p2:Vm (SY ⟨hp.push { cls:=.type "list_iterator",data:=.fields #[.ref l1,.int 0 0] },g,d,tk,os⟩) l2 ys:=Vw q2 _
    wp_walk using RD p1,RD p2
    exact⟨_,rfl,h⟩
   |true=>
    have p2:U_ (SY ⟨hp.push { cls:=.type "list_iterator",data:=.fields #[.ref l1,.int 0 0] },g,d,tk,os⟩) l2 ys:=Vh q2 _
    wp_walk using RD p1,RB p2
    exact⟨_,rfl,h⟩
  |true=>
   have p1:U_ (SY ⟨hp,g,d,tk,os⟩) l1 xs:=q1;cases b2 with
   |false=>
    have p2:Vm (SY ⟨hp.push { cls:=.type "tuple_iterator",data:=.fields #[.ref l1,.int 0 0] },g,d,tk,os⟩) l2 ys:=Vw q2 _
    wp_walk using RB p1,RD p2
    exact⟨_,rfl,h⟩
   |true=>
    have p2:U_ (SY ⟨hp.push { cls:=.type "tuple_iterator",data:=.fields #[.ref l1,.int 0 0] },g,d,tk,os⟩) l2 ys:=Vh q2 _
    wp_walk using RB p1,RB p2
    exact⟨_,rfl,h⟩
section
variable{prog:Qv}{w:Qy}{A:QE}{E:Qf->Qi->Prop}{s:Qi}
theorem Df{b1 b2:Bool}{l1 l2:Qh}{xs ys:Array Qf}{Q:Qf->Qi->Prop}(q1:Sq b1 s.heap l1 xs)(q2:Sq b2 s.heap l2 ys)
  (r:∀g,Sj g (s.heap.objs.size+4) (s.heap.objs.size+2) (s.heap.objs.size+3) .none->Rv g (s.heap.objs.size+2) (.ref s.heap.objs.size) (.ref (s.heap.objs.size+1))->Rv g (s.heap.objs.size+3) .none .none->
    Dr b1 g s.heap.objs.size l1 0->Dr b2 g (s.heap.objs.size+1) l2 0->g.objs.size=s.heap.objs.size+5->(∀c o,s.heap.get? c=some o->g.get? c=some o)->Q (.ref (s.heap.objs.size+4)) {s with heap:=g}) :
  Qn (Qs prog w) A (call (.type "zip") [.ref l1,.ref l2]) Q E s:=by
 refine callType_new F.called_zip (by decide) (F.typeCall_zip_2 _ _) (F.newCall_zip_2 _ _) (fun obj=>F.args_object_init_3 obj _ _) F.entry_zip_new (Eg b1 b2 l1 l2 xs ys) ⟨q1,q2,?_⟩;have z1:(Z1 s.heap b1 l1).objs.size=s.heap.objs.size+1:=Q6 ..;have z2:(Z2 s.heap b1 b2 l1 l2).objs.size=s.heap.objs.size+2:=by rw[Q6,z1]
 have z3:(Z3 s.heap b1 b2 l1 l2).objs.size=s.heap.objs.size+3:=by rw[Q6,z2]
 have z4:(Z4 s.heap b1 b2 l1 l2).objs.size=s.heap.objs.size+4:=by rw[Q6,z3]
 have z5:(Z5 s.heap b1 b2 l1 l2).objs.size=s.heap.objs.size+5:=by rw[Q6,z4]
 have u5:∀c o,(Z4 s.heap b1 b2 l1 l2).get? c=some o->(Z5 s.heap b1 b2 l1 l2).get? c=some o:=fun c o e=>Qk _ e;have u4:∀c o,(Z3 s.heap b1 b2 l1 l2).get? c=some o->(Z5 s.heap b1 b2 l1 l2).get? c=some o:=fun c o e=>u5 c o (Qk _ e);have u3:∀c o,(Z2 s.heap b1 b2 l1 l2).get? c=some o->(Z5 s.heap b1 b2 l1 l2).get? c=some o:=fun c o e=>u4 c o (Qk _ e);have u2:∀c o,(Z1 s.heap b1 l1).get? c=some o->(Z5 s.heap b1 b2 l1 l2).get? c=some o:=fun c o e=>u3 c o (Qk _ e);have g5:(Z5 s.heap b1 b2 l1 l2).get? (Z4 s.heap b1 b2 l1 l2).objs.size=some _:=Qo _ rfl;have g4:=u5 (Z3 s.heap b1 b2 l1 l2).objs.size _ (Qo _ rfl);have g3:=u4 (Z2 s.heap b1 b2 l1 l2).objs.size _ (Qo _ rfl);have g2:=u3 (Z1 s.heap b1 l1).objs.size _ (Qo _ rfl);have g1:=u2 s.heap.objs.size _ (Qo _ rfl);show _/\_;rw[z2,z3,z4]at g5;rw[z1,z2]at g3;rw[z3]at g4;rw[z1]at g2;rw[z4];refine⟨⟨_,g5,rfl⟩,r _ g5 g3 g4 ?_ ?_ z5 fun c o e=>u2 c o (Qk _ e)⟩
 ·cases b1 with
  |true=>exact⟨_,g1,rfl,rfl⟩
  |false=>exact⟨_,g1,rfl,rfl⟩
 cases b2 with
 |true=>exact⟨_,g2,rfl,rfl⟩
 |false=>exact⟨_,g2,rfl,rfl⟩
end
end ZG
namespace L2
open PySem PySem.Spec PyProof.Rows
noncomputable def eB(env:Env):List (Str×R0)->List (Str×Qh)->List (Str×Qh)
 | [],cs=>cs
 |x::r,cs=>eB env r (if(x.2 == Rx)=true then(x.1,(env.cells.lookup x.1).getD 0)::cs else cs)
theorem pL{env:Env}(f:Str×R0->List (Str×Qh)->Sem (ForInStep (List (Str×Qh))))(hf:∀n k cs,f (n,k) cs=if(k == Rx)=true then(do let a <-cellOf env n;pure (QD ((n,a)::cs)))else pure (QD cs)) :
  ∀(names:List (Str×R0)) (cs:List (Str×Qh)),(∀x∈names,x.2=.free->∃c,env.cells.lookup x.1=some c)->forIn names cs f=pure (eB env names cs)
 | [],cs,_=>by rw[OQ];rfl
 | (n,k)::r,cs,h=>by
  rw[OG,hf];have hr:∀x∈r,x.2=.free->∃c,env.cells.lookup x.1=some c:=fun x hx=>h x (l_ _ hx);by_cases e:(k == Rx)=true
  ·obtain⟨c,hc⟩:=h (n,k) p_ (by simpa using e);have hc':env.cells.lookup n=some c:=hc;rw[if_pos e];have q:cellOf env n=pure c:=by unfold cellOf;rw[hc']
   rw[q,pure_bind,pure_bind];show forIn r ((n,c)::cs) f=pure (eB env ((n,k)::r) cs);rw[pL f hf r _ hr];unfold eB;rw[if_pos e,hc'];cases r <;> rfl
  rw[if_neg e,pure_bind];show forIn r cs f=pure (eB env ((n,k)::r) cs);rw[pL f hf r _ hr]
  conv=>rhs;unfold eB
  rw[if_neg e]
theorem qb{sc:Rc}{env:Env}(h:∀x∈sc.names,x.2=.free->∃c,env.cells.lookup x.1=some c):closureFor sc env=pure (eB env sc.names []):=by
 unfold closureFor;show(forIn sc.names [] _ >>= fun cs=>pure cs)=_;rw[pL (env:=env) _ (fun n k cs=>by cases e:k == Rx <;> simp[e]) sc.names [] h]
 rfl
theorem w9{env:Env}:∀{names:List (Str×R0)}{cs:List (Str×Qh)}{x:Str}{c:Qh},(∀y∈names,y.2=.free->∃c,env.cells.lookup y.1=some c)->(eB env names cs).lookup x=some c->
  (env.cells.lookup x=some c/\(x,Rx)∈names)\/cs.lookup x=some c
 | [],cs,x,c,_,h=>.inr h
 | (n,k)::r,cs,x,c,hn,h=>by
  unfold eB at h;have hr:∀y∈r,y.2=.free->∃c,env.cells.lookup y.1=some c:=fun y hy=>hn y (l_ _ hy);have hh:=w9 hr h;clear h;rcases hh with⟨h1,h2⟩|h
  ·exact .inl ⟨h1,l_ _ h2⟩
  by_cases e:(k == Rx)=true
  ·rw[if_pos e]at h;obtain⟨c',hc⟩:=hn (n,k) p_ (by simpa using e);have hc':env.cells.lookup n=some c':=hc;rw[hc',Na]at h;by_cases ex:(x == n)=true
   ·rw[ex]at h;have ex':x=n:=by simpa using ex
    have ek:k=Rx:=by simpa using e
    subst ex' ek;have h':c'=c:=G' h;subst h';exact .inl ⟨hc',p_⟩
   have ex':(x == n)=false:=by simpa using ex
   rw[ex']at h;exact .inr h
  rw[if_neg e]at h;exact .inr h
theorem vJ{env:Env}:∀{names:List (Str×R0)}{cs:List (Str×Qh)}{x:Str}{c:Qh},(∀y∈names,y.2=.free->∃c,env.cells.lookup y.1=some c)->env.cells.lookup x=some c->cs.lookup x=some c->(eB env names cs).lookup x=some c
 | [],cs,x,c,_,_,h=>h
 | (n,k)::r,cs,x,c,hn,he,h=>by
  unfold eB;refine vJ (fun y hy=>hn y (l_ _ hy)) he ?_;by_cases e:(k == Rx)=true
  ·rw[if_pos e,Na];by_cases ex:(x == n)=true
   ·rw[ex];have ex':x=n:=by simpa using ex
    subst ex';show some ((env.cells.lookup x).getD 0)=some c;rw[he];rfl
   have ex':(x == n)=false:=by simpa using ex
   rw[ex'];exact h
  rw[if_neg e];exact h
theorem ux{env:Env}:∀{names:List (Str×R0)}{cs:List (Str×Qh)}{x:Str}{c:Qh},(∀y∈names,y.2=.free->∃c,env.cells.lookup y.1=some c)->env.cells.lookup x=some c->(x,Rx)∈names->(eB env names cs).lookup x=some c
 | (n,k)::r,cs,x,c,hn,he,hm=>by
  have hr:∀y∈r,y.2=.free->∃c,env.cells.lookup y.1=some c:=fun y hy=>hn y (l_ _ hy);unfold eB;rcases n_.mp hm with e|hm
  ·obtain⟨rfl,rfl⟩:=P8 e;rw[if_pos (by rfl)];refine vJ hr he ?_;rw[Na,beq_self_eq_true];show some ((env.cells.lookup x).getD 0)=some c;rw[he];rfl
  exact ux hr he hm
noncomputable def pJ(env:Env)(sc:Rc):Rc:={sc with names:=sc.names.map fun x=>if(x.2 == .free&&env.scope.kind == .function&&env.kindOf x.1 == some .cell)=true then(x.1,.cell)else(x.1,x.2) }
theorem mf{f:Str×R0->Bool}(x:Str):∀names:List (Str×R0),(names.map fun y=>if f y=true then(y.1,X0)else(y.1,y.2)).lookup x=(names.lookup x).map fun k=>if f (x,k)=true then .cell else k
 | []=>rfl
 | (n,k)::r=>by
  rw[g_];by_cases ex:(x == n)=true
  ·have ex':x=n:=by simpa using ex
   subst ex';cases e:f (x,k) <;> simp[e,Na]
  have ex':(x == n)=false:=by simpa using ex
  have ih:=mf (f:=f) x r;cases e:f (n,k) <;> simp only[e,if_true,if_false,Kk,Na,ex',ih]
theorem mG(env:Env)(sc:Rc)(x:Str):(pJ env sc).names.lookup x=(sc.names.lookup x).map fun k=>if(k == .free&&env.scope.kind == .function&&env.kindOf x == some .cell)=true then .cell else k:=
 mf (f:=fun y=>(y.2 == .free&&env.scope.kind == .function&&env.kindOf y.1 == some .cell)) x sc.names
noncomputable def compEnv(env:Env)(sc:Rc)(L:Qh):Env:={ newEnv sc L env.globals (eB env sc.names []) env.qual none .none (some env) UJ with scope:=pJ env sc}
section
variable{M:Se}{A:QE}{E:Qf->Qi->Prop}{s:Qi}{env:Env}
theorem nN{e:Qx}{scope:Rc}{pos:Pos}{newAcc first:Sem Qf}{g:TM}{gs:List TM}{Q:Qf->Qi->Prop}
  (hcl:clausesOf e=g::gs) (hs:∀x,Q_ g.iter env x=pure x)
  (hc:∀x∈scope.names,x.2≠.cell) (hfr:∀x∈scope.names,x.2=.free->∃c,env.cells.lookup x.1=some c) (hkind:scope.kind=.function) (hnames:∀x∈scope.names,x.2=.local->scope.names.lookup x.1=some .local)
  (h:Qn M A first (fun x s₁=>Qn M A (Tc x) (fun it s₂=>Qn M A newAcc (fun acc s₃=>
   ∀h4,h4.Ns s₃.heap.objs.size (fun _=>none)->(∀b o,s₃.heap.get? b=some o->h4.get? b=some o)->
    R7 M A (.compStart e 0 it acc (compEnv env scope s₃.heap.objs.size)) (fun r s'=>∃m,s'.heap.Ns s₃.heap.objs.size m/\∀h',Q7 s₃.heap.objs.size s'.heap h'->
     match r with | .ok _=>Q acc {s' with heap:=h'} | .error x=>False) { s₃ with heap:=h4}) E s₂) E s₁) E s) :
  Qn M A (S5 e scope env pos newAcc false first) Q E s:=by
 unfold S5;rw[qb hfr,hcl];refine Qe (QM h (fun x s₁ h₁=>Qe (S3 (Qe (Sx (hs x) (Qe (QK (QM h₁ (fun it s₂ h₂=>
  Wv (Qe (QM h₂ (fun acc s₃ h₃=>Qe (Qj (Qe ?_))) fun _ _ h'=>h')))
   fun _ _ h'=>h'))))))) fun _ _ h'=>h')
 refine UP hc (fun x hx=>nomatch hx) (fun h4 hn4 hs4=>?_) hkind;have h₄:=h₃ h4 hn4 fun b o e=>hs4.extBut b o (x_ (Qr e)) (Qk _ e);dsimp only;have hv:∀x∈(scope.names.filter fun x=>(x.2 == .local || x.2 == .cell)&&x.1 !=(".0":Str)).reverse,x.2=.local->
   VO (compEnv env scope s₃.heap.objs.size) x.1=some .local:=fun x hx hl=>by
  show(pJ env scope).names.lookup x.1=some .local;rw[mG,hnames x (J_.mp (MO.mp hx)).1 hl]
  rfl
 refine QK (Qe (Rw (QK (wpAny_run (RZ h₄ fun r s' hr=>?_)))));obtain⟨m,hn,hr⟩:=hr;cases r with
 |ok f=>exact Qe (QK (Vx (cenv:=compEnv env scope s₃.heap.objs.size) hkind _ s' m hv hn fun h' m' _ hs'=>Qj (hr h' hs')))
 |error x=>exact(hr s'.heap (.refl ..)).elim
end
section
variable{prog:Qv}{w:Qy}{A:QE}{R:WI->Qi->Prop}{s:Qi}
theorem oh{elt target iter:Qx}{ifs:List Qx}{scope:Rc}{pos:Pos}{it acc:Qf}{env:Env}(I:Nat->Qi->Prop)
  (turn:∀n s,I n s->Qn (Qs prog w) A (RS it) (fun r s₁=>match r with
   |none=>R (.ok .next) s₁
   |some v=>Qn (Qs prog w) A (Tb target it v) (fun _ s₁'=>Qn (Qs prog w) A (SW target env v) (fun _ s₂=>
     Qn (Qs prog w) A (forIn ifs true fun c r=>if r=true then do let ok <-U1 c env (QO c env);pure (QD ok)else pure (QD r)) (fun ok s₃=>
      if ok=true then Qn (Qs prog w) A (QO elt env) (fun x s₄=>
       Qn (Qs prog w) A (call (.builtin "list.append") [acc,x]) (fun _ s₅=>∃m,m<n/\I m s₅) (fun _ _=>False) s₄) (fun _ _=>False) s₃
      else ∃m,m<n/\I m s₃) (fun _ _=>False) s₂) (fun _ _=>False) s₁') (fun _ _=>False) s₁) (fun _ _=>False) s)
  (n:Nat) (h:I n s) :
  R7 (Qs prog w) A (.compLoop (.ListComp elt [⟨target,iter,ifs,0⟩] scope pos) 0 it acc env) R s:=by
 refine codeAny_loop rfl I (fun n s hI=>?_) n h;show Qn _ A ((compTurn (.ListComp elt [⟨target,iter,ifs,0⟩] scope pos) 0 it acc env).onRaise (fun x=>do noteFrame x env;theTreesLotGoes x)) _ _ s;refine wpAny_noted ?_;rw[compTurn_list];refine Qe (S3 (Qe (QM (turn n s hI) (fun r s₁ h₁=>?_) fun _ _ h'=>h'.elim)));cases r with
 |none=>exact Qj h₁
 |some v=>
  refine Qe (QM h₁ (fun _ s₁' h₁'=>?_) fun _ _ h'=>h'.elim);refine Qe (QM h₁' (fun _ s₂ h₂=>Qe (QM h₂ (fun ok s₃ h₃=>?_) fun _ _ h'=>h'.elim)) fun _ _ h'=>h'.elim);cases ok with
  |false=>exact Qj ⟨rfl,h₃⟩
  |true=>
   exact Qe (Qe (QM h₃ (fun x s₄ h₄=>Qe (QM h₄ (fun _ s₅ h₅=>Qj (Qj ⟨rfl,h₅⟩)) fun _ _ h'=>h'.elim)) fun _ _ h'=>h'.elim))
end
noncomputable def aV(X:Cx)(N':List Str)(sc:Rc)(s3:Qi)(H3:Hp)(fp:List Qh):Cx where
 prog:=X.prog
 w:=X.w
 K:=X.K
 mg:=X.mg
 base:=X.base
 A:=X.A
 N:=N'
 s₀:=s3
 H₀:=H3
 env:=compEnv X.env sc s3.heap.objs.size
 outer:=X.stack
 stack:=X.stack
 ex:=fp
 calm:=true
 fn:=fun _=>false
 pn:=[]
 xe:=fun _ _=>False
noncomputable def jj(N:List Str)(esc sc:Rc)(N':List Str)(fr:List (Option Nat)):Bool:=
 sc.kind == .function&&esc.kind == .function
 && sc.names.all (fun y=>(y.2 != .cell)&&(y.2 != .free || esc.names.lookup y.1 == some .cell)&&(y.2 != .local || sc.names.lookup y.1 == some .local))
 && fr.length == N'.length
 && (A_ N'.length).all (fun i=>match fr[i]? with
  |some (some j)=>match N'[i]? with
   |some x=>N[j]? == some x&&sc.names.lookup x == some .free
   |none=>false
  | _=>true)
structure CompOk (N:List Str) (esc sc:Rc) (N':List Str) (fr:List (Option Nat)):Prop where
 kind:sc.kind=.function
 ekind:esc.kind=.function
 nocell:∀x∈sc.names,x.2≠.cell
 free:∀x∈sc.names,x.2=.free->esc.names.lookup x.1=some .cell
 names:∀x∈sc.names,x.2=.local->sc.names.lookup x.1=some .local
 len:fr.length=N'.length
 at_:∀(i j:Nat) (x:Str),fr[i]?=some (some j)->N'[i]?=some x->N[j]?=some x/\sc.names.lookup x=some .free
theorem sh{N:List Str}{esc sc:Rc}{N':List Str}{fr:List (Option Nat)}(h:jj N esc sc N' fr=true):CompOk N esc sc N' fr:=by
 unfold jj at h;simp only[Lz,beq_iff_eq,Nb,Lr]at h;obtain⟨⟨⟨⟨h1,h2⟩,h3⟩,h4⟩,h5⟩:=h;refine⟨h1,h2,fun x hx=>?_,fun x hx e=>?_,fun x hx e=>?_,h4,fun i j x e1 e2=>?_⟩
 ·have:=(h3 x hx).1.1;simpa using this
 ·have:=(h3 x hx).1.2;rw[e]at this;simpa using this
 ·have:=(h3 x hx).2;rw[e]at this;simpa using this
 have hi:i<N'.length:=(d_.mp e2).1;have q:=h5 i hi;rw[e1,e2]at q;simpa using q
noncomputable def cx(fr:List (Option Nat))(σ:St):St:=fr.map fun o=>match o with
 |some j=>(σ[j]?).join
 |none=>none
theorem vm{X:Cx}{pins:List (Qh×Obj)}{σ:St}{H3:Hp}{s3:Qi}{sc:Rc}{N':List Str}{fr:List (Option Nat)}{fp:List Qh}{h4:Qz}(I:Inv X pins σ H3 s3)(C:CompOk X.N X.env.scope sc N' fr)(hc:X.calm=true)
  (hfp:∀b∈fp,mT X pins H3 b) (hfo:∀b∈fp,∃o,s3.heap.get? b=some o) (hn:h4.Ns s3.heap.objs.size (fun _=>none)) (hk:∀b o,s3.heap.get? b=some o->h4.get? b=some o) :
  Inv (aV X N' sc s3 H3 fp) [] (cx fr σ) H3 {s3 with heap:=h4}:=by
 have hfr:∀x∈sc.names,x.2=.free->∃c,X.env.cells.lookup x.1=some c:=fun x hx e=>I.ok.has x.1 (.inl (C.free x hx e));have clo:∀{x c},(eB X.env sc.names []).lookup x=some c->X.env.cells.lookup x=some c:=fun{x c} e=>by
  rcases w9 hfr e with⟨h1,_⟩|h
  ·exact h1
  cases h
 have nfs:∀b∈fp,b ∉ frs X.stack:=fun b hb z=>by
  obtain⟨_,h1,h2,_⟩:=hfp b hb;rcases n_.mp (I.wz b z)with e|e
  ·exact h1 e
  exact h2 e
 have hfresh:H3 s3.heap.objs.size=none:=I.hok.fresh (b_ _);refine⟨⟨I.ok.mod,C.kind,I.ok.glob,I.ok.blt,b_ _,fun x y c e1 e2=>I.ok.inj x y c (clo e1) (clo e2),fun x hx=>?_,fun x c z=>(nomatch z),fun _=>I.ok.hd hc,I.ok.frames,.inl rfl,fun b hb=>⟨?_,fun x c e=>?_⟩,fun b o e=>I.bs b o e,m_ I.ok.bsz I.sz,fun b o e hb=>?_,nfs,I.stack,I.zJ⟩,
  rfl,I.bare,Un.kept hk,⟨_,hn,fun i x v e1 e2 e3=>?_⟩,fun x c e=>?_,hfresh,fun x c e=>I.freeC x c (clo e),fun p hp=>(nomatch hp),I.hok.kept hk,?_⟩
 ·have hx:(pJ X.env sc).names.lookup x=some .cell\/(pJ X.env sc).names.lookup x=some .free:=hx;rw[mG]at hx;cases e:sc.names.lookup x with
  |none=>rw[e]at hx;rcases hx with z|z <;> cases z
  |some k=>
   have hm:(x,k)∈sc.names:=Rq e;have hk:k=.free:=by
    rw[e]at hx;cases k with
    |free=>rfl
    |cell=>exact absurd rfl (C.nocell _ hm)
    | _=>rcases hx with z|z <;>(simp at z)
   subst hk;obtain⟨c,hc'⟩:=hfr _ hm rfl;exact⟨c,ux hfr hc' hm⟩
 ·obtain⟨o,ho⟩:=hfo b hb;exact x_ (Qr ho)
 ·exact(hfp b hb).2.2.2.2.1 x c (clo e)
 ·obtain⟨e1,_⟩:=I.ok.bs b o e;rcases(hfp b hb).2.2.2.1 with z|z
  ·exact I.ok.noex b o e z
  exact absurd (y_ (Qr e1) z) (Ms _)
 ·have e2:(cx fr σ)[i]?=some (some v):=e2;unfold cx at e2;rw[D_]at e2;cases ef:fr[i]? with
  |none=>rw[ef]at e2;cases e2
  |some o=>
   rw[ef]at e2;cases o with
   |none=>cases e2
   |some j=>
    have e2':(σ[j]?).join=some v:=by simpa using e2
    have e2'':σ[j]?=some (some v):=by
     cases q:σ[j]? with
     |none=>rw[q]at e2';cases e2'
     |some z=>rw[q]at e2';exact congrArg some e2'
    obtain⟨hN,hfrx⟩:=C.at_ i j x ef e1;have hm:(x,Rx)∈sc.names:=Rq hfrx;have hcell:=C.free _ hm rfl;obtain⟨m,_,hl⟩:=I.loc;obtain⟨u,r,l⟩:=hl j x v hN e2'' (.inr (.inl hcell));refine⟨u,r,.inr ⟨.inl ?_,?_⟩⟩
    ·show(pJ X.env sc).names.lookup x=some .cell;rw[mG,hfrx];have h1:X.env.kindOf x=some .cell:=hcell;have h2:X.env.scope.kind=.function:=C.ekind;simp[h1,h2]
    rcases l with⟨k,_⟩|⟨_,c,ec,ic⟩
    ·have h1:X.env.kindOf x=some .cell:=hcell;rw[h1]at k;cases k
    obtain⟨o,ho,hd⟩:=ic;exact⟨c,ux hfr ec hm,o,hk c o ho,hd⟩
 ·obtain⟨v,o,ho,hd⟩:=I.cell x c (clo e);exact⟨v,o,hk c o ho,hd⟩
 unfold cx;rw[a_];exact C.len
noncomputable def PTs(X:Cx)(ifs:List Qx)(t:TT):Prop:=
 ∀(pins:List (Qh×Obj)) (s:Qi) (σ:St) (H:Hp) (Q:Bool->Hp->Prop),Inv X pins σ H s->t σ H Q->
  Qn (Qs X.prog X.w) X.A (forIn ifs true fun c r=>if r=true then do let ok <-U1 c X.env (QO c X.env);pure (QD ok)else pure (QD r)) (TP X pins σ Q) X.xe s
noncomputable def L8:TT:=fun _ H Q=>Q true H
theorem DI{X:Cx}:PTs X [] L8:=fun pins s σ H Q I h=>wpAny_tests_nil ⟨H,I,h⟩
theorem EO{X:Cx}{c:Qx}{t:TT}(h:PT X c t):PTs X [c] t:=fun pins s σ H Q I q=>wpAny_tests_one (h pins s σ H Q I q)
noncomputable def JI(J:It)(fr:List (Option Nat))(g:Qi->Hp->List Qh->TG)(tt:Qi->Hp->List Qh->TT)(te:Qi->Hp->List Qh->TE)(σ:St)(H1:Hp)(Q:VK):Prop:=∀p,H1 p=none->∀s3 H3' fp,∃W:Nat->Nat->St->Hp->Prop,(∃m,W 0 m (cx fr σ) (upd H1 p (.lst [])))/\∀i m σ' H',W i m σ' H'->
 (J.stop i H'/\Q (.ref p) H')\/(J.go i H'/\∀x H2,J.yld i H' x H2->g s3 H3' fp x σ' H2 fun σ2 H3=>tt s3 H3' fp σ2 H3 fun b H4=>
  if b=true then te s3 H3' fp σ2 H4 fun v H5=>∃ys,H5 p=some (.lst ys)/\ys.length<sizeLine/\∃m',m'<m/\W (i+1) m' σ2 (upd H5 p (.lst (ys++[v])))else ∃m',m'<m/\W (i+1) m' σ2 H4)
noncomputable def yw(wi:TI)(fr:List (Option Nat))(g:Qi->Hp->List Qh->TG)(tt:Qi->Hp->List Qh->TT)(te:Qi->Hp->List Qh->TE):TE:=fun σ H Q=>wi σ H fun J H1=>JI J fr g tt te σ H1 Q
theorem zQ{X:Cx}(N':List Str)(fr:List (Option Nat)){elt target iter:Qx}{ifs:List Qx}{sc:Rc}{pos:Pos}{wi:TI}{g:Qi->Hp->List Qh->TG}{tt:Qi->Hp->List Qh->TT}{te:Qi->Hp->List Qh->TE}(hc:X.calm=true)(C:jj X.N X.env.scope sc N' fr=true)
  (hi:PI X target iter wi) (hg:∀s3 H3 fp,PG (aV X N' sc s3 H3 fp) target (g s3 H3 fp)) (ht:∀s3 H3 fp,PTs (aV X N' sc s3 H3 fp) ifs (tt s3 H3 fp)) (he:∀s3 H3 fp,PE (aV X N' sc s3 H3 fp) elt (te s3 H3 fp))
  (hs:∀x,Q_ iter X.env x=pure x:=by intro _;rfl):PE X (.ListComp elt [⟨target,iter,ifs,0⟩] sc pos) (yw wi fr g tt te):=by
 have C:=sh C;intro pins s σ H Q I h;rw[eval_ListComp];have hfr:∀x∈sc.names,x.2=.free->∃c,X.env.cells.lookup x.1=some c:=fun x hx e=>I.ok.has x.1 (.inl (C.free x hx e));refine nN (g:=⟨target,iter,ifs,0⟩) (gs:=[]) rfl hs C.nocell hfr C.kind C.names ?_;show Qn _ _ (QO iter X.env) _ _ s;refine thn (hi pins s σ H _ I h) fun v s1 h1=>thn h1 fun itv s2 h2=>?_;obtain⟨it,fp,tn,J,H2,e,I2,T,st2,f2,k2⟩:=h2;subst e;refine R8 ?_ (by show 0<=sizeLine;decide);have hf:H2 s2.heap.objs.size=none:=I2.hok.fresh (b_ _);obtain⟨W,⟨m0,w0⟩,turn⟩:=k2 _ hf {s2 with heap:=s2.heap.push { cls:=.type "list",data:=.seq ([]:List Qf).toArray} } (upd H2 s2.heap.objs.size (.lst [])) fp;have kp:∀b u,s2.heap.get? b=some u->(s2.heap.push { cls:=.type "list",data:=.seq ([]:List Qf).toArray}).get? b=some u:=fun b u e=>Qk _ e;have I3:Inv X pins σ (upd H2 s2.heap.objs.size (.lst [])) {s2 with heap:=s2.heap.push { cls:=.type "list",data:=.seq ([]:List Qf).toArray} }:=
  I2.laid (t':=s2.toks) kp (b_ _) ⟨B_ _,[],0,.nil,Qo _ rfl⟩
 have obj2:=T.obj 0 s2.heap st2;have fpne:∀b∈fp,b≠s2.heap.objs.size:=fun b hb=>by obtain⟨o,ho,_⟩:=obj2 b hb;exact x_ (Qr ho)
 have f3:∀b∈fp,mT X pins (upd H2 s2.heap.objs.size (.lst [])) b:=fun b hb=>⟨by rw[aM (fpne b hb)];exact(f2 b hb).1,(f2 b hb).2⟩
 have st3:=T.keep 0 s2.heap _ st2 fun b hb o e=>kp b o e;have obj3:=T.obj 0 _ st3;intro h4 hn4 hk4;have st4:=T.keep 0 _ h4 st3 fun b hb o e=>hk4 b o e;have I4:=vm (N':=N') (fr:=fr) (fp:=fp) I3 C hc f3 (fun b hb=>let ⟨o,ho,_⟩:=obj3 b hb;⟨o,ho⟩) hn4 hk4;have stat:∀{H':Hp},(∀b∈fp,H' b=none)->∀b∈fp,mT (aV X N' sc {s2 with heap:=s2.heap.push { cls:=.type "list",data:=.seq ([]:List Qf).toArray} } (upd H2 s2.heap.objs.size (.lst [])) fp) [] H' b:=fun hn b hb=>
  ⟨hn b hb,(I4.ok.exf b hb).1,I4.ok.exfs b hb,.inl hb,(I4.ok.exf b hb).2,fun p hp=>(nomatch hp)⟩
 have loop:R7 (Qs X.prog X.w) X.A (.compLoop (.ListComp elt [⟨target,iter,ifs,0⟩] sc pos) 0 (.ref it) (.ref s2.heap.objs.size) (compEnv X.env sc (s2.heap.push { cls:=.type "list",data:=.seq ([]:List Qf).toArray}).objs.size))
   (fun r s'=>∃m,s'.heap.Ns (s2.heap.push { cls:=.type "list",data:=.seq ([]:List Qf).toArray}).objs.size m/\∀h',Q7 (s2.heap.push { cls:=.type "list",data:=.seq ([]:List Qf).toArray}).objs.size s'.heap h'->
    match r with | .ok _=>EP X pins σ Q (.ref s2.heap.objs.size) {s' with heap:=h'} | .error x=>False) {s2 with heap:=h4}:=by
  refine oh (fun n s'=>∃i σ' H',Inv (aV X N' sc {s2 with heap:=s2.heap.push { cls:=.type "list",data:=.seq ([]:List Qf).toArray} } (upd H2 s2.heap.objs.size (.lst [])) fp) [] σ' H' s'/\tn i s'.heap/\(∀b∈fp,H' b=none)/\W i n σ' H') ?_ m0
   ⟨0,_,_,I4,st4,fun b hb=>(f3 b hb).1,w0⟩
  rintro n s5 ⟨i,σ5,H5,I5,st5,fr5,w5⟩;rcases turn i n σ5 H5 w5 with⟨stop,q⟩|⟨go,step⟩
  ·refine thn (T.done (aV X N' sc _ _ fp) rfl rfl rfl rfl i [] s5 σ5 H5 (fun _ _=>False) I5 (stat fr5) st5 stop) ?_;rintro r s6 ⟨hr,I6⟩;subst hr;obtain⟨m6,hn6,_⟩:=id I6.loc;refine⟨m6,hn6,fun h' hs'=>?_⟩;have hL:H5 (s2.heap.push { cls:=.type "list",data:=.seq ([]:List Qf).toArray}).objs.size=none:=I6.free;have hok':HOk X.prog X.w H5 h':=fun b u e=>by
    refine(I6.hok b u e).oJ (fun c v hc q=>(hs'.2 c ?_).trans q) (fun _ q=>q) fun _ _ q=>q;rintro rfl;rcases hc with rfl|hc
    ·rw[hL]at e;cases e
    rw[hL]at hc;cases hc
   have ub:=I6.base;have lt:∀b o,(s2.heap.push { cls:=.type "list",data:=.seq ([]:List Qf).toArray}).get? b=some o->b≠(s2.heap.push { cls:=.type "list",data:=.seq ([]:List Qf).toArray}).objs.size:=fun b o e=>x_ (Qr e);have un:Un (frs X.stack) fp (upd H2 s2.heap.objs.size (.lst [])) H5 (s2.heap.push { cls:=.type "list",data:=.seq ([]:List Qf).toArray}) h':=
    ⟨fun b o e n hb hx=>(hs'.2 b (lt b o e)).trans (ub.keep b o e n hb hx),fun b o e n hb hx=>let ⟨sl,z⟩:=ub.slot b o e n hb hx;⟨sl,(hs'.2 b (lt b o e)).trans z⟩,ub.free,
     fun b o e hx=>let ⟨o',z⟩:=ub.there b o e hx;⟨o',(hs'.2 b (lt b o e)).trans z⟩,ub.tups,ub.frzs,ub.tbls⟩
   refine⟨.ref s2.heap.objs.size,H5,I3.FE (s':={s6 with heap:=h'}) (ch:=fp) I6.os un hok' I6.bare (fun b hb=>?_),rfl,q⟩;obtain⟨_,g1,g2,g3,g4,g5⟩:=f3 b hb;exact⟨g3,g1,g4,g5⟩
  refine thn (T.item (aV X N' sc _ _ fp) rfl rfl rfl rfl i [] s5 σ5 H5 (fun _ _=>False) I5 (stat fr5) st5 go) ?_;rintro r s6 ⟨u,hr,h6⟩;subst hr;refine thn h6 ?_;rintro _ s7 ⟨x,H7,I7,r7,y7,st7,fr7⟩;have I7':=I7.pinned (stat fr7) (T.obj _ _ st7);have again:∀{σ8:St}{H8:Hp}{s8:Qi},Inv (aV X N' sc {s2 with heap:=s2.heap.push { cls:=.type "list",data:=.seq ([]:List Qf).toArray} } (upd H2 s2.heap.objs.size (.lst [])) fp) ([]++nD fp s7.heap) σ8 H8 s8->(∃m',m'<n/\W (i+1) m' σ8 H8)->
    ∃m,m<n/\∃i σ' H',Inv (aV X N' sc {s2 with heap:=s2.heap.push { cls:=.type "list",data:=.seq ([]:List Qf).toArray} } (upd H2 s2.heap.objs.size (.lst [])) fp) [] σ' H' s8/\tn i s8.heap/\(∀b∈fp,H' b=none)/\W i m σ' H':=fun{σ8 H8 s8} I8 ⟨m',hm,w8⟩=>by
   refine⟨m',hm,i+1,σ8,H8,I8.jc,T.keep _ _ _ st7 fun b hb o e=>(I8.pin (b,o) (o_ _ (o_ _ (dq hb e)))).1,fun b hb=>?_,w8⟩;obtain⟨o,e,d⟩:=T.obj _ _ st7 b hb;exact(I8.pin (b,o) (o_ _ (o_ _ (dq hb e)))).2.1
  refine thn (hg _ _ fp _ s7 σ5 H7 x u _ I7' r7 (step x H7 y7)) ?_;rintro _ s8 ⟨σ8,H8,I8,q8⟩;refine thn (ht _ _ fp _ s8 σ8 H8 _ I8 q8) ?_;rintro ok s9 ⟨H9,I9,q9⟩;cases ok with
  |false=>exact again I9 q9
  |true=>
   refine thn (he _ _ fp _ s9 σ8 H9 _ I9 q9) ?_;rintro y s10 ⟨v,H10,I10,r10,ys,hys,hl,q10⟩;refine thn (nI _ s10 σ8 H10 (.ref s2.heap.objs.size) [v] (.ref s2.heap.objs.size) [y] (fun _ H'=>∃m',m'<n/\W (i+1) m' σ8 H') I10 rfl (.cons r10 .nil) ⟨_,ys,v,rfl,rfl,hys,hl,q10⟩) ?_;rintro z s11 ⟨_,H11,I11,_,q11⟩;exact again I11 q11
 refine Uw loop ?_;exact T.self X.A 0 _ _ _ st4 loop
noncomputable def SqG(b:Bool)(K:Qg)(H:Hp)(a:Qh)(xs:List V):Prop:=match b with
 |true=>SqT K H a xs
 |false=>SqL K H a xs
section
variable{X:Cx}{pins:List (Qh×Obj)}{σ:St}{H:Hp}{s:Qi}
theorem Inv.sq (I:Inv X pins σ H s){b:Bool}{a:Qh}{xs:List V}(h:SqG b X.K H a xs):∃its:List Qf,Vals xs its/\ZG.Sq b s.heap a its.toArray/\xs.length<=sizeLine:=by
 cases b with
 |true=>exact I.tuple h
 |false=>
  obtain⟨its,r,p,z⟩:=I.list h;exact⟨its,r,p.isList,z⟩
theorem Inv.Dp (I:Inv X pins σ H s){b:Bool}{a:Qh}{xs ys:List V}(h:SqG b X.K H a xs)(h':SqG b X.K H a ys):xs=ys:=by
 cases b with
 |true=>exact I.fv h h'
 |false=>exact I.pV h h'
theorem Inv.G0 (I:Inv X pins σ H s){a b:Qh}{u:HO}(h:Rd H a u)(f:mT X pins H b):a≠b:=by
 rintro rfl;rcases h with h|⟨o,h⟩
 ·rw[f.1]at h;cases h
 rw[f.1]at h;cases h
theorem Inv.Jy (I:Inv X pins σ H s){a b:Qh}{o:Obj}(h:X.K.lookup a=some o)(f:mT X pins H b):a≠b:=by
 rintro rfl;have e:X.base.get? a=some o:=I.ok.mod.kin a o h;rcases f.2.2.2.1 with z|z
 ·exact I.ok.noex a o e z
 exact absurd (y_ (Qr (I.ok.bs a o e).1) z) (Ms _)
theorem Inv.dN (I:Inv X pins σ H s){b:Bool}{a c:Qh}{xs:List V}(h:SqG b X.K H a xs)(f:mT X pins H c):a≠c:=by
 cases b with
 |true=>
  rcases h with h|⟨o,its,n,hk,_⟩
  ·exact I.G0 h f
  ·exact I.Jy hk f
 |false=>
  rcases h with h|⟨o,its,n,hk,_⟩
  ·exact I.G0 h f
  exact I.Jy hk f
end
noncomputable def Itz(K:Qg)(b1:Bool)(a1:Qh)(b2:Bool)(a2:Qh):It:=
  ⟨fun i H=>∃xs ys x y,SqG b1 K H a1 xs/\SqG b2 K H a2 ys/\xs[i]?=some x/\ys[i]?=some y,
   fun i H v H'=>∃p x y,H p=none/\v=.ref p/\H'=upd H p (.tup [x,y])/\(∀xs,SqG b1 K H a1 xs->xs[i]?=some x)/\∀ys,SqG b2 K H a2 ys->ys[i]?=some y,
   fun i H=>∃xs ys,SqG b1 K H a1 xs/\SqG b2 K H a2 ys/\(xs.length<=i\/ys.length<=i)⟩
structure Off5 (z TI TO i1 i2:Qh):Prop where
 a1:TI≠z
 a2:TO≠z
 a3:i1≠z
 a4:i2≠z
 a5:TI≠TO
 a6:TI≠i1
 a7:TI≠i2
 a8:TO≠i1
 a9:TO≠i2
 b1:i1≠i2
theorem B9{P:Qv}{w:Qy}{K:Qg}{es:List Qx}{x1:Nat}{tp:Pos}(b1:Bool)(a1:Qh)(b2:Bool)(a2 z TI TO i1 i2:Qh)(D:Off5 z TI TO i1 i2) :
  Turn P w K (.Tuple es x1 tp) (Itz K b1 a1 b2 a2) [z,TI,TO,i1,i2] z (fun i h=>Sj h z TI TO .none/\Rv h TI (.ref i1) (.ref i2)/\(∃a b,Rv h TO a b)/\ZG.Dr b1 h i1 a1 i/\ZG.Dr b2 h i2 a2 i) where
 mem:=by simp
 obj:=fun i h st b hb=>by
  obtain⟨hz,hi,⟨a,c,ho⟩,d1,d2⟩:=st;have hb:b=z\/b=TI\/b=TO\/b=i1\/b=i2:=by simpa using hb
  rcases hb with rfl|rfl|rfl|rfl|rfl
  ·exact⟨_,hz,fun v e=>by cases (show Xb _=U3 v from e)⟩
  ·exact⟨_,hi,fun v e=>by cases (show WM _ _=U3 v from e)⟩
  ·exact⟨_,ho,fun v e=>by cases (show WM _ _=U3 v from e)⟩
  ·exact d1.some
  exact d2.some
 keep:=fun i h h' st k=>by obtain⟨hz,hi,⟨a,c,ho⟩,d1,d2⟩:=st;exact⟨k z (by simp) _ hz,k TI (by simp) _ hi,⟨a,c,k TO (by simp) _ ho⟩,d1.at fun o e=>k i1 (by simp) o e,d2.at fun o e=>k i2 (by simp) o e⟩
 item:=by
  intro X hP hw hK hc i pins s σ H E I hf st hg;subst hP hw hK;obtain⟨xs,ys,x,y,q1,q2,hx,hy⟩:=hg;obtain⟨its,rv,p1,z1⟩:=I.sq q1;obtain⟨jts,sv,p2,z2⟩:=I.sq q2;obtain⟨u,hu,ru⟩:=rv.get hx;obtain⟨v,hv,rw'⟩:=sv.get hy;obtain⟨hz,hi,⟨a,c,ho⟩,d1,d2⟩:=st;have fz:=hf z (by simp);have fTI:=hf TI (by simp);have fTO:=hf TO (by simp);have f1:=hf i1 (by simp);have f2:=hf i2 (by simp);have DD:ZG.Off z TI TO i1 i2 a1 a2:=⟨D.a1,D.a2,D.a3,D.a4,D.a5,D.a6,D.a7,D.a8,D.a9,D.b1,I.dN q1 fz,I.dN q1 fTO,I.dN q1 f1,I.dN q1 f2,I.dN q2 fz,I.dN q2 fTO,I.dN q2 f1,I.dN q2 f2⟩;refine ZG.wj DD hz hi ho d1 d2 p1 p2 (by simpa using hu) (by simpa using hv) fun g gz gO g1 g2 gT gs gk=>⟨_,rfl,?_⟩
  refine wpAny_letOwnedTupleGo_zip (s:={s with heap:=g}) gz fun h' hz' hs'=>?_;have hfresh:H s.heap.objs.size=none:=I.hok.fresh (b_ _);have zT:s.heap.objs.size≠z:=M6 (Qr hz);have kp:∀b o,b ∉ [z,TI,TO,i1,i2]->s.heap.get? b=some o->h'.get? b=some o:=fun b o hb e=>by
   have n:b≠z/\b≠TI/\b≠TO/\b≠i1/\b≠i2:=by simpa using hb
   exact hs'.extBut _ _ n.1 (gk b o n.1 n.2.2.1 n.2.2.2.1 n.2.2.2.2 e)
  have hT:h'.get? s.heap.objs.size=some { cls:=.type "tuple",data:=.seq #[u,v] }:=hs'.extBut _ _ zT gT;have notfp:∀b o,H b=some o->b ∉ [z,TI,TO,i1,i2]:=fun b o e hb=>by have:=(hf b hb).1;rw[e]at this;cases this
  have ne:∀b o,s.heap.get? b=some o->b≠s.heap.objs.size:=fun b o e=>x_ (Qr e);have nt:∀b o,H b=some o->b≠s.heap.objs.size:=fun b o e=>bK e hfresh;have I1:Inv X pins σ (upd H s.heap.objs.size (.tup [x,y])) {s with heap:=h'}:=by
   refine I.step (g':=s.gens) (d':=s.drawn) (t':=s.toks) (ch:=[z,TI,TO,i1,i2]) (fun b hb=>?_) (fun b o _ _ hc e _=>kp b o hc e) (fun b o _ _ hc e _=>⟨o.slots,kp b o hc e⟩)
    (fun b o _ e n=>by rw[aM (ne b o e)];exact n) (fun b o hc e=>⟨o,kp b o hc e⟩) (fun b zs e=>by rw[aM (nt b _ e)];exact e) (fun b o u e=>by rw[aM (nt b _ e)];exact e)
    (fun b ps e=>⟨#[],by rw[aM (nt b _ e),e];simp⟩) (fun m hm=>?_) (fun b o e=>?_) I.bare
   ·obtain⟨g0,g1,g2,g3,g4,g5⟩:=hf b hb;exact⟨g3,g1,g4,g5⟩
   ·obtain⟨o,es,ep,ho',r⟩:=hm;exact⟨o,es,ep,kp _ o (fun hb=>(hf _ hb).2.1 rfl) ho',r⟩
   by_cases hb:b=s.heap.objs.size
   ·subst hb;rw[aN]at e;cases e;exact⟨by show 2<=sizeLine;decide,[u,v],.cons ru (.cons rw' .nil),_,hT,rfl,_,rfl⟩
   rw[aM hb]at e;refine(I.hok b o e).oJ (fun c' w' hc' q=>kp c' w' ?_ q) (fun c' q=>by rw[aM (nt c' _ q)];exact q) fun c' zs q=>by rw[aM (nt c' _ q)];exact q
   rcases hc' with rfl|hc'
   ·exact notfp _ _ e
   exact notfp _ _ hc'
  refine⟨.ref s.heap.objs.size,_,I1,rfl,⟨s.heap.objs.size,x,y,hfresh,rfl,rfl,fun zs hq=>by rw[I.Dp hq q1];exact hx,fun zs hq=>by rw[I.Dp hq q2];exact hy⟩,?_,fun b hb=>?_⟩
  ·exact⟨hz',hs'.extBut _ _ D.a1 (gk _ _ D.a1 D.a5 D.a6 D.a7 hi),⟨_,_,hs'.extBut _ _ D.a2 gO⟩,g1.ext hs'.extBut D.a3,g2.ext hs'.extBut D.a4⟩
  have hb0:=(hf b hb).1;have hb':b=z\/b=TI\/b=TO\/b=i1\/b=i2:=by simpa using hb
  have hlt:∃o,s.heap.get? b=some o:=by
   rcases hb' with rfl|rfl|rfl|rfl|rfl
   ·exact⟨_,hz⟩
   ·exact⟨_,hi⟩
   ·exact⟨_,ho⟩
   ·obtain⟨o,e,_⟩:=d1.some;exact⟨o,e⟩
   obtain⟨o,e,_⟩:=d2.some;exact⟨o,e⟩
  obtain⟨o,e⟩:=hlt;rw[aM (ne b o e)];exact hb0
 done:=by
  intro X hP hw hK hc i pins s σ H E I hf st hg;subst hP hw hK;obtain⟨xs,ys,q1,q2,hn⟩:=hg;obtain⟨its,rv,p1,z1⟩:=I.sq q1;obtain⟨jts,sv,p2,z2⟩:=I.sq q2;obtain⟨hz,hi,⟨a,c,ho⟩,d1,d2⟩:=st;have fz:=hf z (by simp);have fTI:=hf TI (by simp);have fTO:=hf TO (by simp);have f1:=hf i1 (by simp);have f2:=hf i2 (by simp);have DD:ZG.Off z TI TO i1 i2 a1 a2:=⟨D.a1,D.a2,D.a3,D.a4,D.a5,D.a6,D.a7,D.a8,D.a9,D.b1,I.dN q1 fz,I.dN q1 fTO,I.dN q1 f1,I.dN q1 f2,I.dN q2 fz,I.dN q2 fTO,I.dN q2 f1,I.dN q2 f2⟩;have l1:=rv.length;have l2:=sv.length;refine ZG.xC (I.ok.hd hc) DD hz hi ho d1 d2 p1 p2 (hn.elim (fun z=>.inl (by simp;omega)) fun z=>.inr (by simp;omega)) fun g gk=>⟨rfl,?_⟩
  have kp:∀b o,b ∉ [z,TI,TO,i1,i2]->s.heap.get? b=some o->g.get? b=some o:=fun b o hb e=>by
   have n:b≠z/\b≠TI/\b≠TO/\b≠i1/\b≠i2:=by simpa using hb
   exact gk b o n.1 n.2.2.1 n.2.2.2.1 n.2.2.2.2 e
  have notfp:∀b o,H b=some o->b ∉ [z,TI,TO,i1,i2]:=fun b o e hb=>by have:=(hf b hb).1;rw[e]at this;cases this
  refine I.step (g':=s.gens) (d':=s.drawn) (t':=s.toks) (ch:=[z,TI,TO,i1,i2]) (fun b hb=>?_) (fun b o _ _ hc e _=>kp b o hc e) (fun b o _ _ hc e _=>⟨o.slots,kp b o hc e⟩)
   (fun b o _ e n=>n) (fun b o hc e=>⟨o,kp b o hc e⟩) (fun b zs e=>e) (fun b o u e=>e) (fun b ps e=>⟨#[],by rw[e];simp⟩) (fun m hm=>?_) (fun b o e=>?_) I.bare
  ·obtain⟨g0,g1,g2,g3,g4,g5⟩:=hf b hb;exact⟨g3,g1,g4,g5⟩
  ·obtain⟨o,es,ep,ho',r⟩:=hm;exact⟨o,es,ep,kp _ o (fun hb=>(hf _ hb).2.1 rfl) ho',r⟩
  refine(I.hok b o e).oJ (fun c' w' hc' q=>kp c' w' ?_ q) (fun c' q=>q) fun c' zs q=>q;rcases hc' with rfl|hc'
  ·exact notfp _ _ e
  exact notfp _ _ hc'
 self:=fun _ _ _ _ _ st h=>Vy st.1 h
noncomputable def Lp(K:Qg)(ta:TA):TI:=fun σ H R=>ta σ H fun vs H1=>∃b1 a1 b2 a2,vs=[.ref a1,.ref a2]/\(∃xs,SqG b1 K H1 a1 xs)/\(∃ys,SqG b2 K H1 a2 ys)/\R (Itz K b1 a1 b2 a2) H1
theorem Hd{X:Cx}{es:List Qx}{x1:Nat}{tp:Pos}{a b:Qx}{ta:TA}{p pos:Pos}(hg:Gl X "zip")(hm:X.mg "zip"=none)(ha:PA X [a,b] ta)(hs:QA [a,b] X.env=[(false,QO a X.env),(false,QO b X.env)]:=by rfl)(hs2:QA [b] X.env=[(false,QO b X.env)]:=by rfl) :
  PI X (.Tuple es x1 tp) (.Call (.Name "zip" p) [a,b] [] pos) (Lp X.K ta):=by
 intro pins s σ H R I h;refine Call_ (eS I hg hm boot_zip (RM (thn (ha pos pins s σ H _ I h) fun us s1 ⟨vs,H1,I1,r1,q1⟩=>?_) (by rw[hs,hs2]) (by rw[hs2];rfl)));obtain⟨b1,a1,b2,a2,e,⟨xs,q1⟩,⟨ys,q2⟩,q⟩:=q1;subst e;cases r1 with
 |cons r rr=>
  cases rr with
  |cons r' rr=>
   cases rr;cases r;cases r';obtain⟨its,rv,p1,z1⟩:=I1.sq q1;obtain⟨jts,sv,p2,z2⟩:=I1.sq q2;refine ZG.Df p1 p2 fun g gz gi go g1 g2 gs gk=>Vy (s:={s1 with heap:=g}) gz ?_;have I2:Inv X pins σ H1 {s1 with heap:=g}:=I1.kept (t':=s1.toks) gk;refine⟨_,_,_,_,H1,rfl,I2,B9 b1 a1 b2 a2 _ (s1.heap.objs.size+2) (s1.heap.objs.size+3) s1.heap.objs.size (s1.heap.objs.size+1) ?_,⟨gz,gi,⟨_,_,go⟩,g1,g2⟩,fun b hb=>?_,q⟩
   ·constructor <;>(show(_:Nat)≠_) <;> omega
   have hb':s1.heap.objs.size<=b:=by
    have z:b=s1.heap.objs.size+4\/b=s1.heap.objs.size+2\/b=s1.heap.objs.size+3\/b=s1.heap.objs.size\/b=s1.heap.objs.size+1:=by simpa using hb
    rcases z with z|z|z|z|z <;> rw[z] <;>(show(_:Nat)<=_) <;> omega
   exact I1.wN hb' (I1.hok.fresh hb')
noncomputable def bools(bs:List Bool):List V:=bs.map V.bl
theorem A6{bs:List Bool}{us:List Qf}(r:Vals (bools bs) us){i:Nat}{u:Qf}(h:us[i]?=some u):∃b,bs[i]?=some b/\u=.bool b:=by
 have hl:=r.length;have hi:i<us.length:=(d_.mp h).1;have hb:i<bs.length:=by rw[<-hl]at hi;simpa[bools]using hi
 have e:(bools bs)[i]?=some (.bl bs[i]):=by unfold bools;rw[D_,c_ hb];rfl
 obtain⟨u',h',ru⟩:=r.get e;rw[h]at h';cases h';exact⟨bs[i],c_ hb,ru⟩
theorem xq(bs:List Bool):((A_ bs.length).all fun i=>(bs[i]?).getD true)=bs.all id:=by
 have e:bs=(A_ bs.length).map fun i=>(bs[i]?).getD true:=by
  apply List.ext_getElem
  ·simp
  intro i h1 h2;simp[h1]
 conv=>rhs;rw[e,Nv]
 rfl
section
variable{X:Cx}
theorem Bl(hc:X.calm=true):bE X (.builtin "all") (fun xs H Q=>∃a bs,xs=[.ref a]/\SqL X.K H a (bools bs)/\Q (.bl (bs.all id)) H):=by
 intro pins s σ H xs us Q I r h;obtain⟨a,bs,rfl,hq,q⟩:=h;obtain⟨u,rfl,ru⟩:=vals1 r;cases ru;obtain⟨its,rv,p,z⟩:=I.list hq;have hl:=p.isList;have hlt:a<s.heap.objs.size:=by obtain⟨_,e,_⟩:=hl;exact Qr e
 have hlen:its.toArray.size=bs.length:=by rw[r_,<-rv.length];simp[bools]
 refine call_all_walk (RD hl ⟨s.heap.objs.size,[s.heap.objs.size,a],[s.heap.objs.size],its.toArray.size,_,_,fun i=>(bs[i]?).getD true,rfl,Xm (A:=X.A.in1) (I.ok.hd hc) _ a (x_ hlt) its.toArray,⟨⟨_,Qo _ rfl,rfl,rfl⟩,hl.push _⟩,fun i v s' Q' E' hP hQ=>?_,fun h' tk hk=>?_⟩)
 ·obtain⟨b,e,rfl⟩:=A6 rv (i:=i) (u:=v) (by simpa using hP);simp only[e,Option.getD_some]at hQ;exact RC hQ
 rw[hlen,xq];exact⟨.bl (bs.all id),H,I.kept (t':=tk) (LSm.kept_iter hk),rfl,q⟩
end
inductive Ty where
 |non|bl|int|str|lst|tup|dct
 deriving DecidableEq
noncomputable def Ty.nm:Ty->String
 | .non=>"NoneType"
 | .bl=>"bool"
 | .int=>"int"
 | .str=>"str"
 | .lst=>"list"
 | .tup=>"tuple"
 | .dct=>"dict"
noncomputable def isA(t c:Ty):Bool:=decide (t=c) || (decide (t=.bl)&&decide (c=.int))
inductive TyG (K:Qg) (H:Hp):V->Ty->Prop where
 |non:TyG K H .non .non
 |bl (b:Bool):TyG K H (.bl b) .bl
 |int (i:Int):TyG K H (.int i) .int
 |str (x:Str):TyG K H (.str x) .str
 |lst {a:Qh}{xs:List V} (h:SqL K H a xs):TyG K H (.ref a) .lst
 |tup {a:Qh}{xs:List V} (h:SqT K H a xs):TyG K H (.ref a) .tup
 |dct {a:Qh}{kvs:List (Key×V)} (h:Rd H a (.dK kvs)):TyG K H (.ref a) .dct
theorem yC(K:Qg)(t c:Ty):PySem.W.kitOne K (.type t.nm) (.type c.nm)=some (isA t c):=by cases t <;> cases c <;> kernel_rfl
theorem yt(K:Qg)(t:Ty):∀cs:List Ty,V9 K (.type t.nm) (cs.map fun c=>Rg c.nm)=some (cs.any (isA t))
 | []=>rfl
 |c::r=>by
  rw[g_,Of];unfold V9;rw[yC];cases isA t c with
  |true=>rfl
  |false=>exact yt K t r
section
variable{X:Cx}{pins:List (Qh×Obj)}{σ:St}{H:Hp}{s:Qi}{A:QE}{E:Qf->Qi->Prop}{Q:Qf->Qi->Prop}
theorem Vals.tys:∀{cs:List Ty}{us:List Qf},Vals (cs.map fun c=>V.ty c.nm) us->us=cs.map fun c=>Rg c.nm
 | [],_,.nil=>rfl
 |c::r,_,.cons h t=>by have e:_=Rg c.nm:=h;rw[g_,<-Vals.tys t,e]
noncomputable def zB(K:Qg)(H:Hp)(y:V)(cs:List Ty):Prop:=(∃c,y=.ty c.nm/\cs=[c])\/∃p,y=.ref p/\H p=some (.tup (cs.map fun c=>V.ty c.nm))
theorem Bm{x y:V}{u v:Qf}{t:Ty}{cs:List Ty}(I:Inv X pins σ H s)(rx:RelV x u)(ry:RelV y v)(ty:TyG X.K H x t)(ka:zB X.K H y cs)(h:∀tk,Q (.bool (cs.any (isA t))) {s with toks:=tk}) :
  Qn (Qs X.prog X.w) A (call (.builtin "isinstance") [u,v]) Q E s:=by
 have go:∀{P:Qz->Prop},PySem.W.KitX X.K u (.type t.nm) P->P s.heap->u≠.builtin "__main__.__loader__#opaque"->Qn (Qs X.prog X.w) A (call (.builtin "isinstance") [u,v]) Q E s:=fun{P} Z p hx=>by
  rcases ka with⟨c,rfl,rfl⟩|⟨q,rfl,hq⟩
  ·cases (show v=Rg c.nm from ry);have e:([c].any (isA t))=isA t c:=by simp
   exact PySem.W.kia_one Z I.kIn p (yC X.K t c) hx (fun tk=>by rw[<-e];exact h tk)
  cases (show v=QV q from ry);obtain⟨_,its,rv,o,ho,hc,n,hd⟩:=(show ba X.prog X.w H s.heap q (.tup _)from I.hok q _ hq);have e:=rv.tys;subst e;obtain⟨c,dd,dt,sl⟩:=o;cases (show c=_ from hc);cases (show dt=_ from hd);exact PySem.W.kia_tup Z I.kIn p ho (yt X.K t cs) hx h
 cases ty with
 |non=>cases (show u=QT from rx);exact go PySem.W.kitx_none RK (fun z=>nomatch z)
 |bl y=>cases (show u=VD y from rx);exact go PySem.W.kitx_bool RK (fun z=>nomatch z)
 |int i=>obtain⟨t,q⟩:=(show ∃t,u=RX i t from rx);cases q;exact go PySem.W.kitx_int RK (fun z=>nomatch z)
 |str y=>obtain⟨t,q⟩:=(show ∃t,u=U0 y t from rx);cases q;exact go PySem.W.kitx_str RK (fun z=>nomatch z)
 | @lst a xs hq=>
  cases (show u=QV a from rx);obtain⟨_,_,p,_⟩:=I.list hq;obtain⟨o,h1,h2,_⟩:=p.isList;exact go PySem.W.kitx_list ⟨o,h1,h2⟩ (fun z=>nomatch z)
 | @tup a xs hq=>
  cases (show u=QV a from rx);obtain⟨_,_,p,_⟩:=I.tuple hq;obtain⟨o,h1,h2,_⟩:=p;exact go PySem.W.kitx_tuple ⟨o,h1,h2⟩ (fun z=>nomatch z)
 | @dct a kvs hq=>
  cases (show u=QV a from rx);obtain⟨_,_,vs,_,p⟩:=(show ba X.prog X.w H s.heap a (.dK kvs)from hq.ok I.hok);obtain⟨o,es,ep,h1,h2,_⟩:=p;exact go PySem.W.kitx_dict ⟨o,h1,h2.1⟩ (fun z=>nomatch z)
theorem o9:bE X (.builtin "isinstance") (fun xs H Q=>∃x y t cs,xs=[x,y]/\TyG X.K H x t/\zB X.K H y cs/\Q (.bl (cs.any (isA t))) H):=by
 intro pins s σ H xs us Q I r h;obtain⟨x,y,t,cs,rfl,ty,ka,q⟩:=h;cases r with
 |cons r rr=>
  cases rr with
  |cons r' rr=>
   cases rr;exact Bm I r r' ty ka fun tk=>⟨.bl (cs.any (isA t)),H,I.tok tk,rfl,q⟩
end
inductive Dt where
 |int (i:Int)|bl (b:Bool)|str (x:Str)|non|lst (ds:List Dt)|tup (ds:List Dt)
mutual
def Has(K:Qg)(H:Hp):Dt->V->Prop
 | .int i,v=>v=.int i
 | .bl b,v=>v=.bl b
 | .str x,v=>v=.str x
 | .non,v=>v=.non
 | .lst ds,v=>∃a xs,v=.ref a/\SqL K H a xs/\bY K H ds xs
 | .tup ds,v=>∃a xs,v=.ref a/\SqT K H a xs/\bY K H ds xs
def bY(K:Qg)(H:Hp):List Dt->List V->Prop
 | [],xs=>xs=[]
 |d::r,xs=>∃x t,xs=x::t/\Has K H d x/\bY K H r t
end
mutual
def dpt:Dt->Nat
 | .lst ds=>iU ds+1
 | .tup ds=>iU ds+1
 | _=>0
def iU:List Dt->Nat
 | []=>0
 |d::r=>max (dpt d) (iU r)
end
mutual
def eqD:Dt->Dt->Bool
 | .int a,.int b=>a == b
 | .int a,.bl b=>a ==(if b then 1 else 0)
 | .bl a,.int b=>(if a then 1 else 0) == b
 | .bl a,.bl b=>a == b
 | .str a,.str b=>a == b
 | .non,.non=>true
 | .lst xs,.lst ys=>eqL xs ys
 | .tup xs,.tup ys=>eqL xs ys
 | _,_=>false
def eqL:List Dt->List Dt->Bool
 | [],[]=>true
 |x::xs,y::ys=>eqD x y&&eqL xs ys
 | _,_=>false
end
mutual
theorem jl:∀d:Dt,eqD d d=true
 | .int a=>by simp[eqD]
 | .bl a=>by simp[eqD]
 | .str a=>by simp[eqD]
 | .non=>by simp[eqD]
 | .lst xs=>by rw[eqD];exact qQ xs
 | .tup xs=>by rw[eqD];exact qQ xs
theorem qQ:∀ds:List Dt,eqL ds ds=true
 | []=>by simp[eqL]
 |d::r=>by rw[eqL,jl d,qQ r];rfl
end
theorem bY.len {K:Qg}{H:Hp}:∀{ds:List Dt}{xs:List V},bY K H ds xs->ds.length=xs.length
 | [],xs,h=>by rw[bY]at h;rw[h];rfl
 |d::r,xs,h=>by rw[bY]at h;obtain⟨x,t,rfl,_,ht⟩:=h;rw[h_,h_,bY.len ht]
theorem bY.get {K:Qg}{H:Hp}:∀{ds:List Dt}{xs:List V}{i:Nat}{d:Dt}{x:V},bY K H ds xs->ds[i]?=some d->xs[i]?=some x->Has K H d x
 | [],xs,i,d,x,h,e,_=>by simp at e
 |c::r,xs,0,d,x,h,e,f=>by rw[bY]at h;obtain⟨y,t,rfl,hy,ht⟩:=h;simp at e f;subst e f;exact hy
 |c::r,xs,i+1,d,x,h,e,f=>by rw[bY]at h;obtain⟨y,t,rfl,hy,ht⟩:=h;exact bY.get ht (i:=i) (by simpa using e) (by simpa using f)
theorem SqL.same {K:Qg}{H H':Hp}{a:Qh}{xs:List V}(e:bI H H')(h:SqL K H a xs):SqL K H' a xs:=e.seq h
theorem SqT.same {K:Qg}{H H':Hp}{a:Qh}{xs:List V}(e:bI H H')(h:SqT K H a xs):SqT K H' a xs:=by
 rcases h with (h|⟨o,h⟩)|h
 ·exact .inl (.inl (e _ _ h))
 ·exact .inl (.inr ⟨o,e _ _ h⟩)
 exact .inr h
theorem SqG.same {b:Bool}{K:Qg}{H H':Hp}{a:Qh}{xs:List V}(e:bI H H')(h:SqG b K H a xs):SqG b K H' a xs:=by
 cases b with
 |true=>exact SqT.same e h
 |false=>exact SqL.same e h
theorem vW{K:Qg}{H:Hp}:bY K H [] []:=by rw[bY]
theorem rq{K:Qg}{H:Hp}{d:Dt}{r:List Dt}{x:V}{t:List V}(h:Has K H d x)(g:bY K H r t):bY K H (d::r) (x::t):=by rw[bY];exact⟨x,t,rfl,h,g⟩
noncomputable def di(ns:List Int):List Dt:=ns.map Dt.int
theorem rR{K:Qg}{H:Hp}:∀ns:List Int,bY K H (di ns) (ns.map V.int)
 | []=>vW
 |n::r=>rq (by rw[Has]) (rR r)
theorem vC{K:Qg}{H:Hp}{p:Qh}{ns:List Int}(h:SqL K H p (ns.map V.int)):Has K H (.lst (di ns)) (.ref p):=by rw[Has];exact⟨p,_,rfl,h,rR ns⟩
theorem su:∀ns:List Int,iU (di ns)=0
 | []=>by simp[di,iU]
 |n::r=>by have ih:=su r;show iU (Dt.int n::di r)=0;simp[iU,dpt,ih]
theorem vL:∀{ds:List Dt}{i:Nat}{d:Dt},ds[i]?=some d->dpt d<=iU ds
 | [],i,d,e=>by simp at e
 |c::r,0,d,e=>by simp at e;subst e;rw[iU];exact Nat.le_max_left _ _
 |c::r,i+1,d,e=>by have q:dpt d<=iU r:=vL (i:=i) (by simpa using e);rw[iU];exact m_ q (Nat.le_max_right _ _)
theorem nE:∀(ds es:List Dt),ds.length=es.length->((A_ ds.length).all fun j=>eqD (ds.getD j .non) (es.getD j .non))=eqL ds es
 | [],[],_=>by simp[eqL]
 | [],e::r,h=>by simp at h
 |d::r,[],h=>by simp at h
 |d::r,e::t,h=>by
  have h':r.length=t.length:=by simpa using h
  rw[eqL,<-nE r t h',h_,List.range_succ_eq_map,Og,Nv]
  rfl
theorem tF:∀{ds es:List Dt},eqL ds es=true->ds.length=es.length
 | [],[],_=>rfl
 | [],e::r,h=>by simp[eqL]at h
 |d::r,[],h=>by simp[eqL]at h
 |d::r,e::t,h=>by rw[eqL,Lz]at h;rw[h_,h_,tF h.2]
theorem vk:∀(ds es:List Dt),(((A_ (min ds.length es.length)).all fun j=>eqD (ds.getD j .non) (es.getD j .non))&&ds.length == es.length)=eqL ds es:=by
 intro ds es;by_cases h:ds.length=es.length
 ·rw[<-nE ds es h,h,Nat.min_self];simp
 have:eqL ds es=false:=M3.mpr fun z=>h (tF z);rw[this];have:(ds.length == es.length)=false:=by simpa using h
 rw[this,PK]
section
variable{X:Cx}{pins:List (Qh×Obj)}{σ:St}{H:Hp}{s:Qi}
theorem uY(n:Nat){A:QE}(hA:A.units+1+n<cLine+1)(I:Inv X pins σ H s){ds es:List Dt}{xs ys:List V}{its jts:List Qf}(h1:bY X.K H ds xs)(h2:bY X.K H es ys)(r1:Vals xs its)(r2:Vals ys jts)
  (rec:∀d e x y u v,d∈ds->e∈es->Has X.K H d x->Has X.K H e y->RelV x u->RelV y v->TY A.in1 s u v (eqD d e)) :
  ∀j (g1:j<its.toArray.size) (g2:j<jts.toArray.size),TY A.in1 s its.toArray[j] jts.toArray[j] (eqD (ds.getD j .non) (es.getD j .non)):=by
 intro j g1 g2;have l1:=r1.length;have l2:=r2.length;have m1:=h1.len;have m2:=h2.len;have g1':j<its.length:=by simpa using g1
 have g2':j<jts.length:=by simpa using g2
 have a1:j<xs.length:=by lia
 have a2:j<ys.length:=by lia
 have b1:j<ds.length:=by lia
 have b2:j<es.length:=by lia
 obtain⟨u,hu,ru⟩:=r1.get (c_ a1);obtain⟨v,hv,rv⟩:=r2.get (c_ a2);rw[c_ g1']at hu;rw[c_ g2']at hv;cases hu;cases hv;have e1:ds.getD j .non=ds[j]:=by simp[LB,b1]
 have e2:es.getD j .non=es[j]:=by simp[LB,b2]
 rw[e1,e2];have:=rec ds[j] es[j] xs[j] ys[j] its[j] jts[j] (LY b1) (LY b2) (h1.get (c_ b1) (c_ a1)) (h2.get (c_ b2) (c_ a2)) ru rv;simpa using this
theorem yr{ds:List Dt}{d:Dt}(h:d∈ds):dpt d<=iU ds:=by obtain⟨i,hi⟩:=List.getElem?_of_mem h;exact vL hi
mutual
theorem Has.inj (I:Inv X pins σ H s):∀{d e:Dt}{x:V},Has X.K H d x->Has X.K H e x->d=e
 | .int a,.int b,x,h1,h2=>by
  rw[Has]at h1;rw[Has]at h2;rw[h1]at h2;cases h2
  rfl
 | .int a,.bl b,x,h1,h2=>by rw[Has]at h1;rw[Has]at h2;rw[h1]at h2;cases h2
 | .int a,.str b,x,h1,h2=>by rw[Has]at h1;rw[Has]at h2;rw[h1]at h2;cases h2
 | .int a,.non,x,h1,h2=>by rw[Has]at h1;rw[Has]at h2;rw[h1]at h2;cases h2
 | .int a,.lst b,x,h1,h2=>by rw[Has]at h1;rw[Has]at h2;obtain⟨p,xs,e,s1,l1⟩:=h2;rw[h1]at e;cases e
 | .int a,.tup b,x,h1,h2=>by rw[Has]at h1;rw[Has]at h2;obtain⟨p,xs,e,s1,l1⟩:=h2;rw[h1]at e;cases e
 | .bl a,.int b,x,h1,h2=>by rw[Has]at h1;rw[Has]at h2;rw[h1]at h2;cases h2
 | .bl a,.bl b,x,h1,h2=>by
  rw[Has]at h1;rw[Has]at h2;rw[h1]at h2;cases h2
  rfl
 | .bl a,.str b,x,h1,h2=>by rw[Has]at h1;rw[Has]at h2;rw[h1]at h2;cases h2
 | .bl a,.non,x,h1,h2=>by rw[Has]at h1;rw[Has]at h2;rw[h1]at h2;cases h2
 | .bl a,.lst b,x,h1,h2=>by rw[Has]at h1;rw[Has]at h2;obtain⟨p,xs,e,s1,l1⟩:=h2;rw[h1]at e;cases e
 | .bl a,.tup b,x,h1,h2=>by rw[Has]at h1;rw[Has]at h2;obtain⟨p,xs,e,s1,l1⟩:=h2;rw[h1]at e;cases e
 | .str a,.int b,x,h1,h2=>by rw[Has]at h1;rw[Has]at h2;rw[h1]at h2;cases h2
 | .str a,.bl b,x,h1,h2=>by rw[Has]at h1;rw[Has]at h2;rw[h1]at h2;cases h2
 | .str a,.str b,x,h1,h2=>by
  rw[Has]at h1;rw[Has]at h2;rw[h1]at h2;cases h2
  rfl
 | .str a,.non,x,h1,h2=>by rw[Has]at h1;rw[Has]at h2;rw[h1]at h2;cases h2
 | .str a,.lst b,x,h1,h2=>by rw[Has]at h1;rw[Has]at h2;obtain⟨p,xs,e,s1,l1⟩:=h2;rw[h1]at e;cases e
 | .str a,.tup b,x,h1,h2=>by rw[Has]at h1;rw[Has]at h2;obtain⟨p,xs,e,s1,l1⟩:=h2;rw[h1]at e;cases e
 | .non,.int b,x,h1,h2=>by rw[Has]at h1;rw[Has]at h2;rw[h1]at h2;cases h2
 | .non,.bl b,x,h1,h2=>by rw[Has]at h1;rw[Has]at h2;rw[h1]at h2;cases h2
 | .non,.str b,x,h1,h2=>by rw[Has]at h1;rw[Has]at h2;rw[h1]at h2;cases h2
 | .non,.non,x,h1,h2=>rfl
 | .non,.lst b,x,h1,h2=>by rw[Has]at h1;rw[Has]at h2;obtain⟨p,xs,e,s1,l1⟩:=h2;rw[h1]at e;cases e
 | .non,.tup b,x,h1,h2=>by rw[Has]at h1;rw[Has]at h2;obtain⟨p,xs,e,s1,l1⟩:=h2;rw[h1]at e;cases e
 | .lst a,.int b,x,h1,h2=>by rw[Has]at h1;rw[Has]at h2;obtain⟨p,xs,rfl,s1,l1⟩:=h1;cases h2
 | .lst a,.bl b,x,h1,h2=>by rw[Has]at h1;rw[Has]at h2;obtain⟨p,xs,rfl,s1,l1⟩:=h1;cases h2
 | .lst a,.str b,x,h1,h2=>by rw[Has]at h1;rw[Has]at h2;obtain⟨p,xs,rfl,s1,l1⟩:=h1;cases h2
 | .lst a,.non,x,h1,h2=>by rw[Has]at h1;rw[Has]at h2;obtain⟨p,xs,rfl,s1,l1⟩:=h1;cases h2
 | .lst a,.lst b,x,h1,h2=>by rw[Has]at h1;rw[Has]at h2;obtain⟨p,xs,rfl,s1,l1⟩:=h1;obtain⟨q,ys,e,s2,l2⟩:=h2;cases e;have e:=I.pV s1 s2;subst e;rw[bY.inj I l1 l2]
 | .lst a,.tup b,x,h1,h2=>by rw[Has]at h1;rw[Has]at h2;obtain⟨p,xs,rfl,s1,l1⟩:=h1;obtain⟨q,ys,e,s2,l2⟩:=h2;cases e;obtain⟨_,_,pl,_⟩:=I.list s1;obtain⟨_,_,pt,_⟩:=I.tuple s2;obtain⟨o1,g1,c1,_⟩:=pl.isList;obtain⟨o2,g2,c2,_⟩:=pt;rw[g1]at g2;cases g2;rw[c1]at c2;exact absurd c2 (by decide)
 | .tup a,.int b,x,h1,h2=>by rw[Has]at h1;rw[Has]at h2;obtain⟨p,xs,rfl,s1,l1⟩:=h1;cases h2
 | .tup a,.bl b,x,h1,h2=>by rw[Has]at h1;rw[Has]at h2;obtain⟨p,xs,rfl,s1,l1⟩:=h1;cases h2
 | .tup a,.str b,x,h1,h2=>by rw[Has]at h1;rw[Has]at h2;obtain⟨p,xs,rfl,s1,l1⟩:=h1;cases h2
 | .tup a,.non,x,h1,h2=>by rw[Has]at h1;rw[Has]at h2;obtain⟨p,xs,rfl,s1,l1⟩:=h1;cases h2
 | .tup a,.lst b,x,h1,h2=>by rw[Has]at h1;rw[Has]at h2;obtain⟨p,xs,rfl,s1,l1⟩:=h1;obtain⟨q,ys,e,s2,l2⟩:=h2;cases e;obtain⟨_,_,pl,_⟩:=I.list s2;obtain⟨_,_,pt,_⟩:=I.tuple s1;obtain⟨o1,g1,c1,_⟩:=pl.isList;obtain⟨o2,g2,c2,_⟩:=pt;rw[g1]at g2;cases g2;rw[c1]at c2;exact absurd c2 (by decide)
 | .tup a,.tup b,x,h1,h2=>by rw[Has]at h1;rw[Has]at h2;obtain⟨p,xs,rfl,s1,l1⟩:=h1;obtain⟨q,ys,e,s2,l2⟩:=h2;cases e;have e:=I.fv s1 s2;subst e;rw[bY.inj I l1 l2]
theorem bY.inj (I:Inv X pins σ H s):∀{ds es:List Dt}{xs:List V},bY X.K H ds xs->bY X.K H es xs->ds=es
 | [],[],xs,h1,h2=>rfl
 | [],e::r,xs,h1,h2=>by rw[bY]at h1;rw[bY]at h2;obtain⟨y,t,e,_,_⟩:=h2;rw[h1]at e;cases e
 |d::r,[],xs,h1,h2=>by rw[bY]at h1;rw[bY]at h2;obtain⟨y,t,e,_,_⟩:=h1;rw[h2]at e;cases e
 |d::r,e::q,xs,h1,h2=>by rw[bY]at h1;rw[bY]at h2;obtain⟨x,t,rfl,g1,g2⟩:=h1;obtain⟨y,w,z,k1,k2⟩:=h2;cases z;rw[Has.inj I g1 k1,bY.inj I g2 k2]
end
theorem pz{A:QE}{a b:Qh}{k:Bool}(h:VP A s (.ref a) (.ref b) k)(hk:a=b->k=true):TY A s (.ref a) (.ref b) k:=by
 by_cases e:a=b
 ·rw[hk e,e];exact VC _
 exact XA e h
noncomputable def Rz(s:Qi):Dt->Qf->Prop
 | .int a,u=>∃t,u=.int a t
 | .bl a,u=>u=.bool a
 | .str a,u=>∃t,u=.str a t
 | .non,u=>u=.none
 | .lst _,u=>∃p its,u=.ref p/\s.heap.IsList p its
 | .tup _,u=>∃p its,u=.ref p/\s.heap.IsTuple p its
noncomputable def knd:Dt->Nat
 | .lst _=>4
 | .tup _=>5
 | _=>0
theorem zF(I:Inv X pins σ H s){d:Dt}{x:V}{u:Qf}(h:Has X.K H d x)(r:RelV x u):Rz s d u:=by
  cases d <;> rw[Has]at h <;> first
    | (obtain⟨p,xs,rfl,s1,_⟩:=h
       cases r
       first
         | (obtain⟨_,_,pl,_⟩:=I.list s1;exact⟨_,_,rfl,pl.isList⟩)
         | (obtain⟨_,_,pl,_⟩:=I.tuple s1;exact⟨_,_,rfl,pl⟩))
    | (subst h;exact r)
theorem yb{A:QE}{d e:Dt}{u v:Qf}(hu:A.units<cLine)(h1:Rz s d u)(h2:Rz s e v)(n:knd d≠knd e\/knd d=0):VP A s u v (eqD d e)/\WN A s u v (!eqD d e)/\TY A s u v (eqD d e):=by
 cases d with
 |int a=>
  obtain⟨_,rfl⟩:=h1;cases e with
  |int b=>obtain⟨_,rfl⟩:=h2;simp only[eqD];exact⟨.int_int _ _ _ _,.int_int _ _ _ _,.int_int _ _ _ _⟩
  |bl b=>cases h2;simp only[eqD];exact⟨.int_bool _ _ _,.int_bool _ _ _,.int_bool _ _ _⟩
  |str b=>obtain⟨_,rfl⟩:=h2;simp only[eqD];exact⟨.int_str _ _ _ _,.int_str _ _ _ _,.int_str _ _ _ _⟩
  |non=>cases h2;simp only[eqD];exact⟨.int_none _ _,.int_none _ _,.int_none _ _⟩
  |lst b=>obtain⟨_,_,rfl,hb⟩:=h2;simp only[eqD];exact⟨.int_list _ _ hb hu,.int_list _ _ hb hu,.int_list _ _ hb hu⟩
  |tup b=>obtain⟨_,_,rfl,hb⟩:=h2;simp only[eqD];exact⟨.int_tuple _ _ hb hu,.int_tuple _ _ hb hu,.int_tuple _ _ hb hu⟩
 |bl a=>
  cases h1;cases e with
  |int b=>obtain⟨_,rfl⟩:=h2;simp only[eqD];exact⟨.bool_int _ _ _,.bool_int _ _ _,.bool_int _ _ _⟩
  |bl b=>cases h2;simp only[eqD];exact⟨.bool_bool _ _,.bool_bool _ _,.bool_bool _ _⟩
  |str b=>obtain⟨_,rfl⟩:=h2;simp only[eqD];exact⟨.bool_str _ _ _,.bool_str _ _ _,.bool_str _ _ _⟩
  |non=>cases h2;simp only[eqD];exact⟨.bool_none _,.bool_none _,.bool_none _⟩
  |lst b=>obtain⟨_,_,rfl,hb⟩:=h2;simp only[eqD];exact⟨.bool_list _ hb hu,.bool_list _ hb hu,.bool_list _ hb hu⟩
  |tup b=>obtain⟨_,_,rfl,hb⟩:=h2;simp only[eqD];exact⟨.bool_tuple _ hb hu,.bool_tuple _ hb hu,.bool_tuple _ hb hu⟩
 |str a=>
  obtain⟨_,rfl⟩:=h1;cases e with
  |int b=>obtain⟨_,rfl⟩:=h2;simp only[eqD];exact⟨.str_int _ _ _ _,.str_int _ _ _ _,.str_int _ _ _ _⟩
  |bl b=>cases h2;simp only[eqD];exact⟨.str_bool _ _ _,.str_bool _ _ _,.str_bool _ _ _⟩
  |str b=>obtain⟨_,rfl⟩:=h2;simp only[eqD];exact⟨.str_str _ _ _ _,.str_str _ _ _ _,.str_str _ _ _ _⟩
  |non=>cases h2;simp only[eqD];exact⟨.str_none _ _,.str_none _ _,.str_none _ _⟩
  |lst b=>obtain⟨_,_,rfl,hb⟩:=h2;simp only[eqD];exact⟨.str_list _ _ hb hu,.str_list _ _ hb hu,.str_list _ _ hb hu⟩
  |tup b=>obtain⟨_,_,rfl,hb⟩:=h2;simp only[eqD];exact⟨.str_tuple _ _ hb hu,.str_tuple _ _ hb hu,.str_tuple _ _ hb hu⟩
 |non=>
  cases h1;cases e with
  |int b=>obtain⟨_,rfl⟩:=h2;simp only[eqD];exact⟨.none_int _ _,.none_int _ _,.none_int _ _⟩
  |bl b=>cases h2;simp only[eqD];exact⟨.none_bool _,.none_bool _,.none_bool _⟩
  |str b=>obtain⟨_,rfl⟩:=h2;simp only[eqD];exact⟨.none_str _ _,.none_str _ _,.none_str _ _⟩
  |non=>cases h2;simp only[eqD];exact⟨.none_none,.none_none,.same _⟩
  |lst b=>obtain⟨_,_,rfl,hb⟩:=h2;simp only[eqD];exact⟨.none_list hb hu,.none_list hb hu,.none_list hb hu⟩
  |tup b=>obtain⟨_,_,rfl,hb⟩:=h2;simp only[eqD];exact⟨.none_tuple hb hu,.none_tuple hb hu,.none_tuple hb hu⟩
 |lst a=>
  obtain⟨_,_,rfl,hl⟩:=h1;cases e with
  |int b=>obtain⟨_,rfl⟩:=h2;simp only[eqD];exact⟨.list_int _ _ hl hu,.list_int _ _ hl hu,.list_int _ _ hl hu⟩
  |bl b=>cases h2;simp only[eqD];exact⟨.list_bool _ hl hu,.list_bool _ hl hu,.list_bool _ hl hu⟩
  |str b=>obtain⟨_,rfl⟩:=h2;simp only[eqD];exact⟨.list_str _ _ hl hu,.list_str _ _ hl hu,.list_str _ _ hl hu⟩
  |non=>cases h2;simp only[eqD];exact⟨.list_none hl hu,.list_none hl hu,.list_none hl hu⟩
  |lst b=>simp[knd]at n
  |tup b=>obtain⟨_,_,rfl,hb⟩:=h2;simp only[eqD];exact⟨.list_tuple hl hb hu,.list_tuple hl hb hu,.list_tuple hl hb hu⟩
 |tup a=>
  obtain⟨_,_,rfl,hl⟩:=h1;cases e with
  |int b=>obtain⟨_,rfl⟩:=h2;simp only[eqD];exact⟨.tuple_int _ _ hl hu,.tuple_int _ _ hl hu,.tuple_int _ _ hl hu⟩
  |bl b=>cases h2;simp only[eqD];exact⟨.tuple_bool _ hl hu,.tuple_bool _ hl hu,.tuple_bool _ hl hu⟩
  |str b=>obtain⟨_,rfl⟩:=h2;simp only[eqD];exact⟨.tuple_str _ _ hl hu,.tuple_str _ _ hl hu,.tuple_str _ _ hl hu⟩
  |non=>cases h2;simp only[eqD];exact⟨.tuple_none hl hu,.tuple_none hl hu,.tuple_none hl hu⟩
  |lst b=>obtain⟨_,_,rfl,hb⟩:=h2;simp only[eqD];exact⟨.tuple_list hl hb hu,.tuple_list hl hb hu,.tuple_list hl hb hu⟩
  |tup b=>simp[knd]at n
theorem zO(I:Inv X pins σ H s):∀(n:Nat) (A:QE) (d e:Dt) (x y:V) (u v:Qf),dpt d<=n->A.units+n<cLine->Has X.K H d x->Has X.K H e y->RelV x u->RelV y v->
  VP A s u v (eqD d e)/\WN A s u v (!eqD d e)/\TY A s u v (eqD d e):=by
 intro n;induction n with
 |zero=>
  intro A d e x y u v hd hA h1 h2 r1 r2;exact yb (by lia) (zF I h1 r1) (zF I h2 r2) (.inr (by cases d <;> first|rfl|(rw[dpt]at hd;lia)))
 |succ n ih=>
  intro A d e x y u v hd hA h1 h2 r1 r2;have hu:A.units<cLine:=by lia
  by_cases k:knd d≠knd e\/knd d=0
  ·exact yb hu (zF I h1 r1) (zF I h2 r2) k
  cases d <;> cases e <;> try (exfalso;simp[knd]at k;done)
  ·rename_i a b;have h1k:=h1;rw[Has]at h1;obtain⟨p,xs,rfl,s1,l1⟩:=h1;cases (show u=QV p from r1);obtain⟨its,rv1,pl1,z1⟩:=I.list s1;have hl:=pl1.isList;have hd':iU a<=n:=by rw[dpt]at hd;lia
   have h2k:=h2;rw[Has]at h2;obtain⟨q,ys,rfl,s2,l2⟩:=h2;cases (show v=QV q from r2);obtain⟨jts,rv2,pl2,z2⟩:=I.list s2;have hb:=pl2.isList;have recc:=uY n (A:=A) (by lia) I l1 l2 rv1 rv2 fun d e x y u v hm hm' g1 g2 k1 k2=>(ih A.in1 d e x y u v (m_ (yr hm) hd') (by show A.units+1+n<cLine;lia) g1 g2 k1 k2).2.2
   have m1:=l1.len;have m2:=l2.len;have v1:=rv1.length;have v2:=rv2.length;have self:p=q->eqD (.lst a) (.lst b)=true:=fun z=>by subst z;rw[Has.inj I h1k h2k];exact jl _
   have ee:eqD (.lst a) (.lst b)=eqL a b:=by rw[eqD]
   by_cases hs:its.toArray.size=jts.toArray.size
   ·have hs':a.length=b.length:=by simp at hs;lia
    have hn:its.toArray.size=a.length:=by simp;lia
    have k1:=XO hl hb hs hu recc;have k2:=XB hl hb hs hu recc;rw[hn,nE a b hs',<-ee]at k1 k2;exact⟨k1,k2,pz k1 self⟩
   have hs':¬a.length=b.length:=by simp at hs;lia
   have hz:(its.toArray.size != jts.toArray.size)=true:=by simpa using hs
   have ef:eqD (.lst a) (.lst b)=false:=by rw[ee];exact M3.mpr fun z=>hs' (tF z)
   have k1:=WO hl hb hz hu;have k2:=Ww hl hb hz hu;rw[<-ef]at k1;refine⟨k1,?_,pz k1 self⟩;rw[ef];exact k2
  rename_i a b;have h1k:=h1;rw[Has]at h1;obtain⟨p,xs,rfl,s1,l1⟩:=h1;cases (show u=QV p from r1);obtain⟨its,rv1,pl1,z1⟩:=I.tuple s1;have hl:s.heap.IsTuple p its.toArray:=pl1;have hd':iU a<=n:=by rw[dpt]at hd;lia
  have h2k:=h2;rw[Has]at h2;obtain⟨q,ys,rfl,s2,l2⟩:=h2;cases (show v=QV q from r2);obtain⟨jts,rv2,pl2,z2⟩:=I.tuple s2;have hb:s.heap.IsTuple q jts.toArray:=pl2;have recc:=uY n (A:=A) (by lia) I l1 l2 rv1 rv2 fun d e x y u v hm hm' g1 g2 k1 k2=>(ih A.in1 d e x y u v (m_ (yr hm) hd') (by show A.units+1+n<cLine;lia) g1 g2 k1 k2).2.2
  have m1:=l1.len;have m2:=l2.len;have v1:=rv1.length;have v2:=rv2.length;have self:p=q->eqD (.tup a) (.tup b)=true:=fun z=>by subst z;rw[Has.inj I h1k h2k];exact jl _
  have ee:eqD (.tup a) (.tup b)=eqL a b:=by rw[eqD]
  have hn:its.toArray.size=a.length:=by simp;lia
  have hn':jts.toArray.size=b.length:=by simp;lia
  have k1:=XF hl hb hu recc;have k2:=Xu hl hb hu recc;rw[hn,hn',vk a b,<-ee]at k1 k2;exact⟨k1,k2,pz k1 self⟩
end
section
variable{X:Cx}
noncomputable def JX(K:Qg)(A:QE)(neg:Bool):R2:=fun x y H Q=>∃d e,Has K H d x/\Has K H e y/\A.units+dpt d<cLine/\Q (.bl (if neg then !eqD d e else eqD d e)) H
theorem C4:OpR X (Q0 .Eq) (JX X.K X.A false):=by intro pins s σ H x y v u Q I rx ry h;obtain⟨d,e,h1,h2,hA,q⟩:=h;exact(zO I (dpt d) X.A d e x y v u (b_ _) hA h1 h2 rx ry).1 _ _ _ _ ⟨.bl (eqD d e),H,I,rfl,q⟩
theorem He:OpR X (Q0 .NotEq) (JX X.K X.A true):=by intro pins s σ H x y v u Q I rx ry h;obtain⟨d,e,h1,h2,hA,q⟩:=h;exact(zO I (dpt d) X.A d e x y v u (b_ _) hA h1 h2 rx ry).2.1 _ _ _ _ ⟨.bl (!eqD d e),H,I,rfl,q⟩
end
structure Cal (P:Qv) (w:Qy) (K:Qg) (mg:Str->Option Qf) (base:Qz) (k:Nat) (x:Str) (ps:List Str) (sp:Sp):Prop where
 ex:∃(f:Qh) (fd:QF),FnOk P w K mg base CX0 k f fd ps sp/\mg x=some (.ref f)/\SN K (.ref f)=true/\Binds K fd ps []
theorem Hr{X:Cx}{j k:Nat}{x:Str}{ps:List Str}{sp:Sp}{e:Qx}{es:List Qx}{t:TA}{p pos:Pos}(D:Cal X.prog X.w X.K X.mg X.base j x ps sp)(hr:Room k X.A)(hg:Gl X x)(ha:PA X (e::es) t)(hjk:j<=k:=by omega)(hdb:(x ==("__debug__":Str))=false:=by decide)
  (he:QA (e::es) X.env=(false,QO e X.env)::QA es X.env:=by rfl) (hpl:(Si pos (QA es X.env)).any (·.1)=false:=by rfl):PE X (.Call (.Name x p) (e::es) [] pos) (CK sp [] E0 t):=by
 obtain⟨f,fd,F,hm,hk,hb⟩:=D.ex;exact Es F (hr.mono hjk) hg hm hk hb .nil Jo ha hdb he hpl
theorem Cal.imp {P:Qv}{w:Qy}{K:Qg}{mg:Str->Option Qf}{base:Qz}{k:Nat}{x:Str}{ps:List Str}{sp sp':Sp}(D:Cal P w K mg base k x ps sp)(h:∀vs H Q E,sp' vs H Q E->sp vs H Q E):Cal P w K mg base k x ps sp':=by obtain⟨f,fd,F,r⟩:=D.ex;exact⟨f,fd,F.imp h,r⟩
structure Dfn (K:Qg) (mg:Str->Option Qf) (x:Str) (st:QR) (ps:List Str):Prop where
 ex:∃(f:Qh) (fd:QF),Fun K x x st f fd/\mg x=some (.ref f)/\Binds K fd ps []
theorem Dfn.cal {P:Qv}{w:Qy}{K:Qg}{mg:Str->Option Qf}{base:Qz}{k:Nat}{x:Str}{st:QR}{ps:List Str}{sp:Sp}(D:Dfn K mg x st ps)(h:∀f fd,Fun K x x st f fd->FnOk P w K mg base CX0 k f fd ps sp):Cal P w K mg base k x ps sp:=by obtain⟨f,fd,F,hm,hb⟩:=D.ex;exact⟨f,fd,h f fd F,hm,F.kp,hb⟩
theorem bI.ck {H:Hp}:bI H H:=fun _ _ e=>e
theorem bI.trans' {H H1 H2:Hp}(a:bI H H1)(b:bI H1 H2):bI H H2:=fun c o e=>b c o (a c o e)
theorem bF{H:Hp}{p:Qh}(h:H p=none)(o:HO):bI H (upd H p o):=fun b u q=>by rw[aM (bK q h)];exact q
theorem bI.none {H H':Hp}(a:bI H H'){p:Qh}(h:H' p=none):H p=none:=by
 cases e:H p with
 |none=>rfl
 |some o=>rw[a p o e]at h;cases h
noncomputable def Kp(a c:Qh)(H H':Hp):Prop:=∀b o,H b=some o->b≠a->b≠c->H' b=some o
theorem yv{n:Nat}{i:Int}(h0:0<=i)(h1:i<(n:Int)):ixN n i=some i.toNat:=by unfold ixN;rw[if_pos h0,if_pos h1]
theorem DS{α:Type}{xs:List α}{i:Int}{v:α}(h0:0<=i)(hv:xs[i.toNat]?=some v):atI xs i=some v:=by have h1:i.toNat<xs.length:=(d_.mp hv).1;unfold atI;rw[yv h0 (by omega)];exact hv
theorem Bx{ns:List Int}{i:Int}(h0:0<=i)(h1:i<(ns.length:Int)):atI (ns.map V.int) i=some (.int (ns.getD i.toNat 0)):=by
 have h2:i.toNat<ns.length:=by omega
 refine DS h0 ?_;rw[D_,c_ h2,LB,c_ h2]
 rfl
theorem Ig{K:Qg}{b:Bool}{H:Hp}{p:Qh}{xs:List V}{i:Int}{v:V}{Q:VK}(h:SqG b K H p xs)(hv:atI xs i=some v)(q:Q v H):rIx K (.ref p) (.int i) H Q:=by
 cases b with
 |true=>exact .inr (.inl ⟨p,xs,i,v,rfl,rfl,h,hv,q⟩)
 |false=>exact .inl ⟨p,xs,i,v,rfl,rfl,h,hv,q⟩
theorem JQ{A B:Prop}{b:Bool}(h1:b=true->A)(h2:b=false->B):if b=true then A else B:=by
 cases b with
 |true=>exact L6 (h1 rfl)
 |false=>exact KH (h2 rfl)
theorem CJ{X:Cx}{N ps:List Str}{esc:Rc}(S:FnScope N ps esc)(N':List Str)(fr:List (Option Nat))(nd:N'.Nodup){elt target iter:Qx}{ifs:List Qx}{sc:Rc}{pos:Pos}{wi:TI}{g:Qi->Hp->List Qh->TG}{tt:Qi->Hp->List Qh->TT}{te:Qi->Hp->List Qh->TE}(C:jj N esc sc N' fr=true)
  (hi:PI X target iter wi) (hg:∀s3 H3 fp,PG (aV X N' sc s3 H3 fp) target (g s3 H3 fp)) (ht:∀s3 H3 fp,PTs (aV X N' sc s3 H3 fp) ifs (tt s3 H3 fp)) (he:∀s3 H3 fp,PE (aV X N' sc s3 H3 fp) elt (te s3 H3 fp))
  (hc:X.calm=true:=by rfl) (hN:X.N=N:=by rfl) (hS:X.env.scope=esc:=by rfl) (hs:∀x,Q_ iter X.env x=pure x:=by intro _;rfl):PE X (.ListComp elt [⟨target,iter,ifs,0⟩] sc pos) (yw wi fr g tt te):=
 zQ N' fr hc (by rw[hN,hS];exact C) hi hg ht he hs
noncomputable def Its(K:Qg)(b:Bool)(a:Qh):It:=match b with
 |true=>Itt K a
 |false=>Itl K a
noncomputable def iSq(K:Qg)(tl:TE):TI:=fun σ H R=>tl σ H fun x H1=>∃b a xs,x=.ref a/\SqG b K H1 a xs/\R (Its K b a) H1
theorem GK{X:Cx}{tg l:Qx}{tl:TE}(hl:PE X l tl):PI X tg l (iSq X.K tl):=by
 intro pins s σ H R I h;refine thn (hl pins s σ H _ I h) ?_;rintro v s1 ⟨x,H1,I1,r1,q1⟩;obtain⟨b,a,xs,rfl,hq,q⟩:=q1;cases r1;cases b with
 |true=>
  obtain⟨its,rv,p,hz⟩:=I1.tuple hq;refine RB (show s1.heap.IsTuple a its.toArray from p) ⟨s1.heap.objs.size,[s1.heap.objs.size],_,_,H1,rfl,I1.kept (t':=s1.toks) fun b o e=>Qk _ e,xm a _,⟨_,Qo _ rfl,rfl,rfl⟩,fun b hb=>?_,q⟩;have e:b=s1.heap.objs.size:=by simpa using hb
  subst e;exact I1.wN (b_ _) (I1.hok.fresh (b_ _))
 |false=>
  obtain⟨its,rv,p,hz⟩:=I1.list hq;refine RD p.isList ⟨s1.heap.objs.size,[s1.heap.objs.size],_,_,H1,rfl,I1.kept (t':=s1.toks) fun b o e=>Qk _ e,Aj a _,⟨_,Qo _ rfl,rfl,rfl⟩,fun b hb=>?_,q⟩;have e:b=s1.heap.objs.size:=by simpa using hb
  subst e;exact I1.wN (b_ _) (I1.hok.fresh (b_ _))
theorem DQ{K:Qg}{b:Bool}{a:Qh}{xs:List V}{H1 H' H2:Hp}{i:Nat}{v:V}(h1:SqG b K H1 a xs)(s:bI H1 H')(h:(Its K b a).yld i H' v H2):H2=H'/\xs[i]?=some v:=by
 cases b with
 |true=>exact⟨h.1,h.2 xs (SqG.same s h1)⟩
 |false=>exact⟨h.1,h.2 xs (SqG.same s h1)⟩
theorem Gy{K:Qg}{b:Bool}{a:Qh}{xs:List V}{H1:Hp}(h1:SqG b K H1 a xs){n:Nat}(hx:xs.length=n):∀i H',bI H1 H'->i<n->(Its K b a).go i H':=fun i H' s hi=>by
 cases b with
 |true=>exact⟨xs,xs[i]'(by lia),SqT.same s h1,c_ _⟩
 |false=>exact⟨xs,xs[i]'(by lia),SqL.same s h1,c_ _⟩
theorem Bh{K:Qg}{b:Bool}{a:Qh}{xs:List V}{H1:Hp}(h1:SqG b K H1 a xs){n:Nat}(hx:xs.length=n):∀H',bI H1 H'->(Its K b a).stop n H':=fun H' s=>by
 cases b with
 |true=>exact⟨xs,SqT.same s h1,by lia⟩
 |false=>exact⟨xs,SqL.same s h1,by lia⟩
noncomputable def New(o:HO)(H:Hp)(Q:VK):Prop:=∀p H',H p=none->bI H H'->H' p=some o->Q (.ref p) H'
theorem New.at {o:HO}{H:Hp}{Q:VK}(h:New o H Q){p:Qh}(hp:H p=none):Q (.ref p) (upd H p o):=h p _ hp (bF hp o) aN
section
variable{X:Cx}{es:List Qx}{t:TA}{pos:Pos}
noncomputable def Jk(t:TA):TE:=fun σ H Q=>t σ H fun xs H1=>xs.length<=sizeLine/\New (.tup xs) H1 Q
noncomputable def Kb(t:TA):TE:=fun σ H Q=>t σ H fun xs H1=>xs.length<=sizeLine/\New (.lst xs) H1 Q
theorem EH{x1}(h:PA X es t):PE X (.Tuple es x1 pos) (Jk t):=by intro pins s σ H Q I hq;refine wpAny_Tuple_spliced (thn (h pos pins s σ H _ I hq) fun us s1 ⟨xs,H1,I1,r,z,q⟩=>⟨by rw[<-r.length];exact z,?_⟩);refine⟨.ref s1.heap.objs.size,upd H1 s1.heap.objs.size (.tup xs),I1.laid (t':=s1.toks) (fun b u e=>Qk _ e) (b_ _) ⟨z,us,r,⟨_,Qo _ rfl,rfl,_,rfl⟩⟩,rfl,q.at (I1.hok.fresh (b_ _))⟩
theorem DJ(h:PA X es t):PE X (.List es pos) (Kb t):=by intro pins s σ H Q I hq;refine U4 (thn (h pos pins s σ H _ I hq) fun us s1 ⟨xs,H1,I1,r,z,q⟩=>⟨by rw[<-r.length];exact z,?_⟩);refine⟨.ref s1.heap.objs.size,upd H1 s1.heap.objs.size (.lst xs),I1.laid (t':=s1.toks) (fun b u e=>Qk _ e) (b_ _) ⟨z,us,0,r,Qo _ rfl⟩,rfl,q.at (I1.hok.fresh (b_ _))⟩
theorem bE.imp {f:Qf}{r r':List V->Hp->VK->Prop}(h:bE X f r)(k:∀vs H Q,r' vs H Q->r vs H Q):bE X f r':=fun pins s σ H xs us Q I rv q=>h pins s σ H xs us Q I rv (k _ _ _ q)
theorem OpR.imp {f:Qf->Qf->Sem Qf}{r r':R2}(h:OpR X f r)(k:∀x y H Q,r' x y H Q->r x y H Q):OpR X f r':=fun pins s σ H x y v u Q I rx ry q=>h pins s σ H x y v u Q I rx ry (k _ _ _ _ q)
theorem xV:bE X (.type "list") (fun xs H Q=>∃b p ys,xs=[.ref p]/\SqG b X.K H p ys/\New (.lst ys) H Q):=mL.imp fun vs H Q ⟨b,p,ys,e,h,q⟩=>by
 refine⟨p,ys,e,?_,fun l hl=>q.at hl⟩;cases b with
 |true=>exact .inr h
 |false=>exact .inl h
theorem va:bE X (.type "tuple") (fun xs H Q=>∃p ys,xs=[.ref p]/\SqL X.K H p ys/\New (.tup ys) H Q):=r6.imp fun vs H Q ⟨p,ys,e,h,q⟩=>⟨p,ys,e,.inl ⟨h,fun l hl=>q.at hl⟩⟩
theorem Ap:bE X (.builtin "len") (fun xs H Q=>∃b p ys,xs=[.ref p]/\SqG b X.K H p ys/\Q (.int ys.length) H):=mD.imp fun vs H Q ⟨b,p,ys,e,h,q⟩=>by
 refine⟨p,ys,e,?_,q⟩;cases b with
 |true=>exact .inr h
 |false=>exact .inl h
noncomputable def KY(K:Qg):R2:=fun x y H Q=>∃b p xs i v,x=.ref p/\y=.int i/\SqG b K H p xs/\atI xs i=some v/\Q v H
theorem L3:IxR X (KY X.K):=fun value slice pins s σ H x y v u Q I rx ry ⟨b,p,xs,i,z,e1,e2,hq,ha,q⟩ hs=>by subst e1 e2;exact Gj value slice pins s σ H (.ref p) (.int i) v u Q I rx ry (Ig hq ha q) hs
end
noncomputable def iP(ns:List Int)(r:Int):Prop:=r∈ns/\∀x∈ns,r<=x
noncomputable def iR(ns:List Int)(r:Int):Prop:=r∈ns/\∀x∈ns,x<=r
theorem dP:∀{ns:List Int}{us:List Qf},Vals (ns.map V.int) us->∃ps:List (Int×Tok),us=ps.map (fun p=>RX p.1 p.2)/\ps.map (·.1)=ns
 | [],_,.nil=>⟨[],rfl,rfl⟩
 |n::r,_,.cons h t=>by obtain⟨ps,e1,e2⟩:=dP t;obtain⟨tk,e⟩:=h;exact⟨(n,tk)::ps,by rw[e,e1];rfl,by rw[<-e2];rfl⟩
theorem dH{ps:List (Int×Tok)}{ns:List Int}(e:ps.map (·.1)=ns){i:Nat}(hi:i<ns.length):Sn ps.toArray i=ns[i]:=by
 subst e;have h2:i<ps.length:=by simpa using hi
 simp[Sn,h2]
section
variable{X:Cx}
theorem zX(hc:X.calm=true):bE X (.builtin "min") (fun xs H Q=>∃a ns,xs=[.ref a]/\SqL X.K H a (ns.map V.int)/\ns≠[]/\∀r,iP ns r->Q (.int r) H):=by
 intro pins s σ H xs us Q I r h;obtain⟨a,ns,rfl,hq,hne,q⟩:=h;obtain⟨u,rfl,ru⟩:=vals1 r;cases ru;obtain⟨its,rv,p,z⟩:=I.list hq;obtain⟨ps,e1,e2⟩:=dP rv;subst e1;have hl:s.heap.IsList a (Q4 ps.toArray):=by
  have e:Q4 ps.toArray=(ps.map fun p=>RX p.1 p.2).toArray:=by simp[Q4]
  rw[e];exact p.isList
 have hlen:ps.length=ns.length:=by rw[<-e2];simp
 have hpos:0<ns.length:=LM fun z=>hne (LD z);refine min_intList (I.ok.hd hc) hl (by simp;lia) fun v h' tk hv hk=>?_
 obtain⟨tv,rfl⟩:=S0 hv;obtain⟨b1,b2⟩:=argBest_lt (Sn ps.toArray) (ps.toArray.size-1);have hi:V_ (fun i j=>decide (Sn ps.toArray i<Sn ps.toArray j)) (ps.toArray.size-1)<ns.length:=by simp at b1 ⊢;lia
 refine⟨.int _,H,I.kept (t':=tk) hk,⟨tv,rfl⟩,q _ ⟨?_,fun x hx=>?_⟩⟩
 ·rw[dH e2 hi];exact LY hi
 obtain⟨j,hj,rfl⟩:=LF.mp hx;have:=b2 j (by simp;lia);rw[dH e2 hj]at this;exact this
theorem Ai(hc:X.calm=true):bE X (.builtin "max") (fun xs H Q=>∃a ns,xs=[.ref a]/\SqL X.K H a (ns.map V.int)/\ns≠[]/\∀r,iR ns r->Q (.int r) H):=by
 intro pins s σ H xs us Q I r h;obtain⟨a,ns,rfl,hq,hne,q⟩:=h;obtain⟨u,rfl,ru⟩:=vals1 r;cases ru;obtain⟨its,rv,p,z⟩:=I.list hq;obtain⟨ps,e1,e2⟩:=dP rv;subst e1;have hl:s.heap.IsList a (Q4 ps.toArray):=by
  have e:Q4 ps.toArray=(ps.map fun p=>RX p.1 p.2).toArray:=by simp[Q4]
  rw[e];exact p.isList
 have hlen:ps.length=ns.length:=by rw[<-e2];simp
 have hpos:0<ns.length:=LM fun z=>hne (LD z);refine max_intList (I.ok.hd hc) hl (by simp;lia) fun v h' tk hv hk=>?_
 obtain⟨tv,rfl⟩:=S0 hv;obtain⟨b1,b2⟩:=argBest_gt (Sn ps.toArray) (ps.toArray.size-1);have hi:V_ (fun i j=>decide (Sn ps.toArray i > Sn ps.toArray j)) (ps.toArray.size-1)<ns.length:=by simp at b1 ⊢;lia
 refine⟨.int _,H,I.kept (t':=tk) hk,⟨tv,rfl⟩,q _ ⟨?_,fun x hx=>?_⟩⟩
 ·rw[dH e2 hi];exact LY hi
 obtain⟨j,hj,rfl⟩:=LF.mp hx;have:=b2 j (by simp;lia);rw[dH e2 hj]at this;exact this
theorem Aq(hc:X.calm=true):bE X (.builtin "max") (fun xs H Q=>∃i j k,xs=[.int i,.int j,.int k]/\∀r,i<=r->j<=r->k<=r->(r=i\/r=j\/r=k)->Q (.int r) H):=by
 intro pins s σ H xs us Q I r h;obtain⟨i,j,k,rfl,q⟩:=h;cases r with
 |cons r1 rr=>
  cases rr with
  |cons r2 rr=>
   cases rr with
   |cons r3 rr=>
    cases rr;obtain⟨t1,rfl⟩:=r1;obtain⟨t2,rfl⟩:=r2;obtain⟨t3,rfl⟩:=r3;refine max_three_ints (I.ok.hd hc) fun h' tk hk=>?_;have fin:∀(r:Int) (t:Tok),i<=r->j<=r->k<=r->(r=i\/r=j\/r=k)->EP X pins σ Q (.int r t) {s with heap:=h',toks:=tk}:=fun r t a b c d=>⟨.int r,H,I.kept (t':=tk) hk,⟨t,rfl⟩,q r a b c d⟩;split
    ·split
     ·exact fin _ _ (by lia) (by lia) (by lia) (by lia)
     exact fin _ _ (by lia) (by lia) (by lia) (by lia)
    split
    ·exact fin _ _ (by lia) (by lia) (by lia) (by lia)
    exact fin _ _ (by lia) (by lia) (by lia) (by lia)
theorem Ao(hc:X.calm=true):bE X (.builtin "min") (fun xs H Q=>∃i j k,xs=[.int i,.int j,.int k]/\∀r,r<=i->r<=j->r<=k->(r=i\/r=j\/r=k)->Q (.int r) H):=by
 intro pins s σ H xs us Q I r h;obtain⟨i,j,k,rfl,q⟩:=h;cases r with
 |cons r1 rr=>
  cases rr with
  |cons r2 rr=>
   cases rr with
   |cons r3 rr=>
    cases rr;obtain⟨t1,rfl⟩:=r1;obtain⟨t2,rfl⟩:=r2;obtain⟨t3,rfl⟩:=r3;refine min_three_ints (I.ok.hd hc) fun h' tk hk=>?_;have fin:∀(r:Int) (t:Tok),r<=i->r<=j->r<=k->(r=i\/r=j\/r=k)->EP X pins σ Q (.int r t) {s with heap:=h',toks:=tk}:=fun r t a b c d=>⟨.int r,H,I.kept (t':=tk) hk,⟨t,rfl⟩,q r a b c d⟩;split
    ·split
     ·exact fin _ _ (by lia) (by lia) (by lia) (by lia)
     exact fin _ _ (by lia) (by lia) (by lia) (by lia)
    split
    ·exact fin _ _ (by lia) (by lia) (by lia) (by lia)
    exact fin _ _ (by lia) (by lia) (by lia) (by lia)
end
section
variable{X:Cx}{a b c d:Qx}{ta tb tc td:TE}{pos:Pos}
theorem AN:SlR X (fun x lo hi H Q=>∃a xs,x=.ref a/\SqL X.K H a xs/\New (.lst (ju xs lo hi)) H Q):=fun pins s σ H x v vl vu lo hi sl Q I rx hs pl pu ⟨a,xs,e,h,q⟩=>yK pins s σ H x v vl vu lo hi sl Q I rx hs pl pu ⟨a,xs,e,h,fun p hp=>q.at hp⟩
theorem zG:SlR X (fun x lo hi H Q=>∃a xs,x=.ref a/\SqT X.K H a xs/\¬(HT.sIx xs.length 0 lo=0/\HT.sIx xs.length xs.length hi=xs.length)/\New (.tup (ju xs lo hi)) H Q):=fun pins s σ H x v vl vu lo hi sl Q I rx hs pl pu ⟨a,xs,e,h,hw,q⟩=>IB pins s σ H x v vl vu lo hi sl Q I rx hs pl pu ⟨a,xs,e,h,hw,fun p hp=>q.at hp⟩
end
structure Put (H:Hp) (p:Qh) (o:HO) (H':Hp):Prop where
 at_:H' p=some o
 else_:∀b,b≠p->H' b=H b
theorem Put.up {H:Hp}{p:Qh}{o:HO}:Put H p o (upd H p o):=⟨aN,fun b h=>aM h⟩
section
variable{X:Cx}
theorem xn.imp {t t':DE}(h:xn X t)(k:∀o i v H Q,t' o i v H Q->t o i v H Q):xn X t':=fun pins s σ H o i v ov iv u Q I r1 r2 r3 q=>h pins s σ H o i v ov iv u Q I r1 r2 r3 (k _ _ _ _ _ q)
theorem Ag:xn X (fun o i v H Q=>∃p xs k j,o=.ref p/\i=.int k/\H p=some (.lst xs)/\ixN xs.length k=some j/\∀H',Put H p (.lst (xs.set j v)) H'->Q H'):=set_list.imp fun o i v H Q ⟨p,xs,k,j,e1,e2,h,hj,q⟩=>⟨p,xs,k,j,e1,e2,h,hj,q _ Put.up⟩
end
section
variable{M:Se}{A:QE}{E:Qf->Qi->Prop}{s:Qi}{env:Env}
theorem mW{e:Qx}{scope:Rc}{pos:Pos}{newAcc first:Sem Qf}{g:TM}{gs:List TM}{u:Qf->Sem Unit}{Q:Qf->Qi->Prop}
  (hcl:clausesOf e=g::gs) (hs:∀x,Q_ g.iter env x=pure x)
  (hc:∀x∈scope.names,x.2≠.cell) (hfr:∀x∈scope.names,x.2=.free->∃c,env.cells.lookup x.1=some c) (hkind:scope.kind=.function) (hnames:∀x∈scope.names,x.2=.local->scope.names.lookup x.1=some .local)
  (h:Qn M A first (fun x s₁=>Qn M A (Tc x) (fun it s₂=>Qn M A newAcc (fun acc s₃=>
   ∀h4,h4.Ns s₃.heap.objs.size (fun _=>none)->(∀b o,s₃.heap.get? b=some o->h4.get? b=some o)->
    R7 M A (.compStart e 0 it acc (L2.compEnv env scope s₃.heap.objs.size)) (fun r s'=>match r with
     | .ok _=>Qn M A (u acc) (fun _ s''=>∃m,s''.heap.Ns s₃.heap.objs.size m/\∀h',Q7 s₃.heap.objs.size s''.heap h'->Q .none {s'' with heap:=h'}) E s'
     | .error x=>False) { s₃ with heap:=h4}) E s₂) E s₁) E s) :
  Qn M A (S5 e scope env pos newAcc false first (some u)) Q E s:=by
 unfold S5;rw[qb hfr,hcl];refine Qe (QM h (fun x s₁ h₁=>Qe (S3 (Qe (Sx (hs x) (Qe (QK (QM h₁ (fun it s₂ h₂=>
  Wv (Qe (QM h₂ (fun acc s₃ h₃=>Qe (Qj (Qe ?_))) fun _ _ h'=>h'))) fun _ _ h'=>h'))))))) fun _ _ h'=>h')
 refine UP hc (fun x hx=>nomatch hx) (fun h4 hn4 hs4=>?_) hkind;have h₄:=h₃ h4 hn4 fun b o e=>hs4.extBut b o (x_ (Qr e)) (Qk _ e);dsimp only;have hv:∀x∈(scope.names.filter fun x=>(x.2 == .local || x.2 == .cell)&&x.1 !=(".0":Str)).reverse,x.2=.local->
   VO (L2.compEnv env scope s₃.heap.objs.size) x.1=some .local:=fun x hx hl=>by
  show(pJ env scope).names.lookup x.1=some .local;rw[mG,hnames x (J_.mp (MO.mp hx)).1 hl]
  rfl
 have hv':∀x∈(scope.names.filter fun x=>(x.2 == .local || x.2 == .cell)&&x.1 !=(".0":Str)).reverse.drop 1++(scope.names.filter fun x=>(x.2 == .local || x.2 == .cell)&&x.1 !=(".0":Str)).reverse.take 1,
   x.2=.local->VO (L2.compEnv env scope s₃.heap.objs.size) x.1=some .local:=fun x hx hl=>
  (v_.mp hx).elim (fun z=>hv x (Nd z) hl) fun z=>hv x (Ml z) hl
 refine QK (Qe (Rw (QK (wpAny_run (RZ h₄ fun r s' hr=>?_)))));cases r with
 |ok f=>
  refine Qe (RV (Qe (QK (QM hr (fun _ s'' hr'=>?_) fun _ _ h'=>h'))));obtain⟨m,hn,hr'⟩:=hr';exact Qe (Vx (cenv:=L2.compEnv env scope s₃.heap.objs.size) hkind _ s'' m hv' hn fun h' m' _ hs'=>Qj (hr' h' hs'))
 |error x=>exact hr.elim
end
theorem ED{X:Cx}{N ps:List Str}{esc:Rc}(S:FnScope N ps esc){i:Nat}{x:Str}{pos pos':Pos}(N':List Str)(fr:List (Option Nat))(nd:N'.Nodup){elt target iter:Qx}{ifs:List Qx}{sc:Rc}{pos2:Pos}{wi:TI}{g:Qi->Hp->List Qh->TG}{tt:Qi->Hp->List Qh->TT}{te:Qi->Hp->List Qh->TE}(C:jj N esc sc N' fr=true)
  (hi:X.N[i]?=some x) (hx:Loc X.env.scope x) (hit:PI X target iter wi) (hg:∀s3 H3 fp,PG (aV X N' sc s3 H3 fp) target (g s3 H3 fp)) (ht:∀s3 H3 fp,PTs (aV X N' sc s3 H3 fp) ifs (tt s3 H3 fp)) (he:∀s3 H3 fp,PE (aV X N' sc s3 H3 fp) elt (te s3 H3 fp))
  (hsw:S8 (.ListComp elt [⟨target,iter,ifs,0⟩] sc pos2) (some (.Name x pos')) pos.line X.env=pure true) (hf:X.fn x=true:=by rfl)
  (hc:X.calm=true:=by rfl) (hN:X.N=N:=by rfl) (hS:X.env.scope=esc:=by rfl) (hs:∀x,Q_ iter X.env x=pure x:=by intro _;rfl):PS X (.Assign [.Name x pos'] (.ListComp elt [⟨target,iter,ifs,0⟩] sc pos2) pos) (DR (yw wi fr g tt te) (yz i)):=by
 have C:CompOk X.N X.env.scope sc N' fr:=sh (by rw[hN,hS];exact C);have hNd:X.N.Nodup:=by rw[hN];exact S.nd
 intro pins s σ H D I h;rw[exec_Assign_Name_used _ _ _ _ hsw];refine Qe (S3 (Qe ?_));show Qn _ X.A (do let _ <-S5 (.ListComp elt [⟨target,iter,ifs,0⟩] sc pos2) sc X.env _ (newList []) false (QO iter X.env) (some (SW (.Name x pos') X.env))) _ _ s;have hfr:∀x∈sc.names,x.2=.free->∃c,X.env.cells.lookup x.1=some c:=fun x hx e=>I.ok.has x.1 (.inl (C.free x hx e));refine Qe (QM (mW (g:=⟨target,iter,ifs,0⟩) (gs:=[]) (Q:=fun _ s'=>SP X pins D .next s') rfl hs C.nocell hfr C.kind C.names ?_) (fun _ s' hq=>Qj (Qj hq)) fun _ _ e=>e);refine thn (hit pins s σ H _ I h) fun v s1 h1=>thn h1 fun itv s2 h2=>?_;obtain⟨it,fp,tn,J,H2,e,I2,T,st2,f2,k2⟩:=h2;subst e;refine R8 ?_ (by show 0<=sizeLine;decide);have hfree:H2 s2.heap.objs.size=none:=I2.hok.fresh (b_ _);obtain⟨W,⟨m0,w0⟩,turn⟩:=k2 _ hfree {s2 with heap:=s2.heap.push { cls:=.type "list",data:=.seq ([]:List Qf).toArray} } (upd H2 s2.heap.objs.size (.lst [])) fp;have kp:∀b u,s2.heap.get? b=some u->(s2.heap.push { cls:=.type "list",data:=.seq ([]:List Qf).toArray}).get? b=some u:=fun b u e=>Qk _ e;have I3:Inv X pins σ (upd H2 s2.heap.objs.size (.lst [])) {s2 with heap:=s2.heap.push { cls:=.type "list",data:=.seq ([]:List Qf).toArray} }:=
  I2.laid (t':=s2.toks) kp (b_ _) ⟨B_ _,[],0,.nil,Qo _ rfl⟩
 have obj2:=T.obj 0 s2.heap st2;have fpne:∀b∈fp,b≠s2.heap.objs.size:=fun b hb=>by obtain⟨o,ho,_⟩:=obj2 b hb;exact x_ (Qr ho)
 have f3:∀b∈fp,mT X pins (upd H2 s2.heap.objs.size (.lst [])) b:=fun b hb=>⟨by rw[aM (fpne b hb)];exact(f2 b hb).1,(f2 b hb).2⟩
 have st3:=T.keep 0 s2.heap _ st2 fun b hb o e=>kp b o e;have obj3:=T.obj 0 _ st3;intro h4 hn4 hk4;have st4:=T.keep 0 _ h4 st3 fun b hb o e=>hk4 b o e;have I4:=vm (N':=N') (fr:=fr) (fp:=fp) I3 C hc f3 (fun b hb=>let ⟨o,ho,_⟩:=obj3 b hb;⟨o,ho⟩) hn4 hk4;have stat:∀{H':Hp},(∀b∈fp,H' b=none)->∀b∈fp,mT (aV X N' sc {s2 with heap:=s2.heap.push { cls:=.type "list",data:=.seq ([]:List Qf).toArray} } (upd H2 s2.heap.objs.size (.lst [])) fp) [] H' b:=fun hn b hb=>
  ⟨hn b hb,(I4.ok.exf b hb).1,I4.ok.exfs b hb,.inl hb,(I4.ok.exf b hb).2,fun p hp=>(nomatch hp)⟩
 have loop:R7 (Qs X.prog X.w) X.A (.compLoop (.ListComp elt [⟨target,iter,ifs,0⟩] sc pos2) 0 (.ref it) (.ref s2.heap.objs.size) (L2.compEnv X.env sc (s2.heap.push { cls:=.type "list",data:=.seq ([]:List Qf).toArray}).objs.size))
   (fun r s'=>match r with
    | .ok _=>Qn (Qs X.prog X.w) X.A (SW (.Name x pos') X.env (.ref s2.heap.objs.size)) (fun _ s''=>∃m,s''.heap.Ns (s2.heap.push { cls:=.type "list",data:=.seq ([]:List Qf).toArray}).objs.size m/\∀h',Q7 (s2.heap.push { cls:=.type "list",data:=.seq ([]:List Qf).toArray}).objs.size s''.heap h'->SP X pins D .next {s'' with heap:=h'}) X.xe s'
    | .error x=>False) {s2 with heap:=h4}:=by
  refine oh (fun n s'=>∃i σ' H',Inv (aV X N' sc {s2 with heap:=s2.heap.push { cls:=.type "list",data:=.seq ([]:List Qf).toArray} } (upd H2 s2.heap.objs.size (.lst [])) fp) [] σ' H' s'/\tn i s'.heap/\(∀b∈fp,H' b=none)/\W i n σ' H') ?_ m0
   ⟨0,_,_,I4,st4,fun b hb=>(f3 b hb).1,w0⟩
  rintro n s5 ⟨j,σ5,H5,I5,st5,fr5,w5⟩;rcases turn j n σ5 H5 w5 with⟨stop,q⟩|⟨go,step⟩
  ·refine thn (T.done (aV X N' sc _ _ fp) rfl rfl rfl rfl j [] s5 σ5 H5 (fun _ _=>False) I5 (stat fr5) st5 stop) ?_;rintro r s6 ⟨hr,I6⟩;subst hr;obtain⟨m6,hn6,_⟩:=id I6.loc;have hL:H5 (s2.heap.push { cls:=.type "list",data:=.seq ([]:List Qf).toArray}).objs.size=none:=I6.free;have I7:Inv X pins σ H5 s6:=I3.FE (s':=s6) (ch:=fp) I6.os I6.base I6.hok I6.bare (fun b hb=>by obtain⟨_,g1,g2,g3,g4,g5⟩:=f3 b hb;exact⟨g3,g1,g4,g5⟩)
   have Lne:(s2.heap.push { cls:=.type "list",data:=.seq ([]:List Qf).toArray}).objs.size≠X.env.locals:=M6 I3.lt;have cne:∀y c,X.env.cells.lookup y=some c->c≠(s2.heap.push { cls:=.type "list",data:=.seq ([]:List Qf).toArray}).objs.size:=fun y c e=>by obtain⟨v',z⟩:=I3.cell y c e;exact x_ z.lt
   refine Ve (rS (v:=.ref s2.heap.objs.size) I7 hNd hi hx rfl (fun s8 I8 ⟨a8,sb8,ha8⟩=>?_) (.inl hf));refine⟨m6,hn6.sameBut sb8 (fun z=>ha8.elim (fun w'=>Lne (z.trans w')) fun w'=>cne _ _ w' z.symm),fun h' hs'=>⟨_,H5,?_,q⟩⟩;refine I8.turned (it:=(s2.heap.push { cls:=.type "list",data:=.seq ([]:List Qf).toArray}).objs.size) (t':=s8.toks) (fun b o hb e=>(hs'.2 b hb).trans e) hL Lne (.inr I3.sz) cne fun p hp z=>?_;have lt:=Qr (I3.pin p hp).1;rw[z]at lt;exact Ms _ lt
  refine thn (T.item (aV X N' sc _ _ fp) rfl rfl rfl rfl j [] s5 σ5 H5 (fun _ _=>False) I5 (stat fr5) st5 go) ?_;rintro r s6 ⟨u,hr,h6⟩;subst hr;refine thn h6 ?_;rintro _ s7 ⟨y,H7,I7,r7,y7,st7,fr7⟩;have I7':=I7.pinned (stat fr7) (T.obj _ _ st7);have again:∀{σ8:St}{H8:Hp}{s8:Qi},Inv (aV X N' sc {s2 with heap:=s2.heap.push { cls:=.type "list",data:=.seq ([]:List Qf).toArray} } (upd H2 s2.heap.objs.size (.lst [])) fp) ([]++nD fp s7.heap) σ8 H8 s8->(∃m',m'<n/\W (j+1) m' σ8 H8)->
    ∃m,m<n/\∃i σ' H',Inv (aV X N' sc {s2 with heap:=s2.heap.push { cls:=.type "list",data:=.seq ([]:List Qf).toArray} } (upd H2 s2.heap.objs.size (.lst [])) fp) [] σ' H' s8/\tn i s8.heap/\(∀b∈fp,H' b=none)/\W i m σ' H':=fun{σ8 H8 s8} I8 ⟨m',hm,w8⟩=>by
   refine⟨m',hm,j+1,σ8,H8,I8.jc,T.keep _ _ _ st7 fun b hb o e=>(I8.pin (b,o) (o_ _ (o_ _ (dq hb e)))).1,fun b hb=>?_,w8⟩;obtain⟨o,e,d⟩:=T.obj _ _ st7 b hb;exact(I8.pin (b,o) (o_ _ (o_ _ (dq hb e)))).2.1
  refine thn (hg _ _ fp _ s7 σ5 H7 y u _ I7' r7 (step y H7 y7)) ?_;rintro _ s8 ⟨σ8,H8,I8,q8⟩;refine thn (ht _ _ fp _ s8 σ8 H8 _ I8 q8) ?_;rintro ok s9 ⟨H9,I9,q9⟩;cases ok with
  |false=>exact again I9 q9
  |true=>
   refine thn (he _ _ fp _ s9 σ8 H9 _ I9 q9) ?_;rintro y s10 ⟨v,H10,I10,r10,ys,hys,hl,q10⟩;refine thn (nI _ s10 σ8 H10 (.ref s2.heap.objs.size) [v] (.ref s2.heap.objs.size) [y] (fun _ H'=>∃m',m'<n/\W (j+1) m' σ8 H') I10 rfl (.cons r10 .nil) ⟨_,ys,v,rfl,rfl,hys,hl,q10⟩) ?_;rintro z s11 ⟨_,H11,I11,_,q11⟩;exact again I11 q11
 refine Uw loop ?_;exact T.self X.A 0 _ _ _ st4 loop
section
variable{X:Cx}
theorem MtM.imp {id:String}{r r':V->List V->Hp->VK->Prop}(h:MtM X id r)(k:∀x xs H Q,r' x xs H Q->r x xs H Q):MtM X id r':=fun pins s σ H x xs v us Q I r1 r2 q=>h pins s σ H x xs v us Q I r1 r2 (k _ _ _ _ q)
theorem wD:MtM X "list.extend" (fun x vs H Q=>∃l b xs zs,x=.ref l/\vs=[.ref b]/\H l=some (.lst xs)/\H b=some (.lst zs)/\xs.length+zs.length<=sizeLine/\∀H',Put H l (.lst (xs++zs)) H'->Q .non H'):=A8.imp fun x vs H Q ⟨l,b,xs,zs,e1,e2,h1,h2,hz,q⟩=>⟨l,b,xs,zs,e1,e2,h1,h2,hz,q _ Put.up⟩
theorem wQ:MtM X "list.append" (fun x vs H Q=>∃l xs y,x=.ref l/\vs=[y]/\H l=some (.lst xs)/\xs.length<sizeLine/\∀H',Put H l (.lst (xs++[y])) H'->Q .non H'):=nI.imp fun x vs H Q ⟨l,xs,y,e1,e2,h1,hz,q⟩=>⟨l,xs,y,e1,e2,h1,hz,q _ Put.up⟩
end
end L2
namespace ZG
open PySem
open Sem (wp)
section
variable{prog:Qv}{w:Qy}{A:QE}{E:Qf->Qi->Prop}{s:Qi}
theorem Ga{d:Qh}{o:Obj}{es:Array R_}{ep:Nat}{Q:Qf->Qi->Prop}(hd:(d == Q9)=false)(ho:s.heap.get? d=some o)(hc:o.ExactDict)(hdat:o.data=.dict es ep)
  (hQ:Q (.ref s.heap.objs.size) {s with heap:=s.heap.push { cls:=.type "dict_keyiterator",data:=.fields #[.ref d,.int 0 0,.int es.size 0,.int ep 0] } }):Qn (Qs prog w) A (Tc (.ref d)) Q E s:=by
 have hT:s.TypeIs (.ref d) "dict":=⟨o,ho,hc.1⟩;refine TR hT Vz (QY Vz hT F.entry_dict_iter ?_ (F.args_dict_iter_1 _));unfold Rt.«dict.__iter__» WD;refine Qe (Qe (wpAny_notOrdered_dict hT (show Qn _ _ (pure (QV d)) _ _ s from Qj (show Qn _ _ (UB d >>= _) _ _ s from ?_))));unfold UB;rw[if_neg (by rw[hd];exact Mf)];exact Qe (Qj (Qe (SR ho hdat (Qe (Ul ho hdat (Qe (QJ (Qj ⟨_,rfl,"dict_keyiterator",_,⟨_,Qo _ rfl,rfl⟩,Rn.lookup,by simpa[Rh]using hQ⟩))))))))
theorem G5{it d:Qh}{i ep:Nat}{o:Obj}{es:Array R_}{e:R_}{Q:Option Qf->Qi->Prop}(hit:s.heap.IsKeyIter it d i es.size ep)(hod:s.heap.get? d=some o)(hdd:o.data=.dict es ep)(hx:es[i]?=some e)
  (hQ:∀h',h'.IsKeyIter it d (i+1) es.size ep->Q7 it s.heap h'->Q (some e.key) {s with heap:=h'}):Qn (Qs prog w) A (RS (.ref it)) Q E s:=by
 obtain⟨oi,ho,hc,hd⟩:=id hit;unfold RS;refine Qe (Rw (QW (name:=Ra "__next__") hit.typeIs Rn (QY Rn hit.typeIs Tn ?_ (Tg _))));refine Qe (Qj (Qe (Qe ?_)));refine Qe (RF hit.typeIs (Qj (Qe (Tt ho hd ?_))));simp only[show Tu "dict_keyiterator"=false by decide,Kk,if_false];show Qn _ _ (if(QV d == QT)=true then _ else _) _ _ s;rw[if_neg (show ¬(QV d == QT)=true from fun z=>Mf z)];refine Qe (Qj (Qe (SR hod hdd ?_)));rw[if_neg (show ¬_ by simp)];refine Qe (Qj (Qe (Ul hod hdd ?_)));rw[if_neg (show ¬_ by simp)];refine Qj ?_;simp only[show ¬(i:Int)<0 by lia,if_false,LK,hx];refine Qe (Qe (RF hit.typeIs (Qj (Qe (UC hit.typeIs ?_)))));show Qn _ _ (setField (.ref it) 1 (Rh ((i:Int)+1)) >>= _) _ _ s;refine Qe (Rk ho hd (by simp) ?_);have hit':(s.heap.update it (Ss (·.setIfInBounds 1 (Rh ((i:Int)+1))))).IsKeyIter it d (i+1) es.size ep:=
  ⟨_,Q1 _ ho (RA (QS hd _)),(Sf ..).trans hc,by rw[QS hd];simp[Rh]⟩
 exact Qe (QK (Qe (UC (s:={s with heap:=s.heap.update it (Ss (·.setIfInBounds 1 (Rh ((i:Int)+1)))) }) hit'.typeIs (show Qn _ _ (pure e.key) _ _ _ from Qj (Qj ⟨_,rfl,Qj (hQ _ hit' (QX ..))⟩)))))
theorem Ja{it d:Qh}{i ep:Nat}{o:Obj}{es:Array R_}{Q:Option Qf->Qi->Prop}(hh:A.handled=none)(hit:s.heap.IsKeyIter it d i es.size ep)(hod:s.heap.get? d=some o)(hdd:o.data=.dict es ep)(hx:es[i]?=none)
  (hQ:∀h',Sw it s.heap h'->Q none {s with heap:=h'}):Qn (Qs prog w) A (RS (.ref it)) Q E s:=by
 obtain⟨oi,ho,hc,hd⟩:=id hit;unfold RS;refine Qe (Rw (QW (name:=Ra "__next__") hit.typeIs Rn (QY Rn hit.typeIs Tn ?_ (Tg _))));refine Qe (Qj (Qe (Qe ?_)));refine Qe (RF hit.typeIs (Qj (Qe (Tt ho hd ?_))));simp only[show Tu "dict_keyiterator"=false by decide,Kk,if_false];show Qn _ _ (if(QV d == QT)=true then _ else _) _ _ s;rw[if_neg (show ¬(QV d == QT)=true from fun z=>Mf z)];refine Qe (Qj (Qe (SR hod hdd ?_)));rw[if_neg (show ¬_ by simp)];refine Qe (Qj (Qe (Ul hod hdd ?_)));rw[if_neg (show ¬_ by simp)];refine Qj ?_;simp only[show ¬(i:Int)<0 by lia,if_false,LK,hx];refine Qe (Qe (RF hit.typeIs (Qj ?_)));show Qn _ _ (setField (.ref it) 0 .none >>= _) _ _ s;refine Qe (Rk ho hd (by simp) (show Qn _ _ (T9 (.type "StopIteration") [] >>= _) _ _ _ from Qe ?_));simp only[T9,Vt];refine Qe (QJ (Qe (m:=RI _ _) (Sx (a:=QT) (by first|rfl|(simp only[RI];rfl)) (QJ ?_ (by size_fits)))) (by size_fits));simp only[Vu];refine Qe (TJ ?_);rw[show A.in1.handled=none from hh];refine Qe (Qj (Uu ?_));refine Qe (Sl (T:="StopIteration") (b:=true) (by exact⟨_,Qo _ rfl,rfl⟩) Ts (Qj ?_));exact hQ _ (((QX ..).extBut.push _).push _)
end
end ZG
namespace L2
open PySem PySem.Spec PyProof.Rows
noncomputable def kI(ns:List Int):List Key:=ns.map T1
theorem KO(ns:List Int):(kI ns).map kV=ns.map V.int:=by
 unfold kI;rw[B']
 rfl
theorem HH{ns ms:List Int}(h:kI ns=kI ms):ns=ms:=(List.map_inj_right fun _ _ z=>W8 z).mp h
theorem qM{α β:Type}{F:α->β->Prop}:∀{l:List α}{m:List β}{i:Nat}{b:β},So F l m->m[i]?=some b->∃a,l[i]?=some a/\F a b
 | _,_,_,_,.nil,e=>by simp at e
 | _,_,0,_,.cons h t,e=>by simp only[MV,Ol]at e;subst e;exact⟨_,rfl,h⟩
 | _,_,i+1,_,.cons h t,e=>by simp only[Mz]at e ⊢;exact qM t e
theorem El{X:Cx}{pins:List (Qh×Obj)}{σ:St}{H:Hp}{s:Qi}{o:Obj}{d:Qh}{kvs:List (List Key×V)}(I:Inv X pins σ H s)(e:H d=some (.frz o (.dT kvs))) :
  s.heap.get? d=some o/\(d == Q9)=false/\∃xs es ep,KT H kvs xs/\o.ExactDict/\o.data=.dict es ep/\es.toList=xs.map (UI (SE (bo X.prog X.w)))/\es.size=kvs.length:=by
 obtain⟨h0,h1,h2,xs,kt,o',es,ep,g1,g2,g3,g4,g5⟩:=(show ba X.prog X.w H s.heap d (.frz o (.dT kvs))from I.hok d _ e);rw[h0]at g1;cases g1;refine⟨h0,h2,xs,es,ep,kt,g2,g3,g4,?_⟩;rw[<-gV,g4,a_];exact(RE kt).symm
section
variable{X:Cx}
theorem A4(hc:X.calm=true):bE X (.builtin "min") (fun xs H Q=>∃a ns,xs=[.ref a]/\SqT X.K H a (ns.map V.int)/\ns≠[]/\∀r,iP ns r->Q (.int r) H):=by
 intro pins s σ H xs us Q I r h;obtain⟨a,ns,rfl,hq,hne,q⟩:=h;obtain⟨u,rfl,ru⟩:=vals1 r;cases ru;obtain⟨its,rv,p,z⟩:=I.tuple hq;obtain⟨ps,e1,e2⟩:=dP rv;have ei:Q4 ps.toArray=its.toArray:=by simp[Q4,e1]
 have hT:s.heap.IsTuple a (Q4 ps.toArray):=by rw[ei];exact p
 have hlen:ps.length=ns.length:=by rw[<-e2];simp
 have hpos:0<ns.length:=LM fun z=>hne (LD z);have hlt:a<s.heap.objs.size:=by obtain⟨o,e,_⟩:=p;exact Qr e
 have hh:X.A.in1.handled=none:=I.ok.hd hc;have W1:=Xh (prog:=X.prog) (w:=X.w) hh s.heap.objs.size a (x_ hlt) (Q4 ps.toArray);refine call_min_walk (RB hT ⟨s.heap.objs.size,_,_,_,_,_,_,rfl,W1,?_,fun b hb=>?_,?_,CmpOf.ints_lt (Sn ps.toArray) (fun i v hv=>S0 hv),fun v h' tk hv hk=>?_⟩)
 ·refine⟨⟨_,Qo _ rfl,rfl,rfl⟩,?_⟩;obtain⟨o,e,r⟩:=hT;exact⟨o,Qk _ e,r⟩
 ·show b<(s.heap.push _).objs.size;have e:(s.heap.push { cls:=.type "tuple_iterator",data:=.fields #[.ref a,.int 0 0] }).objs.size=s.heap.objs.size+1:=by simp[S_]
  rcases n_.mp hb with hb|hb
  ·rw[hb];simp[S_]
  rw[z_.mp hb];exact y_ hlt (by simp[S_])
 ·simp[Q4];lia
 obtain⟨tv,rfl⟩:=S0 hv;obtain⟨b1,b2⟩:=argBest_lt (Sn ps.toArray) ((Q4 ps.toArray).size-1);have es:(Q4 ps.toArray).size=ns.length:=by simp[Q4,hlen]
 have hi:V_ (fun i j=>decide (Sn ps.toArray i<Sn ps.toArray j)) ((Q4 ps.toArray).size-1)<ns.length:=by rw[es]at b1 ⊢;lia
 obtain⟨f0,f1,f2,f3,f4,f5⟩:=I.wN (b:=s.heap.objs.size) (b_ _) (I.hok.fresh (b_ _));have kk:∀b o,s.heap.get? b=some o->h'.get? b=some o:=fun b o e=>hk b o (fun z=>x_ (Qr e) (z_.mp z)) (Qk _ e);refine⟨.int _,H,I.kept (t':=tk) kk,⟨tv,rfl⟩,q _ ⟨?_,fun x hx=>?_⟩⟩
 ·rw[dH e2 hi];exact LY hi
 obtain⟨j,hj,rfl⟩:=LF.mp hx;have:=b2 j (by rw[es];lia);rw[dH e2 hj]at this;exact this
theorem AH(hc:X.calm=true):bE X (.builtin "max") (fun xs H Q=>∃a ns,xs=[.ref a]/\SqT X.K H a (ns.map V.int)/\ns≠[]/\∀r,iR ns r->Q (.int r) H):=by
 intro pins s σ H xs us Q I r h;obtain⟨a,ns,rfl,hq,hne,q⟩:=h;obtain⟨u,rfl,ru⟩:=vals1 r;cases ru;obtain⟨its,rv,p,z⟩:=I.tuple hq;obtain⟨ps,e1,e2⟩:=dP rv;have ei:Q4 ps.toArray=its.toArray:=by simp[Q4,e1]
 have hT:s.heap.IsTuple a (Q4 ps.toArray):=by rw[ei];exact p
 have hlen:ps.length=ns.length:=by rw[<-e2];simp
 have hpos:0<ns.length:=LM fun z=>hne (LD z);have hlt:a<s.heap.objs.size:=by obtain⟨o,e,_⟩:=p;exact Qr e
 have hh:X.A.in1.handled=none:=I.ok.hd hc;have W1:=Xh (prog:=X.prog) (w:=X.w) hh s.heap.objs.size a (x_ hlt) (Q4 ps.toArray);refine call_max_walk (RB hT ⟨s.heap.objs.size,_,_,_,_,_,_,rfl,W1,?_,fun b hb=>?_,?_,CmpOf.ints_gt (Sn ps.toArray) (fun i v hv=>S0 hv),fun v h' tk hv hk=>?_⟩)
 ·refine⟨⟨_,Qo _ rfl,rfl,rfl⟩,?_⟩;obtain⟨o,e,r⟩:=hT;exact⟨o,Qk _ e,r⟩
 ·show b<(s.heap.push _).objs.size;have e:(s.heap.push { cls:=.type "tuple_iterator",data:=.fields #[.ref a,.int 0 0] }).objs.size=s.heap.objs.size+1:=by simp[S_]
  rcases n_.mp hb with hb|hb
  ·rw[hb];simp[S_]
  rw[z_.mp hb];exact y_ hlt (by simp[S_])
 ·simp[Q4];lia
 obtain⟨tv,rfl⟩:=S0 hv;obtain⟨b1,b2⟩:=argBest_gt (Sn ps.toArray) ((Q4 ps.toArray).size-1);have es:(Q4 ps.toArray).size=ns.length:=by simp[Q4,hlen]
 have hi:V_ (fun i j=>decide (Sn ps.toArray i > Sn ps.toArray j)) ((Q4 ps.toArray).size-1)<ns.length:=by rw[es]at b1 ⊢;lia
 obtain⟨f0,f1,f2,f3,f4,f5⟩:=I.wN (b:=s.heap.objs.size) (b_ _) (I.hok.fresh (b_ _));have kk:∀b o,s.heap.get? b=some o->h'.get? b=some o:=fun b o e=>hk b o (fun z=>x_ (Qr e) (z_.mp z)) (Qk _ e);refine⟨.int _,H,I.kept (t':=tk) kk,⟨tv,rfl⟩,q _ ⟨?_,fun x hx=>?_⟩⟩
 ·rw[dH e2 hi];exact LY hi
 obtain⟨j,hj,rfl⟩:=LF.mp hx;have:=b2 j (by rw[es];lia);rw[dH e2 hj]at this;exact this
end
end L2
namespace ZS
open PySem PyProof.Rows
noncomputable def gal:Bool->Keyed->Array Keyed->Nat->Nat->Nat->StateT SortSt Sem (Option Nat):=sortPriv% PySem.Builtin.gallop
noncomputable def mLo:Array Keyed->Array Keyed->StateT SortSt Sem (Array Keyed):=sortPriv% PySem.Builtin.mergeLo
noncomputable def mHi:Array Keyed->Array Keyed->StateT SortSt Sem (Array Keyed):=sortPriv% PySem.Builtin.mergeHi
noncomputable def bey(lf:Bool)(ky:Ql)(ar:Array Ql)(b0 i:Nat):StateT Qq Sem (Option Bool):=do
 let xx <-Q3 ar (b0+i)
 if lf then lt' xx ky else return (<-lt' ky xx).map (!·)
noncomputable def jB(lf:Bool)(ky:Ql)(ar:Array Ql)(b0 n l0 h0:Nat):StateT Qq Sem (Option Nat):=do
 let mut l:=l0
 let mut h:=h0
 for _ in [0:n]do
  if l>=h then break
  let m:=l+(h-l)/2
  let some mo <-bey lf ky ar b0 m | return none
  if mo then l:=m+1 else h:=m
 return some h
noncomputable def G9(lf:Bool)(ky:Ql)(ar:Array Ql)(b0 n h0:Nat):StateT Qq Sem (Option Nat):=do
 let mut la:=0
 let mut of:=1
 for _ in [0:n]do
  if of>=n-h0 then break
  let some mo <-bey lf ky ar b0 (h0+of) | return none
  if !mo then break
  la:=of
  of:=2*of+1
 jB lf ky ar b0 n (h0+la+1) (h0+min of (n-h0))
noncomputable def xZ(lf:Bool)(ky:Ql)(ar:Array Ql)(b0 n h0:Nat):StateT Qq Sem (Option Nat):=do
 let mut la:=0
 let mut of:=1
 for _ in [0:n]do
  if of>=h0+1 then break
  let some fo <-bey lf ky ar b0 (h0-of) | return none
  if fo then break
  la:=of
  of:=2*of+1
 jB lf ky ar b0 n (h0+1-min of (h0+1)) (h0-la)
theorem GU(lf:Bool)(ky:Ql)(ar:Array Ql)(b0 n h0:Nat):gal lf ky ar b0 n h0=(do
 let some rt <-bey lf ky ar b0 h0 | return none
 if rt then G9 lf ky ar b0 n h0 else xZ lf ky ar b0 n h0):=rfl
section
variable{M:Se}{A:QE}{E:Qf->Qi->Prop}{s:Qi}
theorem HN{lf:Bool}{ky:Ql}{ar:Array Ql}{b0 n h0:Nat}{st:Qq}{Q:Option Nat->Qq->Prop}{bd:Nat->Bool}(hh:h0<n)(hb:∀(i:Nat) (R:Option Bool->Qq->Prop),i<n->R (some (bd i)) st->wpS M A E s (bey lf ky ar b0 i) R st)
  (mono:∀i j,i<=j->j<n->bd j=true->bd i=true) (h:∀k,k<=n->(∀i,i<k->bd i=true)->(∀i,k<=i->i<n->bd i=false)->Q (some k) st):wpS M A E s (gal lf ky ar b0 n h0) Q st:=by
 rw[GU];have last:∀(l hi:Nat),l<=hi->hi<=n->(∀i,i<l->bd i=true)->(∀i,hi<=i->i<n->bd i=false)->wpS M A E s (jB lf ky ar b0 n l hi) Q st:=fun l hi h1 h2 h3 h4=>by
  unfold jB;dsimp only;refine Qp (Q2 (I:=fun x c st'=>st'=st/\∃l hi,c=(none,l,hi)/\l<=hi/\hi<=n/\hi-l<=n-x/\(∀i,i<l->bd i=true)/\(∀i,hi<=i->i<n->bd i=false)) ?_ ?_ ⟨rfl,l,hi,rfl,h1,h2,by lia,h3,h4⟩)
  ·rintro x c st' _ hx ⟨rfl,l,hi,rfl,g1,g2,g3,g4,g5⟩;dsimp only;by_cases z:l>=hi
   ·rw[if_pos z];have e:l=hi:=by lia
    subst e;exact Qw (Qw (h l g2 g4 g5))
   rw[if_neg z];have m1:l<=l+(hi-l)/2:=Nf ..;have m2:l+(hi-l)/2<hi:=by omega
   generalize l+(hi-l)/2=m at m1 m2 ⊢;have m3:=y_ m2 g2;refine Qp (hb _ _ m3 ?_);dsimp only;cases e:bd m with
   |true=>
    simp only[if_true];exact Qw ⟨rfl,_,_,rfl,m2,g2,by lia,fun i hi'=>mono i _ (NH hi') m3 e,g5⟩
   |false=>
    simp only[Kk,if_false];refine Qw ⟨rfl,_,_,rfl,m1,K_ m3,by lia,g4,fun i h1 h2=>?_⟩;cases e2:bd i with
    |false=>rfl
    |true=>rw[mono _ i h1 h2 e2]at e;cases e
  rintro c st' ⟨rfl,l,hi,rfl,g1,g2,g3,g4,g5⟩;have e:l=hi:=by lia
  subst e;exact Qw (h l g2 g4 g5)
 have up:∀la of,la<of->h0+la<n->bd (h0+la)=true->(n-h0<=of\/bd (h0+of)=false)->wpS M A E s (jB lf ky ar b0 n (h0+la+1) (h0+min of (n-h0))) Q st:=fun la of g1 g3 g4 g5=>by
  have k1:h0+min of (n-h0)<=n:=by lia
  refine last _ _ (by lia) k1 (fun i hi=>mono i _ (NH hi) g3 g4) (fun i h1 h2=>?_);rcases g5 with g5|g5
  ·rw[Ow g5]at h1;lia
  cases e2:bd i with
  |false=>rfl
  |true=>rw[mono (h0+of) i (by lia) h2 e2]at g5;cases g5
 have dwn:∀la of,la<of->la<=h0->bd (h0-la)=false->(h0+1<=of\/of<=h0/\bd (h0-of)=true)->wpS M A E s (jB lf ky ar b0 n (h0+1-min of (h0+1)) (h0-la)) Q st:=fun la of g1 g3 g4 g5=>by
  refine last _ _ (by omega) (m_ (LZ ..) (K_ hh)) (fun i hi=>?_) (fun i h1 h2=>?_)
  ·rcases g5 with g5|⟨g5,g6⟩
   ·rw[Ow g5,MP]at hi;exact absurd hi (Nat.not_lt_zero _)
   rw[OH (NI g5)]at hi;exact mono i _ (by lia) (Mg (LZ ..) hh) g6
  cases e2:bd i with
  |false=>rfl
  |true=>rw[mono (h0-la) i h1 h2 e2]at g4;cases g4
 refine Qp (hb _ _ hh ?_);dsimp only;cases e0:bd h0 with
 |true=>
  simp only[if_true];unfold G9;dsimp only;refine Qp (Q2 (I:=fun x c st'=>st'=st/\∃la of,c=(none,la,of)/\la<of/\x+1<=of/\h0+la<n/\bd (h0+la)=true) ?_ ?_ ⟨rfl,0,1,rfl,MY,b_ _,hh,e0⟩)
  ·rintro x c st' _ hx ⟨rfl,la,of,rfl,g1,g2,g3,g4⟩;dsimp only;by_cases z:of>=n-h0
   ·rw[if_pos z];exact Qw (up la of g1 g3 g4 (.inl z))
   rw[if_neg z];refine Qp (hb _ _ (by lia) ?_);dsimp only;cases e:bd (h0+of)with
   |false=>
    simp only[N7,if_true];exact Qw (up la of g1 g3 g4 (.inr e))
   |true=>
    simp only[OZ,Kk,if_false];exact Qw ⟨rfl,_,_,rfl,by lia,by lia,by lia,e⟩
  ·rintro c st' ⟨rfl,la,of,rfl,g1,g2,g3,g4⟩;exact up la of g1 g3 g4 (.inl (by lia))
 |false=>
  simp only[Kk,if_false];unfold xZ;dsimp only;refine Qp (Q2 (I:=fun x c st'=>st'=st/\∃la of,c=(none,la,of)/\la<of/\x+1<=of/\la<=h0/\bd (h0-la)=false) ?_ ?_ ⟨rfl,0,1,rfl,MY,b_ _,B_ _,e0⟩)
  ·rintro x c st' _ hx ⟨rfl,la,of,rfl,g1,g2,g3,g4⟩;dsimp only;by_cases z:of>=h0+1
   ·rw[if_pos z];exact Qw (dwn la of g1 g3 g4 (.inl z))
   rw[if_neg z];have z:=Nat.lt_succ_iff.mp (Ox z);refine Qp (hb _ _ (Mg (LZ ..) hh) ?_);dsimp only;cases e:bd (h0-of)with
   |true=>
    simp only[if_true];exact Qw (dwn la of g1 g3 g4 (.inr ⟨z,e⟩))
   |false=>
    simp only[Kk,if_false];exact Qw ⟨rfl,_,_,rfl,by lia,by lia,z,e⟩
  rintro c st' ⟨rfl,la,of,rfl,g1,g2,g3,g4⟩;exact dwn la of g1 g3 g4 (.inl (by lia))
end
noncomputable def setG(g:Nat):StateT Qq Sem Unit:=modify fun s=>Ry (kindOf s) (Qm s) (QB s) g (QZ s)
noncomputable def dn(a b out:Array Ql)(i j:Nat):Array Ql:=out++a.extract i a.size++b.extract j b.size
noncomputable def jR(a b out:Array Ql)(i j:Nat):Array Ql:=out++b.extract j b.size++a.extract i a.size
theorem HW(a b:Array Ql):mLo a b=(do
 rule "list.sort.merge-lo"
 let mut out:Array Ql:=#[<-Q3 b 0]
 let mut i:=0
 let mut j:=1
 if j == b.size then return dn a b out i j
 if i+1 == a.size then return jR a b out i j
 let mut mg:=T_ (<-get)
 for _ in [0:a.size+b.size]do
  let mut ca:=0
  let mut cb:=0
  for _ in [0:a.size+b.size]do
   let some bw <-lt' (<-Q3 b j) (<-Q3 a i) | return dn a b out i j
   if bw then
    out:=out.push (<-Q3 b j);j:=j+1;cb:=cb+1;ca:=0
    if j == b.size then return dn a b out i j
    if cb>=mg then break
   else
    out:=out.push (<-Q3 a i);i:=i+1;ca:=ca+1;cb:=0
    if i+1 == a.size then return jR a b out i j
    if ca>=mg then break
  rule "list.sort.gallop"
  mg:=mg+1
  for _ in [0:a.size+b.size]do
   if mg > 1 then mg:=mg-1
   setG mg
   let some k <-gal false (<-Q3 b j) a i (a.size-i) 0 | return dn a b out i j
   ca:=k
   if k > 0 then
    out:=out++a.extract i (i+k);i:=i+k
    if i+1 == a.size then return jR a b out i j
    if i == a.size then return dn a b out i j
   out:=out.push (<-Q3 b j);j:=j+1
   if j == b.size then return dn a b out i j
   let some k <-gal true (<-Q3 a i) b j (b.size-j) 0 | return dn a b out i j
   cb:=k
   if k > 0 then
    out:=out++b.extract j (j+k);j:=j+k
    if j == b.size then return dn a b out i j
   out:=out.push (<-Q3 a i);i:=i+1
   if i+1 == a.size then return jR a b out i j
   if ca<7&&cb<7 then break
  mg:=mg+1
  setG mg
 unsupported "internal:list.sort.merge-bound"):=rfl
abbrev GS:=Option (Array Ql)×Array Ql×Nat×Nat×Nat×Nat×Nat
abbrev FS:=Option (Array Ql)×Array Ql×Nat×Nat×Nat×Nat
abbrev OS:=Option (Array Ql)×Array Ql×Nat×Nat×Nat
noncomputable def g3(a b out:Array Ql)(i j mg ca cb:Nat):StateT Qq Sem (ForInStep GS):=do
 let y <-Q3 a i
 if(i+1+1 == a.size)=true then pure (Qu (some (jR a b (out.push y) (i+1) j),out.push y,i+1,j,mg,ca,cb))
 else if(decide (ca<7)&&decide (cb<7))=true then pure (Qu (none,out.push y,i+1,j,mg,ca,cb))
 else pure (QD (none,out.push y,i+1,j,mg,ca,cb))
noncomputable def g2(a b out:Array Ql)(i j mg ca cb:Nat):StateT Qq Sem (ForInStep GS):=do
 let y <-Q3 b j
 if(j+1 == b.size)=true then pure (Qu (some (dn a b (out.push y) i (j+1)),out.push y,i,j+1,mg,ca,cb))
 else do
  let z <-Q3 a i
  let some k <-gal true z b (j+1) (b.size-(j+1)) 0 | pure (Qu (some (dn a b (out.push y) i (j+1)),out.push y,i,j+1,mg,ca,cb))
  if k > 0 then
    if(j+1+k == b.size)=true then pure (Qu (some (dn a b (out.push y++b.extract (j+1) (j+1+k)) i (j+1+k)),out.push y++b.extract (j+1) (j+1+k),i,j+1+k,mg,ca,k))
    else g3 a b (out.push y++b.extract (j+1) (j+1+k)) i (j+1+k) mg ca k
  else g3 a b (out.push y) i (j+1) mg ca k
noncomputable def g1(a b out:Array Ql)(i j mg ca cb:Nat):StateT Qq Sem (ForInStep GS):=do
 setG mg
 let y <-Q3 b j
 let some k <-gal false y a i (a.size-i) 0 | pure (Qu (some (dn a b out i j),out,i,j,mg,ca,cb))
 if k > 0 then
   if(i+k+1 == a.size)=true then pure (Qu (some (jR a b (out++a.extract i (i+k)) (i+k) j),out++a.extract i (i+k),i+k,j,mg,k,cb))
   else if(i+k == a.size)=true then pure (Qu (some (dn a b (out++a.extract i (i+k)) (i+k) j),out++a.extract i (i+k),i+k,j,mg,k,cb))
   else g2 a b (out++a.extract i (i+k)) (i+k) j mg k cb
 else g2 a b out i j mg k cb
noncomputable def f1(a b out:Array Ql)(i j ca cb mg:Nat):StateT Qq Sem (ForInStep FS):=do
 let y <-Q3 b j
 let z <-Q3 a i
 let some bw <-lt' y z | pure (Qu (some (dn a b out i j),out,i,j,ca,cb))
 if bw=true then do
   let y <-Q3 b j
   if(j+1 == b.size)=true then pure (Qu (some (dn a b (out.push y) i (j+1)),out.push y,i,j+1,0,cb+1))
   else if cb+1>=mg then pure (Qu (none,out.push y,i,j+1,0,cb+1))else pure (QD (none,out.push y,i,j+1,0,cb+1))
 else do
   let z <-Q3 a i
   if(i+1+1 == a.size)=true then pure (Qu (some (jR a b (out.push z) (i+1) j),out.push z,i+1,j,ca+1,0))
   else if ca+1>=mg then pure (Qu (none,out.push z,i+1,j,ca+1,0))else pure (QD (none,out.push z,i+1,j,ca+1,0))
noncomputable def oLo(a b:Array Ql)(c:OS):StateT Qq Sem (ForInStep OS):=do
 let r <-forIn [0:a.size+b.size] ((none,c.2.1,c.2.2.1,c.2.2.2.1,0,0):FS) fun _ d=>f1 a b d.2.1 d.2.2.1 d.2.2.2.1 d.2.2.2.2.1 d.2.2.2.2.2 c.2.2.2.2
 match r.1 with
 |some q=>pure (Qu (some q,r.2.1,r.2.2.1,r.2.2.2.1,c.2.2.2.2))
 |none=>do
  liftM (rule "list.sort.gallop")
  let e <-forIn [0:a.size+b.size] ((none,r.2.1,r.2.2.1,r.2.2.2.1,c.2.2.2.2+1,r.2.2.2.2.1,r.2.2.2.2.2):GS) fun _ d=>
   if d.2.2.2.2.1 > 1 then g1 a b d.2.1 d.2.2.1 d.2.2.2.1 (d.2.2.2.2.1-1) d.2.2.2.2.2.1 d.2.2.2.2.2.2 else g1 a b d.2.1 d.2.2.1 d.2.2.2.1 d.2.2.2.2.1 d.2.2.2.2.2.1 d.2.2.2.2.2.2
  match e.1 with
  |some q=>pure (Qu (some q,e.2.1,e.2.2.1,e.2.2.2.1,e.2.2.2.2.1))
  |none=>do
   setG (e.2.2.2.2.1+1)
   pure (QD (none,e.2.1,e.2.2.1,e.2.2.2.1,e.2.2.2.2.1+1))
set_option maxHeartbeats 2000000 in
theorem EN(a b:Array Ql):mLo a b=(do
  liftM (rule "list.sort.merge-lo")
  let y <-Q3 b 0
  if(1 == b.size)=true then pure (dn a b #[y] 0 1)
  else if(0+1 == a.size)=true then pure (jR a b #[y] 0 1)
  else do
   let st <-get
   let r <-forIn [0:a.size+b.size] ((none,#[y],0,1,T_ st):OS) fun _ c=>oLo a b c
   match r.1 with
   |some q=>pure q
   |none=>liftM (unsupported "internal:list.sort.merge-bound":Sem (Array Ql))):=by
 rw[HW];unfold oLo;refine congrArg (bind _) (funext fun _=>?_);refine congrArg (bind _) (funext fun y=>?_);refine ite_congr rfl (fun _=>rfl) (fun _=>?_);refine ite_congr rfl (fun _=>rfl) (fun _=>?_);refine congrArg (bind _) (funext fun st=>?_);refine congr (congrArg bind (congrArg (forIn _ _) (funext fun _=>funext fun c=>?_))) ?_
 ·refine congr (congrArg bind (congrArg (forIn _ _) (funext fun _=>funext fun d=>?_))) ?_
  ·unfold f1
   rfl
  funext r;obtain⟨r1,r2⟩:=r;cases r1 with
  |some q=>rfl
  |none=>
   refine congrArg (bind _) (funext fun _=>?_);refine congr (congrArg bind (congrArg (forIn _ _) (funext fun _=>funext fun d=>?_))) ?_
   ·
    unfold g1;refine ite_congr rfl (fun _=>?_) (fun _=>?_)
    all_goals
     refine congrArg (bind _) (funext fun _=>?_);refine congrArg (bind _) (funext fun y=>?_);refine congrArg (bind _) (funext fun r=>?_);cases r with
     |none=>rfl
     |some k=>
      refine ite_congr rfl (fun _=>?_) (fun _=>?_)
      ·refine ite_congr rfl (fun _=>rfl) (fun _=>?_);refine ite_congr rfl (fun _=>rfl) (fun _=>?_);unfold g2
       rfl
      unfold g2
      rfl
   funext e;obtain⟨e1,e2⟩:=e;cases e1 <;> rfl
 funext e;obtain⟨e1,e2⟩:=e;cases e1 <;> rfl
noncomputable def cM(M:Se)(A:QE)(E:Qf->Qi->Prop)(s:Qi)(kd:Rf)(rk:Ql->Nat)(S:Ql->Prop):Prop:=
 ∀(x y:Ql) (st:Qq) (Q:Option Bool->Qq->Prop),S x->S y->kindOf st=kd->Q (some (decide (rk x<rk y))) st->wpS M A E s (lt' x y) Q st
structure Keep (st st':Qq):Prop where
 k:kindOf st'=kindOf st
 a:Qm st'=Qm st
 p:QB st'=QB st
 f:QZ st'=QZ st
theorem Keep.ck {st:Qq}:Keep st st:=⟨rfl,rfl,rfl,rfl⟩
theorem Keep.g {st st':Qq}(h:Keep st st')(g:Nat):Keep st (Ry (kindOf st') (Qm st') (QB st') g (QZ st')):=⟨h.k,h.a,h.p,h.f⟩
section
variable{rk:Ql->Nat}
abbrev Srt(rk:Ql->Nat)(l:List Ql):Prop:=l.Pairwise fun x y=>rk x<=rk y
structure MS (rk:Ql->Nat) (a b out:List Ql) (i j:Nat):Prop where
 perm:out.Perm (a.take i++b.take j)
 srt:Srt rk out
 le:∀x∈out,(∀y∈a.drop i,rk x<=rk y)/\∀y∈b.drop j,rk x<=rk y
noncomputable def Res(rk:Ql->Nat)(a b r:List Ql):Prop:=r.Perm (a++b)/\Srt rk r
theorem MS.u9 {a b out:List Ql}{i j k:Nat}(h:MS rk a b out i j)(sa:Srt rk a)(hc:∀y∈(a.drop i).take k,∀z∈b.drop j,rk y<=rk z):MS rk a b (out++(a.drop i).take k) (i+k) j:=by
 have sd:Srt rk (a.drop i):=LH (M4 _ _) sa;have split:a.drop i=(a.drop i).take k++a.drop (i+k):=by rw[<-NC];exact(F_ k (a.drop i)).symm
 refine⟨?_,?_,fun x hx=>?_⟩
 ·rw[Oh];refine(h.perm.append_right _).trans ?_;rw[k_,k_];exact LJ _ Md
 ·refine C_.mpr ⟨h.srt,LH (M1 _ _) sd,fun x hx y hy=>(h.le x hx).1 y (Ml hy)⟩
 rcases v_.mp hx with hx|hx
 ·refine⟨fun y hy=>(h.le x hx).1 y ?_,(h.le x hx).2⟩;rw[split];exact o_ _ hy
 refine⟨fun y hy=>?_,hc x hx⟩;rw[split]at sd;exact(C_.mp sd).2.2 x hx y hy
theorem MS.tq {a b out:List Ql}{i j k:Nat}(h:MS rk a b out i j)(sb:Srt rk b)(hc:∀y∈(b.drop j).take k,∀z∈a.drop i,rk y<=rk z):MS rk a b (out++(b.drop j).take k) i (j+k):=by
 have sd:Srt rk (b.drop j):=LH (M4 _ _) sb;have split:b.drop j=(b.drop j).take k++b.drop (j+k):=by rw[<-NC];exact(F_ k (b.drop j)).symm
 refine⟨?_,?_,fun x hx=>?_⟩
 ·rw[Oh,<-k_];exact h.perm.append_right _
 ·refine C_.mpr ⟨h.srt,LH (M1 _ _) sd,fun x hx y hy=>(h.le x hx).2 y (Ml hy)⟩
 rcases v_.mp hx with hx|hx
 ·refine⟨(h.le x hx).1,fun y hy=>(h.le x hx).2 y ?_⟩;rw[split];exact o_ _ hy
 refine⟨hc x hx,fun y hy=>?_⟩;rw[split]at sd;exact(C_.mp sd).2.2 x hx y hy
theorem MS.all {a b out:List Ql}{i j:Nat}(h:MS rk a b out i j)(h1:a.length<=i)(h2:b.length<=j):Res rk a b out:=by have:=h.perm;rw[Ma h1,Ma h2]at this;exact⟨this,h.srt⟩
theorem m9{l:List Ql}(i:Nat):(l.drop i).take l.length=l.drop i:=Ma (by rw[H_];lia)
theorem MS.done {a b out:List Ql}{i j:Nat}(h:MS rk a b out i j)(sa:Srt rk a)(sb:Srt rk b)(e:a.length<=i\/b.length<=j):Res rk a b (out++a.drop i++b.drop j):=by
 have h1:=h.u9 (k:=a.length) sa fun y hy z hz=>by
  rcases e with e|e
  ·rw[Mq e]at hy;simp at hy
  rw[Mq e]at hz;simp at hz
 have h2:=h1.tq (k:=b.length) sb fun y hy z hz=>by rw[Mq (by lia)]at hz;simp at hz
 rw[m9,m9]at h2;exact h2.all (by lia) (by lia)
theorem MS.last {a b out:List Ql}{i j:Nat}(h:MS rk a b out i j)(sa:Srt rk a)(sb:Srt rk b)(e:∀y∈b.drop j,∀z∈a.drop i,rk y<=rk z):Res rk a b (out++b.drop j++a.drop i):=by
 have h1:=h.tq (k:=b.length) sb fun y hy z hz=>e y (Ml hy) z hz;have h2:=h1.u9 (k:=a.length) sa fun y hy z hz=>by rw[Mq (by lia)]at hz;simp at hz
 rw[m9,m9]at h2;exact h2.all (by lia) (by lia)
theorem p8(a:Array Ql)(i:Nat):(a.extract i a.size).toList=a.toList.drop i:=by rw[Ng,ML];exact Ma (by rw[H_,gV];exact b_ _)
theorem mY(a:Array Ql)(i k:Nat):(a.extract i (i+k)).toList=(a.toList.drop i).take k:=by rw[Ng,ML,ND]
theorem drop_one{l:List Ql}{i:Nat}{y:Ql}(h:l[i]?=some y):(l.drop i).take 1=[y]:=by obtain⟨hl,e⟩:=d_.mp h;rw[Np hl,List.take_succ_cons,List.take_zero,e]
theorem vw{l:List Ql}{i:Nat}{y:Ql}(h:l[i]?=some y)(s:Srt rk l):∀z∈l.drop i,rk y<=rk z:=by
 obtain⟨hl,e⟩:=d_.mp h;intro z hz;have sd:Srt rk (l.drop i):=LH (M4 _ _) s;rw[Np hl,e]at sd hz;rcases n_.mp hz with rfl|hz
 ·exact b_ _
 exact(LX.mp sd).1 z hz
theorem qx{l:List Ql}(s:Srt rk l){i j:Nat}{x y:Ql}(hij:i<=j)(hx:l[i]?=some x)(hy:l[j]?=some y):rk x<=rk y:=by refine vw hx s y ?_;rw[M7];exact⟨j-i,by rw[MF,show i+(j-i)=j by lia];exact hy⟩
theorem dC{l:List Ql}{i k:Nat}{y:Ql}(h:y∈(l.drop i).take k):∃j,j<k/\l[i+j]?=some y:=by
 obtain⟨j,hj⟩:=M7.mp h;rw[MW]at hj;split at hj
 ·next hlt=>exact⟨j,hlt,by rw[MF]at hj;exact hj⟩
 cases hj
theorem jy{l:List Ql}{i:Nat}{y:Ql}(h:y∈l.drop i):∃j,l[i+j]?=some y:=by obtain⟨j,hj⟩:=M7.mp h;exact⟨j,by rw[MF]at hj;exact hj⟩
end
section
variable{M:Se}{A:QE}{E:Qf->Qi->Prop}{s:Qi}{kd:Rf}{rk:Ql->Nat}{S:Ql->Prop}
theorem aX{ar:Array Ql}{i:Nat}{p:Ql}{st:Qq}{Q:Ql->Qq->Prop}(h:ar[i]?=some p)(q:Q p st):wpS M A E s (Q3 ar i) Q st:=by rw[elem'_eq,h];exact Qw q
theorem Ht{lf:Bool}{ky p:Ql}{ar:Array Ql}{b0 i:Nat}{st:Qq}{Q:Option Bool->Qq->Prop}(L:cM M A E s kd rk S)(hk:kindOf st=kd)(hp:ar[b0+i]?=some p)(Sp:S p)(Sk:S ky)
  (q:Q (some (if lf=true then decide (rk p<rk ky)else !decide (rk ky<rk p))) st):wpS M A E s (bey lf ky ar b0 i) Q st:=by
 unfold bey;refine Qp (aX hp ?_);cases lf with
 |true=>exact L p ky st _ Sp Sk hk q
 |false=>exact Qp (L ky p st _ Sk Sp hk (Qw q))
theorem jJ{lf:Bool}{ky:Ql}{ar:Array Ql}{b0 n h0:Nat}{st:Qq}{Q:Option Nat->Qq->Prop}(L:cM M A E s kd rk S)(hk:kindOf st=kd)(hh:h0<n)(hsz:b0+n<=ar.size)(Sa:∀(i:Nat) p,ar[i]?=some p->S p)(Sk:S ky)
  (srt:∀(i j:Nat) p q,i<=j->j<n->ar[b0+i]?=some p->ar[b0+j]?=some q->rk p<=rk q)
  (h:∀k,k<=n->(∀(i:Nat) p,i<k->ar[b0+i]?=some p->if lf=true then rk p<rk ky else rk p<=rk ky)->(∀(i:Nat) p,k<=i->i<n->ar[b0+i]?=some p->if lf=true then rk ky<=rk p else rk ky<rk p)->Q (some k) st) :
  wpS M A E s (gal lf ky ar b0 n h0) Q st:=by
 have get:∀i,i<n->ar[b0+i]?=some (ar.getD (b0+i) (QT,QT)):=fun i hi=>by
  rw[MG,i_ (by lia)]
  rfl
 refine HN (bd:=fun i=>if lf=true then decide (rk (ar.getD (b0+i) (QT,QT))<rk ky)else !decide (rk ky<rk (ar.getD (b0+i) (QT,QT)))) hh (fun i R hi r=>Ht L hk (get i hi) (Sa _ _ (get i hi)) Sk r) ?_ ?_
 ·intro i j hij hj hb;have:=srt i j _ _ hij hj (get i (by lia)) (get j hj);cases lf with
  |true=>
   simp only[if_true,decide_eq_true_eq]at hb ⊢;lia
  |false=>
   simp only[Kk,if_false,Bool.not_eq_true',decide_eq_false_iff_not]at hb ⊢;lia
 intro k hk' h1 h2;refine h k hk' (fun i p hi hp=>?_) (fun i p h3 h4 hp=>?_)
 ·have e:=get i (by lia);rw[hp]at e;cases e;have:=h1 i hi;cases lf with
  |true=>simpa using this
  |false=>simpa using this
 have e:=get i h4;rw[hp]at e;cases e;have:=h2 i h3 h4;cases lf with
 |true=>simpa using this
 |false=>simpa using this
theorem pg{g:Nat}{st:Qq}{Q:Unit->Qq->Prop}(q:Q () (Ry (kindOf st) (Qm st) (QB st) g (QZ st))):wpS M A E s (setG g) Q st:=Ti q
end
section
variable{M:Se}{A:QE}{E:Qf->Qi->Prop}{s:Qi}{kd:Rf}{rk:Ql->Nat}{S:Ql->Prop}{a b:Array Ql}
structure LoOk (rk:Ql->Nat) (S:Ql->Prop) (a b:Array Ql):Prop where
 sa:Srt rk a.toList
 sb:Srt rk b.toList
 Sa:∀(i:Nat) p,a[i]?=some p->S p
 Sb:∀(i:Nat) p,b[i]?=some p->S p
 pa:0<a.size
 pb:0<b.size
 first:∀p,b[0]?=some p->∀z∈a.toList,rk p<=rk z
 last:∀p,a[a.size-1]?=some p->∀z∈b.toList,rk z<=rk p
theorem LoOk.p9 (h:LoOk rk S a b){out:Array Ql}{i j:Nat}(m:MS rk a.toList b.toList out.toList i j)(e:i+1=a.size):Res rk a.toList b.toList (jR a b out i j).toList:=by
 unfold jR;rw[Lu,Lu,p8,p8];refine m.last h.sa h.sb fun y hy z hz=>?_;obtain⟨k,hk⟩:=jy hz;have hk':i+k<a.toList.length:=(d_.mp hk).1;rw[gV]at hk';have k0:k=0:=by lia
 subst k0;refine h.last z ?_ y (Nd hy);rw[<-f_,show a.size-1=i+0 by lia];exact hk
theorem LoOk.mI (h:LoOk rk S a b){out:Array Ql}{i j:Nat}(m:MS rk a.toList b.toList out.toList i j)(e:a.size<=i\/b.size<=j):Res rk a.toList b.toList (dn a b out i j).toList:=by unfold dn;rw[Lu,Lu,p8,p8];exact m.done h.sa h.sb (by rw[gV,gV];exact e)
structure LI (rk:Ql->Nat) (a b out:Array Ql) (i j:Nat):Prop where
 m:MS rk a.toList b.toList out.toList i j
 i:i+1<a.size
 j:j<b.size
theorem MS.nR {out:Array Ql}{i j:Nat}(m:MS rk a.toList b.toList out.toList i j)(H:LoOk rk S a b){y:Ql}(hy:b[j]?=some y)(hc:∀z∈a.toList.drop i,rk y<=rk z):MS rk a.toList b.toList (out.push y).toList i (j+1):=by
 have hy':b.toList[j]?=some y:=by rw[f_];exact hy
 have:=m.tq (k:=1) H.sb (by rw[drop_one hy'];intro w hw;rw[z_.mp hw];exact hc);rw[drop_one hy']at this;rw[Mx];exact this
theorem MS.nB {out:Array Ql}{i j:Nat}(m:MS rk a.toList b.toList out.toList i j)(H:LoOk rk S a b){y:Ql}(hy:a[i]?=some y)(hc:∀z∈b.toList.drop j,rk y<=rk z):MS rk a.toList b.toList (out.push y).toList (i+1) j:=by
 have hy':a.toList[i]?=some y:=by rw[f_];exact hy
 have:=m.u9 (k:=1) H.sa (by rw[drop_one hy'];intro w hw;rw[z_.mp hw];exact hc);rw[drop_one hy']at this;rw[Mx];exact this
theorem mK{l:Array Ql}{i:Nat}{y:Ql}(srt:Srt rk l.toList)(hy:l[i]?=some y):∀z∈l.toList.drop i,rk y<=rk z:=vw (by rw[f_];exact hy) srt
noncomputable def gu(rk:Ql->Nat)(a b:Array Ql)(lo:Nat)(st:Qq)(r:Option (Array Ql))(out:Array Ql)(i j:Nat)(st':Qq):Prop:=
 Keep st st'/\match r with
 |some q=>Res rk a.toList b.toList q.toList
 |none=>LI rk a b out i j/\lo<i+j
theorem JK{out:Array Ql}{i j ca cb mg:Nat}{st st':Qq}{Q:ForInStep FS->Qq->Prop}(L:cM M A E s kd rk S)(H:LoOk rk S a b)(hk:kindOf st=kd)(K:Keep st st')(I:LI rk a b out i j)
  (h:∀(d:Bool) (c:FS),gu rk a b (i+j) st c.1 c.2.1 c.2.2.1 c.2.2.2.1 st'->(d=false->c.1=none)->Q (if d=true then Qu c else QD c) st'):wpS M A E s (f1 a b out i j ca cb mg) Q st':=by
 have hi:i<a.size:=by have:=I.i;lia
 obtain⟨y,hy⟩:∃y,b[j]?=some y:=⟨_,i_ I.j⟩;obtain⟨z,hz⟩:∃z,a[i]?=some z:=⟨_,i_ hi⟩;unfold f1;refine Qp (aX hy (Qp (aX hz (Qp (L y z st' _ (H.Sb _ _ hy) (H.Sa _ _ hz) (K.k.trans hk) ?_)))));dsimp only;by_cases w:rk y<rk z
 ·rw[decide_eq_true w,if_pos rfl];have m:=I.m.nR H hy fun u hu=>m_ (K_ w) (mK H.sa hz u hu);refine Qp (aX hy ?_);by_cases e:j+1=b.size
  ·rw[if_pos (by rw[e];exact beq_self_eq_true _)];exact Qw (h true _ ⟨K,H.mI m (.inr (by lia))⟩ (fun z=>nomatch z))
  rw[if_neg (by simpa using e)];have I2:LI rk a b (out.push y) i (j+1):=⟨m,I.i,by have:=I.j;lia⟩;split
  ·exact Qw (h true _ ⟨K,I2,by dsimp only;lia⟩ (fun z=>nomatch z))
  exact Qw (h false _ ⟨K,I2,by dsimp only;lia⟩ (fun _=>rfl))
 rw[decide_eq_false w,if_neg (by simp)];have m:=I.m.nB H hz fun u hu=>m_ (by lia) (mK H.sb hy u hu)
 refine Qp (aX hz ?_);by_cases e:i+1+1=a.size
 ·rw[if_pos (by rw[e];exact beq_self_eq_true _)];exact Qw (h true _ ⟨K,H.p9 m e⟩ (fun z=>nomatch z))
 rw[if_neg (by simpa using e)];have I2:LI rk a b (out.push z) (i+1) j:=⟨m,by have:=I.i;lia,I.j⟩;split
 ·exact Qw (h true _ ⟨K,I2,by dsimp only;lia⟩ (fun z=>nomatch z))
 exact Qw (h false _ ⟨K,I2,by dsimp only;lia⟩ (fun _=>rfl))
theorem G1{out:Array Ql}{i j mg ca cb lo:Nat}{st st':Qq}{Q:ForInStep GS->Qq->Prop}(H:LoOk rk S a b)(K:Keep st st')(I:LI rk a b out i j)(hc:∀z,a[i]?=some z->∀u∈b.toList.drop j,rk z<=rk u)(hl:lo<=i+j)
  (h:∀(d:Bool) (c:GS),gu rk a b lo st c.1 c.2.1 c.2.2.1 c.2.2.2.1 st'->(d=false->c.1=none)->Q (if d=true then Qu c else QD c) st'):wpS M A E s (g3 a b out i j mg ca cb) Q st':=by
 have hi:i<a.size:=by have:=I.i;lia
 obtain⟨z,hz⟩:∃z,a[i]?=some z:=⟨_,i_ hi⟩;unfold g3;have m:=I.m.nB H hz (hc z hz);refine Qp (aX hz ?_);by_cases e:i+1+1=a.size
 ·rw[if_pos (by rw[e];exact beq_self_eq_true _)];exact Qw (h true _ ⟨K,H.p9 m e⟩ (fun z=>nomatch z))
 rw[if_neg (by simpa using e)];have I2:LI rk a b (out.push z) (i+1) j:=⟨m,by have:=I.i;lia,I.j⟩;split
 ·exact Qw (h true _ ⟨K,I2,by dsimp only;lia⟩ (fun z=>nomatch z))
 exact Qw (h false _ ⟨K,I2,by dsimp only;lia⟩ (fun _=>rfl))
theorem G8{out:Array Ql}{i j mg ca cb lo:Nat}{st st':Qq}{Q:ForInStep GS->Qq->Prop}(L:cM M A E s kd rk S)(H:LoOk rk S a b)(hk:kindOf st=kd)(K:Keep st st')(I:LI rk a b out i j)(hc:∀y,b[j]?=some y->∀u∈a.toList.drop i,rk y<=rk u)(hl:lo<=i+j)
  (h:∀(d:Bool) (c:GS),gu rk a b lo st c.1 c.2.1 c.2.2.1 c.2.2.2.1 st'->(d=false->c.1=none)->Q (if d=true then Qu c else QD c) st'):wpS M A E s (g2 a b out i j mg ca cb) Q st':=by
 have hi:i<a.size:=by have:=I.i;lia
 obtain⟨y,hy⟩:∃y,b[j]?=some y:=⟨_,i_ I.j⟩;obtain⟨z,hz⟩:∃z,a[i]?=some z:=⟨_,i_ hi⟩;unfold g2;have m:=I.m.nR H hy (hc y hy);refine Qp (aX hy ?_);by_cases e:j+1=b.size
 ·rw[if_pos (by rw[e];exact beq_self_eq_true _)];exact Qw (h true _ ⟨K,H.mI m (.inr (by lia))⟩ (fun z=>nomatch z))
 rw[if_neg (by simpa using e)];have hj:j+1<b.size:=by have:=I.j;lia
 refine Qp (aX hz (Qp (jJ L (K.k.trans hk) (by lia) (by lia) H.Sb (H.Sa _ _ hz) (fun p q x w h1 h2 h3 h4=>qx H.sb (i:=j+1+p) (j:=j+1+q) (by(clear h4 h3 h2 hj e m hz hy hi h hl hc I K hk H L;lia)) (by rw[f_];exact h3) (by rw[f_];exact h4)) fun k k1 k2 k3=>?_)));dsimp only;have after:∀u∈b.toList.drop (j+1+k),rk z<=rk u:=fun u hu=>by obtain⟨p,hp⟩:=jy hu;rw[f_]at hp;have hlt:j+1+k+p<b.size:=(Ni.mp hp).1;have:=k3 (k+p) u (by lia) (by(clear hp hu k3 k2 k1 hj e m hz hy hi h hl hc I K hk H L;lia)) (by rw[show j+1+(k+p)=j+1+k+p by(clear hlt hp hu k3 k2 k1 hj e m hz hy hi h hl hc I K hk H L;lia)];exact hp);simpa using this
 by_cases pk:k > 0
 ·rw[if_pos pk];have m2:MS rk a.toList b.toList (out.push y++b.extract (j+1) (j+1+k)).toList i (j+1+k):=by rw[Lu,mY];refine m.tq H.sb fun u hu w hw=>?_;obtain⟨p,hp1,hp⟩:=dC hu;rw[f_]at hp;have:=k2 p u hp1 hp;simp only[if_true]at this;exact m_ (K_ this) (mK H.sa hz w hw)
  by_cases e2:j+1+k=b.size
  ·rw[if_pos (by rw[e2];exact beq_self_eq_true _)];exact Qw (h true _ ⟨K,H.mI m2 (.inr (by(clear m2 pk after k3 k2 k1 hj e m hz hy hi h hl hc I K hk H L;lia)))⟩ (fun z=>nomatch z))
  rw[if_neg (by simpa using e2)];refine G1 H K ⟨m2,I.i,by(clear m2 after k3 k2 hj e m hz hy hi h hl hc I K hk H L;lia)⟩ (fun z' hz'=>?_) (by(clear e2 m2 pk after k3 k2 k1 hj e m hz hy hi h hc I K hk H L;lia)) h;rw[hz]at hz';cases hz';exact after
 rw[if_neg pk];have k0:k=0:=by lia
 subst k0;refine G1 H K ⟨m,I.i,by(clear pk after k3 k2 k1 e m hz hy hi h hl hc I K hk H L;omega)⟩ (fun z' hz'=>?_) (by lia) h;rw[hz]at hz';cases hz';exact after
theorem J1{out:Array Ql}{i j mg ca cb:Nat}{st st':Qq}{Q:ForInStep GS->Qq->Prop}(L:cM M A E s kd rk S)(H:LoOk rk S a b)(hk:kindOf st=kd)(K:Keep st st')(I:LI rk a b out i j)
  (h:∀(d:Bool) (c:GS) (st2:Qq),gu rk a b (i+j) st c.1 c.2.1 c.2.2.1 c.2.2.2.1 st2->(d=false->c.1=none)->Q (if d=true then Qu c else QD c) st2):wpS M A E s (g1 a b out i j mg ca cb) Q st':=by
 have hi:i<a.size:=by have:=I.i;lia
 obtain⟨y,hy⟩:∃y,b[j]?=some y:=⟨_,i_ I.j⟩;unfold g1;refine Qp (pg (Qp (aX hy ?_)));have K2:=K.g mg;revert K2;generalize Ry (kindOf st') (Qm st') (QB st') mg (QZ st')=st2;intro K2;refine Qp (jJ L (K2.k.trans hk) (by lia) (by lia) H.Sa (H.Sb _ _ hy) (fun p q x w h1 h2 h3 h4=>qx H.sa (i:=i+p) (j:=i+q) (by lia) (by rw[f_];exact h3) (by rw[f_];exact h4)) fun k k1 k2 k3=>?_);dsimp only;have after:∀u∈a.toList.drop (i+k),rk y<=rk u:=fun u hu=>by obtain⟨p,hp⟩:=jy hu;rw[f_]at hp;have hlt:i+k+p<a.size:=(Ni.mp hp).1;have:=k3 (k+p) u (by lia) (by lia) (by rw[show i+(k+p)=i+k+p by lia];exact hp);simp at this;lia
 by_cases pk:k > 0
 ·rw[if_pos pk];have m2:MS rk a.toList b.toList (out++a.extract i (i+k)).toList (i+k) j:=by rw[Lu,mY];refine I.m.u9 H.sa fun u hu w hw=>?_;obtain⟨p,hp1,hp⟩:=dC hu;rw[f_]at hp;have:=k2 p u hp1 hp;simp at this;exact m_ this (mK H.sb hy w hw)
  by_cases e1:i+k+1=a.size
  ·rw[if_pos (by rw[e1];exact beq_self_eq_true _)];exact Qw (h true _ _ ⟨K2,H.p9 m2 e1⟩ (fun z=>nomatch z))
  rw[if_neg (by simpa using e1)];by_cases e2:i+k=a.size
  ·rw[if_pos (by rw[e2];exact beq_self_eq_true _)];exact Qw (h true _ _ ⟨K2,H.mI m2 (.inl (by lia))⟩ (fun z=>nomatch z))
  rw[if_neg (by simpa using e2)];refine G8 L H hk K2 ⟨m2,by(clear m2 after k3 k2 K2 hy hi h I K hk H L;lia),I.j⟩ (fun y' hy'=>?_) (by lia) fun d c x1 x2=>h d c _ x1 x2
  rw[hy]at hy';cases hy';exact after
 rw[if_neg pk];have k0:k=0:=by lia
 subst k0;refine G8 L H hk K2 I (fun y' hy'=>?_) (b_ _) fun d c x1 x2=>h d c _ x1 x2;rw[hy]at hy';cases hy';exact after
theorem Iq{st:Qq}{Q:Array Ql->Qq->Prop}(L:cM M A E s kd rk S)(H:LoOk rk S a b)(hk:kindOf st=kd)(h:∀r st',Keep st st'->Res rk a.toList b.toList r.toList->Q r st')(hr:∀x,Qn M A (rule x) (fun _ s'=>s'=s) E s):wpS M A E s (mLo a b) Q st:=by
 rw[EN];obtain⟨y,hy⟩:∃y,b[0]?=some y:=⟨_,i_ H.pb⟩;have rl:∀{x:String}{R:Unit->Qq->Prop}{st':Qq},R () st'->wpS M A E s (liftM (rule x):StateT Qq Sem Unit) R st':=fun{x R st'} q=>T' (QM (hr x) (fun _ _ z=>⟨z,q⟩) fun _ _ z=>z);refine Qp (rl (Qp (aX hy ?_)));have m0:MS rk a.toList b.toList (#[]:Array Ql).toList 0 0:=⟨by simp,NG,fun x hx=>by simp at hx⟩;have m1:MS rk a.toList b.toList (#[y]:Array Ql).toList 0 1:=m0.nR H hy fun z hz=>H.first y hy z (by simpa using hz)
 by_cases e1:1=b.size
 ·rw[if_pos (by rw[<-e1];rfl)];exact Qw (h _ _ .ck (H.mI m1 (.inr (by lia))))
 rw[if_neg (by simpa using e1)];by_cases e2:0+1=a.size
 ·rw[if_pos (by rw[<-e2];rfl)];exact Qw (h _ _ .ck (H.p9 m1 e2))
 rw[if_neg (by simpa using e2)];refine Qp (Sy ?_);have pa:=H.pa;have pb:=H.pb;refine Qp (Rj (Q2 (I:=fun x (c:OS) st'=>c.1=none/\Keep st st'/\LI rk a b c.2.1 c.2.2.1 c.2.2.2.1/\x<c.2.2.1+c.2.2.2.1) (Q:=fun(c:OS) st'=>∃q,c.1=some q/\Keep st st'/\Res rk a.toList b.toList q.toList) ?_ ?_ ⟨rfl,.ck,⟨m1,by dsimp only;lia,by dsimp only;lia⟩,by show 0<0+1;lia⟩) ?_)
 ·rintro x ⟨c1,out,i,j,mg⟩ st1 _ hx ⟨rfl,K1,I1,px⟩;unfold oLo;dsimp only at I1 px ⊢;refine Qp (Rj (Q2 (I:=fun x (c:FS) st'=>c.1=none/\Keep st st'/\LI rk a b c.2.1 c.2.2.1 c.2.2.2.1/\i+j+x<=c.2.2.1+c.2.2.2.1) (Q:=fun(c:FS) st'=>gu rk a b (i+j) st c.1 c.2.1 c.2.2.1 c.2.2.2.1 st') ?_ ?_ ⟨rfl,K1,I1,b_ _⟩) ?_)
  ·rintro x2 ⟨d1,out2,i2,j2,ca,cb⟩ st2 _ hx2 ⟨rfl,K2,I2,p2⟩;dsimp only at I2 p2 ⊢;refine JK L H hk K2 I2 fun d c hs hn=>?_;cases d with
   |true=>
    show gu _ _ _ _ _ _ _ _ _ _;refine⟨hs.1,?_⟩;have h2:=hs.2;cases e:c.1 with
    |some q=>rw[e]at h2;exact h2
    |none=>rw[e]at h2;exact⟨h2.1,by have:=h2.2;(clear e h2 hn hs I2 K2 hx2 px I1 K1 hx pb pa e2 e1 m1 m0 rl hy hr h hk H L;lia)⟩
   |false=>
    have h2:=hs.2;rw[hn rfl]at h2;exact⟨hn rfl,hs.1,h2.1,by have:=h2.2;(clear h2 hn hs I2 K2 hx2 px I1 K1 hx pb pa e2 e1 m1 m0 rl hy hr h hk H L;lia)⟩
  ·rintro⟨c1,out2,i2,j2,ca,cb⟩ st2 ⟨rfl,K2,I2,p2⟩;dsimp only at I2 p2 ⊢;have:=I2.i;have:=I2.j
   (clear I2 K2 px I1 K1 hx pb pa e2 e1 m1 m0 rl hy hr h hk H L;lia)
  rintro⟨c1,out2,i2,j2,ca,cb⟩ st2 ⟨K2,h2⟩;cases c1 with
  |some q=>exact Qw ⟨q,rfl,K2,h2⟩
  |none=>
   obtain⟨I2,p2⟩:=h2;dsimp only at I2 p2 ⊢;refine Qp (rl ?_);refine Qp (Rj (Q2 (I:=fun _ (c:GS) st'=>c.1=none/\Keep st st'/\LI rk a b c.2.1 c.2.2.1 c.2.2.2.1/\i+j<c.2.2.1+c.2.2.2.1) (Q:=fun(c:GS) st'=>gu rk a b (i+j) st c.1 c.2.1 c.2.2.1 c.2.2.2.1 st') ?_ ?_ ⟨rfl,K2,I2,p2⟩) ?_)
   ·rintro x3 ⟨d1,out3,i3,j3,mg3,ca3,cb3⟩ st3 _ hx3 ⟨rfl,K3,I3,p3⟩;dsimp only at I3 p3 ⊢;have go:∀mg',wpS M A E s (g1 a b out3 i3 j3 mg' ca3 cb3) (fun r st'=>match r with | .done c'=>gu rk a b (i+j) st c'.1 c'.2.1 c'.2.2.1 c'.2.2.2.1 st' | .yield c'=>c'.1=none/\Keep st st'/\LI rk a b c'.2.1 c'.2.2.1 c'.2.2.2.1/\i+j<c'.2.2.1+c'.2.2.2.1) st3:=fun mg'=>by
     refine J1 L H hk K3 I3 fun d c st4 hs hn=>?_;cases d with
     |true=>
      show gu _ _ _ _ _ _ _ _ _ _;refine⟨hs.1,?_⟩;have h2:=hs.2;cases e:c.1 with
      |some q=>rw[e]at h2;exact h2
      |none=>rw[e]at h2;exact⟨h2.1,by have:=h2.2;(clear e h2 hn hs I3 K3 hx3 p2 I2 K2 px I1 K1 hx pb pa e2 e1 m1 m0 rl hy hr h hk H L;lia)⟩
     |false=>
      have h2:=hs.2;rw[hn rfl]at h2;exact⟨hn rfl,hs.1,h2.1,by have:=h2.2;(clear h2 hn hs I3 K3 hx3 p2 I2 K2 px I1 K1 hx pb pa e2 e1 m1 m0 rl hy hr h hk H L;lia)⟩
    split
    ·exact Rj (go _) fun r st' h=>by cases r <;> exact h
    exact Rj (go _) fun r st' h=>by cases r <;> exact h
   ·rintro⟨c1,out3,i3,j3,mg3,ca3,cb3⟩ st3 ⟨rfl,K3,I3,p3⟩;exact⟨K3,I3,p3⟩
   rintro⟨c1,out3,i3,j3,mg3,ca3,cb3⟩ st3 ⟨K3,h3⟩;cases c1 with
   |some q=>exact Qw ⟨q,rfl,K3,h3⟩
   |none=>
    obtain⟨I3,p3⟩:=h3;refine Qp (pg (Qw ⟨rfl,K3.g _,I3,?_⟩));dsimp only at p3 ⊢;lia
 ·rintro⟨c1,out,i,j,mg⟩ st1 ⟨rfl,K1,I1,px⟩;have h1:=I1.i;have h2:=I1.j;dsimp only at h1 h2 px
  (clear I1 K1 pb pa e2 e1 m1 m0 rl hy hr h hk H L;lia)
 rintro⟨c1,out,i,j,mg⟩ st1 ⟨q,e,K1,r⟩;dsimp only at e;subst e;exact Qw (h q st1 K1 r)
end
noncomputable def dnH(a b out:Array Ql)(i j:Nat):Array Ql:=a.extract 0 i++b.extract 0 j++out.reverse
noncomputable def fg(a b out:Array Ql)(i j:Nat):Array Ql:=b.extract 0 j++a.extract 0 i++out.reverse
theorem Hh(a b:Array Ql):mHi a b=(do
 rule "list.sort.merge-hi"
 let mut i:=a.size-1
 let mut j:=b.size
 let mut out:Array Ql:=#[<-Q3 a i]
 if i == 0 then return dnH a b out i j
 if j == 1 then return fg a b out i j
 let mut mg:=T_ (<-get)
 for _ in [0:a.size+b.size]do
  let mut ca:=0
  let mut cb:=0
  for _ in [0:a.size+b.size]do
   let some aw <-lt' (<-Q3 b (j-1)) (<-Q3 a (i-1)) | return dnH a b out i j
   if aw then
    i:=i-1;out:=out.push (<-Q3 a i);ca:=ca+1;cb:=0
    if i == 0 then return dnH a b out i j
    if ca>=mg then break
   else
    j:=j-1;out:=out.push (<-Q3 b j);cb:=cb+1;ca:=0
    if j == 1 then return fg a b out i j
    if cb>=mg then break
  rule "list.sort.gallop"
  mg:=mg+1
  for _ in [0:a.size+b.size]do
   if mg > 1 then mg:=mg-1
   setG mg
   let some at' <-gal false (<-Q3 b (j-1)) a 0 i (i-1) | return dnH a b out i j
   let k:=i-at'
   ca:=k
   if k > 0 then
    out:=out++(a.extract at' i).reverse;i:=at'
    if i == 0 then return dnH a b out i j
   j:=j-1;out:=out.push (<-Q3 b j)
   if j == 1 then return fg a b out i j
   let some at' <-gal true (<-Q3 a (i-1)) b 0 j (j-1) | return dnH a b out i j
   let k:=j-at'
   cb:=k
   if k > 0 then
    out:=out++(b.extract at' j).reverse;j:=at'
    if j == 1 then return fg a b out i j
    if j == 0 then return dnH a b out i j
   i:=i-1;out:=out.push (<-Q3 a i)
   if i == 0 then return dnH a b out i j
   if ca<7&&cb<7 then break
  mg:=mg+1
  setG mg
 unsupported "internal:list.sort.merge-bound"):=rfl
abbrev GT:=Option (Array Ql)×Nat×Nat×Array Ql×Nat×Nat×Nat
abbrev FT:=Option (Array Ql)×Nat×Nat×Array Ql×Nat×Nat
abbrev OT:=Option (Array Ql)×Nat×Nat×Array Ql×Nat
noncomputable def k3(a b out:Array Ql)(i j mg ca cb:Nat):StateT Qq Sem (ForInStep GT):=do
 let y <-Q3 a (i-1)
 if(i-1 == 0)=true then pure (Qu (some (dnH a b (out.push y) (i-1) j),i-1,j,out.push y,mg,ca,cb))
 else if(decide (ca<7)&&decide (cb<7))=true then pure (Qu (none,i-1,j,out.push y,mg,ca,cb))
 else pure (QD (none,i-1,j,out.push y,mg,ca,cb))
noncomputable def k2(a b out:Array Ql)(i j mg ca cb:Nat):StateT Qq Sem (ForInStep GT):=do
 let y <-Q3 b (j-1)
 if(j-1 == 1)=true then pure (Qu (some (fg a b (out.push y) i (j-1)),i,j-1,out.push y,mg,ca,cb))
 else do
  let z <-Q3 a (i-1)
  let some at' <-gal true z b 0 (j-1) (j-1-1) | pure (Qu (some (dnH a b (out.push y) i (j-1)),i,j-1,out.push y,mg,ca,cb))
  if j-1-at' > 0 then
    if(at' == 1)=true then pure (Qu (some (fg a b (out.push y++(b.extract at' (j-1)).reverse) i at'),i,at',out.push y++(b.extract at' (j-1)).reverse,mg,ca,j-1-at'))
    else if(at' == 0)=true then pure (Qu (some (dnH a b (out.push y++(b.extract at' (j-1)).reverse) i at'),i,at',out.push y++(b.extract at' (j-1)).reverse,mg,ca,j-1-at'))
    else k3 a b (out.push y++(b.extract at' (j-1)).reverse) i at' mg ca (j-1-at')
  else k3 a b (out.push y) i (j-1) mg ca (j-1-at')
noncomputable def k1(a b out:Array Ql)(i j mg ca cb:Nat):StateT Qq Sem (ForInStep GT):=do
 setG mg
 let y <-Q3 b (j-1)
 let some at' <-gal false y a 0 i (i-1) | pure (Qu (some (dnH a b out i j),i,j,out,mg,ca,cb))
 if i-at' > 0 then
   if(at' == 0)=true then pure (Qu (some (dnH a b (out++(a.extract at' i).reverse) at' j),at',j,out++(a.extract at' i).reverse,mg,i-at',cb))
   else k2 a b (out++(a.extract at' i).reverse) at' j mg (i-at') cb
 else k2 a b out i j mg (i-at') cb
noncomputable def e1(a b out:Array Ql)(i j ca cb mg:Nat):StateT Qq Sem (ForInStep FT):=do
 let y <-Q3 b (j-1)
 let z <-Q3 a (i-1)
 let some aw <-lt' y z | pure (Qu (some (dnH a b out i j),i,j,out,ca,cb))
 if aw=true then do
   let z <-Q3 a (i-1)
   if(i-1 == 0)=true then pure (Qu (some (dnH a b (out.push z) (i-1) j),i-1,j,out.push z,ca+1,0))
   else if ca+1>=mg then pure (Qu (none,i-1,j,out.push z,ca+1,0))else pure (QD (none,i-1,j,out.push z,ca+1,0))
 else do
   let y <-Q3 b (j-1)
   if(j-1 == 1)=true then pure (Qu (some (fg a b (out.push y) i (j-1)),i,j-1,out.push y,0,cb+1))
   else if cb+1>=mg then pure (Qu (none,i,j-1,out.push y,0,cb+1))else pure (QD (none,i,j-1,out.push y,0,cb+1))
noncomputable def oHi(a b:Array Ql)(c:OT):StateT Qq Sem (ForInStep OT):=do
 let r <-forIn [0:a.size+b.size] ((none,c.2.1,c.2.2.1,c.2.2.2.1,0,0):FT) fun _ d=>e1 a b d.2.2.2.1 d.2.1 d.2.2.1 d.2.2.2.2.1 d.2.2.2.2.2 c.2.2.2.2
 match r.1 with
 |some q=>pure (Qu (some q,r.2.1,r.2.2.1,r.2.2.2.1,c.2.2.2.2))
 |none=>do
  liftM (rule "list.sort.gallop")
  let e <-forIn [0:a.size+b.size] ((none,r.2.1,r.2.2.1,r.2.2.2.1,c.2.2.2.2+1,r.2.2.2.2.1,r.2.2.2.2.2):GT) fun _ d=>
   if d.2.2.2.2.1 > 1 then k1 a b d.2.2.2.1 d.2.1 d.2.2.1 (d.2.2.2.2.1-1) d.2.2.2.2.2.1 d.2.2.2.2.2.2 else k1 a b d.2.2.2.1 d.2.1 d.2.2.1 d.2.2.2.2.1 d.2.2.2.2.2.1 d.2.2.2.2.2.2
  match e.1 with
  |some q=>pure (Qu (some q,e.2.1,e.2.2.1,e.2.2.2.1,e.2.2.2.2.1))
  |none=>do
   setG (e.2.2.2.2.1+1)
   pure (QD (none,e.2.1,e.2.2.1,e.2.2.2.1,e.2.2.2.2.1+1))
set_option maxHeartbeats 2000000 in
theorem Eh(a b:Array Ql):mHi a b=(do
  liftM (rule "list.sort.merge-hi")
  let y <-Q3 a (a.size-1)
  if(a.size-1 == 0)=true then pure (dnH a b #[y] (a.size-1) b.size)
  else if(b.size == 1)=true then pure (fg a b #[y] (a.size-1) b.size)
  else do
   let st <-get
   let r <-forIn [0:a.size+b.size] ((none,a.size-1,b.size,#[y],T_ st):OT) fun _ c=>oHi a b c
   match r.1 with
   |some q=>pure q
   |none=>liftM (unsupported "internal:list.sort.merge-bound":Sem (Array Ql))):=by
 rw[Hh];unfold oHi;refine congrArg (bind _) (funext fun _=>?_);refine congrArg (bind _) (funext fun y=>?_);refine ite_congr rfl (fun _=>rfl) (fun _=>?_);refine ite_congr rfl (fun _=>rfl) (fun _=>?_);refine congrArg (bind _) (funext fun st=>?_);refine congr (congrArg bind (congrArg (forIn _ _) (funext fun _=>funext fun c=>?_))) ?_
 ·refine congr (congrArg bind (congrArg (forIn _ _) (funext fun _=>funext fun d=>?_))) ?_
  ·unfold e1
   rfl
  funext r;obtain⟨r1,r2⟩:=r;cases r1 with
  |some q=>rfl
  |none=>
   refine congrArg (bind _) (funext fun _=>?_);refine congr (congrArg bind (congrArg (forIn _ _) (funext fun _=>funext fun d=>?_))) ?_
   ·unfold k1;refine ite_congr rfl (fun _=>?_) (fun _=>?_)
    all_goals
     refine congrArg (bind _) (funext fun _=>?_);refine congrArg (bind _) (funext fun y=>?_);refine congrArg (bind _) (funext fun r=>?_);cases r with
     |none=>rfl
     |some k=>
      refine ite_congr rfl (fun _=>?_) (fun _=>?_)
      ·refine ite_congr rfl (fun _=>rfl) (fun _=>?_);unfold k2
       rfl
      unfold k2
      rfl
   funext e;obtain⟨e1,e2⟩:=e;cases e1 <;> rfl
 funext e;obtain⟨e1,e2⟩:=e;cases e1 <;> rfl
section
variable{rk:Ql->Nat}
structure MH (rk:Ql->Nat) (a b o:List Ql) (i j:Nat):Prop where
 perm:o.Perm (a.drop i++b.drop j)
 srt:Srt rk o
 le:∀x∈o,(∀y∈a.take i,rk y<=rk x)/\∀y∈b.take j,rk y<=rk x
theorem vb{l:List Ql}{i t:Nat}(h:t<=i):l.drop t=(l.take i).drop t++l.drop i:=by
 by_cases hi:i<=l.length
 ·have e:=F_ i l;have h2:(l.take i++l.drop i).drop t=(l.take i).drop t++l.drop i:=N3 (by rw[D'];lia);rw[e]at h2;exact h2
 rw[Ma (by lia),Mq (by lia:l.length<=i),E_]
theorem mM{l:List Ql}{i t:Nat}(h:t<=i):l.take i=l.take t++(l.take i).drop t:=by have:=F_ t (l.take i);rw[List.take_take,OH h]at this;exact this.symm
theorem MH.u9 {a b o:List Ql}{i j t:Nat}(h:MH rk a b o i j)(sa:Srt rk a)(ht:t<=i)(hc:∀y∈(a.take i).drop t,∀z∈b.take j,rk z<=rk y):MH rk a b ((a.take i).drop t++o) t j:=by
 have st:Srt rk (a.take i):=LH (M1 _ _) sa;refine⟨?_,?_,fun x hx=>?_⟩
 ·rw[vb (l:=a) ht,k_];exact LJ _ h.perm
 ·exact C_.mpr ⟨LH (M4 _ _) st,h.srt,fun x hx y hy=>(h.le y hy).1 x (Nd hx)⟩
 rcases v_.mp hx with hx|hx
 ·refine⟨fun y hy=>?_,hc x hx⟩;rw[mM ht]at st;exact(C_.mp st).2.2 y hy x hx
 refine⟨fun y hy=>(h.le x hx).1 y ?_,(h.le x hx).2⟩;rw[mM ht];exact w_ _ hy
theorem MH.tq {a b o:List Ql}{i j t:Nat}(h:MH rk a b o i j)(sb:Srt rk b)(ht:t<=j)(hc:∀y∈(b.take j).drop t,∀z∈a.take i,rk z<=rk y):MH rk a b ((b.take j).drop t++o) i t:=by
 have st:Srt rk (b.take j):=LH (M1 _ _) sb;refine⟨?_,?_,fun x hx=>?_⟩
 ·rw[vb (l:=b) ht];refine(LJ _ h.perm).trans ?_;rw[<-k_,<-k_];exact OM _ Md
 ·exact C_.mpr ⟨LH (M4 _ _) st,h.srt,fun x hx y hy=>(h.le y hy).2 x (Nd hx)⟩
 rcases v_.mp hx with hx|hx
 ·refine⟨hc x hx,fun y hy=>?_⟩;rw[mM ht]at st;exact(C_.mp st).2.2 y hy x hx
 refine⟨(h.le x hx).1,fun y hy=>(h.le x hx).2 y ?_⟩;rw[mM ht];exact w_ _ hy
theorem MH.done {a b o:List Ql}{i j:Nat}(h:MH rk a b o i j)(sa:Srt rk a)(sb:Srt rk b)(e:i=0\/j=0):Res rk a b (a.take i++b.take j++o):=by
 have h1:=h.tq (t:=0) sb (B_ _) fun y hy z hz=>by
  rcases e with e|e
  ·rw[e]at hz;simp at hz
  rw[e]at hy;simp at hy
 have h2:=h1.u9 (t:=0) sa (B_ _) fun y hy z hz=>by simp at hz
 have p:=h2.perm;have q:=h2.srt;simp only[M8]at p q;rw[k_];exact⟨p,q⟩
theorem MH.first {a b o:List Ql}{i j:Nat}(h:MH rk a b o i j)(sa:Srt rk a)(sb:Srt rk b)(e:∀y∈a.take i,∀z∈b.take j,rk z<=rk y):Res rk a b (b.take j++a.take i++o):=by
 have h1:=h.u9 (t:=0) sa (B_ _) fun y hy z hz=>e y (by rw[M8]at hy;exact hy) z hz
 have h2:=h1.tq (t:=0) sb (B_ _) fun y hy z hz=>by simp at hz
 have p:=h2.perm;have q:=h2.srt;simp only[M8]at p q;rw[k_];exact⟨p,q⟩
theorem oU(a:Array Ql)(i:Nat):(a.extract 0 i).toList=a.toList.take i:=by rw[Ng,ML,M8,Nat.sub_zero]
theorem yy(a:Array Ql)(t i:Nat):(a.extract t i).toList=(a.toList.take i).drop t:=by rw[Ng,ML,List.drop_take]
theorem take_one{l:List Ql}{i:Nat}{y:Ql}(h0:0<i)(h:l[i-1]?=some y):(l.take i).drop (i-1)=[y]:=by
 obtain⟨hl,e⟩:=d_.mp h;have:l.take i=l.take (i-1)++[y]:=by
  conv=>lhs;rw[show i=i-1+1 by lia,LL,h]
  rfl
 rw[this,N3 (by rw[D'];omega),Mq (by rw[D'];omega)]
 rfl
theorem jK{l:List Ql}{i:Nat}{y:Ql}(h:y∈l.take i):∃j,j<i/\l[j]?=some y:=by
 obtain⟨j,hj⟩:=M7.mp h;rw[MW]at hj;split at hj
 ·next hlt=>exact⟨j,hlt,hj⟩
 cases hj
theorem vc{l:List Ql}{t i:Nat}{y:Ql}(h:y∈(l.take i).drop t):∃j,t<=j/\j<i/\l[j]?=some y:=by
 obtain⟨j,hj⟩:=jy h;rw[MW]at hj;split at hj
 ·next hlt=>exact⟨t+j,by lia,hlt,hj⟩
 cases hj
end
section
variable{M:Se}{A:QE}{E:Qf->Qi->Prop}{s:Qi}{kd:Rf}{rk:Ql->Nat}{S:Ql->Prop}{a b:Array Ql}
abbrev MHo(rk:Ql->Nat)(a b out:Array Ql)(i j:Nat):Prop:=MH rk a.toList b.toList out.toList.reverse i j
theorem LoOk.vq (h:LoOk rk S a b){out:Array Ql}{i j:Nat}(m:MHo rk a b out i j)(e:i=0\/j=0):Res rk a.toList b.toList (dnH a b out i j).toList:=by unfold dnH;rw[Lu,Lu,oU,oU,Mm];exact m.done h.sa h.sb e
theorem LoOk.uq (h:LoOk rk S a b){out:Array Ql}{i j:Nat}(m:MHo rk a b out i j)(e:j=1):Res rk a.toList b.toList (fg a b out i j).toList:=by
 unfold fg;rw[Lu,Lu,oU,oU,Mm];refine m.first h.sa h.sb fun y hy z hz=>?_;subst e;obtain⟨k,hk,hz'⟩:=jK hz;have k0:k=0:=by lia
 subst k0;exact h.first z (by rw[<-f_];exact hz') y (Ml hy)
structure HI (rk:Ql->Nat) (a b out:Array Ql) (i j:Nat):Prop where
 m:MHo rk a b out i j
 i0:0<i
 j1:1<j
 ia:i<=a.size
 jb:j<=b.size
theorem MH.nB {out:Array Ql}{i j:Nat}(m:MHo rk a b out i j)(H:LoOk rk S a b)(h0:0<i){y:Ql}(hy:a[i-1]?=some y)(hc:∀z∈b.toList.take j,rk z<=rk y):MHo rk a b (out.push y) (i-1) j:=by
 have hy':a.toList[i-1]?=some y:=by rw[f_];exact hy
 have:=m.u9 (t:=i-1) H.sa (by lia) (by rw[take_one h0 hy'];intro w hw;rw[z_.mp hw];exact hc);rw[take_one h0 hy']at this;show MH _ _ _ (out.push y).toList.reverse _ _;rw[Mx,Nk];exact this
theorem MH.nR {out:Array Ql}{i j:Nat}(m:MHo rk a b out i j)(H:LoOk rk S a b)(h0:0<j){y:Ql}(hy:b[j-1]?=some y)(hc:∀z∈a.toList.take i,rk z<=rk y):MHo rk a b (out.push y) i (j-1):=by
 have hy':b.toList[j-1]?=some y:=by rw[f_];exact hy
 have:=m.tq (t:=j-1) H.sb (by lia) (by rw[take_one h0 hy'];intro w hw;rw[z_.mp hw];exact hc);rw[take_one h0 hy']at this;show MH _ _ _ (out.push y).toList.reverse _ _;rw[Mx,Nk];exact this
theorem mh{l:Array Ql}{i:Nat}{y:Ql}(srt:Srt rk l.toList)(hy:l[i-1]?=some y):∀z∈l.toList.take i,rk z<=rk y:=fun z hz=>by obtain⟨k,hk,hz'⟩:=jK hz;exact qx srt (i:=k) (j:=i-1) (by lia) hz' (by rw[f_];exact hy)
noncomputable def mF(rk:Ql->Nat)(a b:Array Ql)(lo:Nat)(st:Qq)(r:Option (Array Ql))(out:Array Ql)(i j:Nat)(st':Qq):Prop:=
 Keep st st'/\match r with
 |some q=>Res rk a.toList b.toList q.toList
 |none=>HI rk a b out i j/\i+j<lo
theorem HI.get (I:HI rk a b out i j):(∃y,b[j-1]?=some y)/\∃z,a[i-1]?=some z:=
 ⟨⟨_,i_ (y_ (Om (NU MY I.j1) MY) I.jb)⟩,⟨_,i_ (y_ (Om I.i0 MY) I.ia)⟩⟩
theorem JN{out:Array Ql}{i j ca cb mg:Nat}{st st':Qq}{Q:ForInStep FT->Qq->Prop}(L:cM M A E s kd rk S)(H:LoOk rk S a b)(hk:kindOf st=kd)(K:Keep st st')(I:HI rk a b out i j)
  (h:∀(d:Bool) (c:FT),mF rk a b (i+j) st c.1 c.2.2.2.1 c.2.1 c.2.2.1 st'->(d=false->c.1=none)->Q (if d=true then Qu c else QD c) st'):wpS M A E s (e1 a b out i j ca cb mg) Q st':=by
 obtain⟨⟨y,hy⟩,⟨z,hz⟩⟩:=I.get;have i0:=I.i0;have j1:=I.j1;have ia:=I.ia;have jb:=I.jb;unfold e1;refine Qp (aX hy (Qp (aX hz (Qp (L y z st' _ (H.Sb _ _ hy) (H.Sa _ _ hz) (K.k.trans hk) ?_)))));dsimp only;by_cases w:rk y<rk z
 ·rw[decide_eq_true w,if_pos rfl];have m:=I.m.nB H i0 hz fun u hu=>m_ (mh H.sb hy u hu) (K_ w);refine Qp (aX hz ?_);by_cases e:i-1=0
  ·rw[if_pos (by rw[e];rfl)];exact Qw (h true _ ⟨K,H.vq m (.inl e)⟩ (fun z=>nomatch z))
  rw[if_neg (by simpa using e)];have I2:HI rk a b (out.push z) (i-1) j:=⟨m,LM e,j1,m_ (LZ ..) ia,jb⟩;split
  ·exact Qw (h true _ ⟨K,I2,by dsimp only;lia⟩ (fun z=>nomatch z))
  exact Qw (h false _ ⟨K,I2,by dsimp only;lia⟩ (fun _=>rfl))
 rw[decide_eq_false w,if_neg (by simp)];have m:=I.m.nR H (by lia) hy fun u hu=>m_ (mh H.sa hz u hu) (by lia)
 refine Qp (aX hy ?_);by_cases e:j-1=1
 ·rw[if_pos (by rw[e];rfl)];exact Qw (h true _ ⟨K,H.uq m e⟩ (fun z=>nomatch z))
 rw[if_neg (by simpa using e)];have I2:HI rk a b (out.push y) i (j-1):=⟨m,i0,by lia,ia,m_ (LZ ..) jb⟩;split
 ·exact Qw (h true _ ⟨K,I2,by dsimp only;lia⟩ (fun z=>nomatch z))
 exact Qw (h false _ ⟨K,I2,by dsimp only;lia⟩ (fun _=>rfl))
theorem FL{out:Array Ql}{i j mg ca cb lo:Nat}{st st':Qq}{Q:ForInStep GT->Qq->Prop}(H:LoOk rk S a b)(K:Keep st st')(I:HI rk a b out i j)(hc:∀z,a[i-1]?=some z->∀u∈b.toList.take j,rk u<=rk z)(hl:i+j<=lo)
  (h:∀(d:Bool) (c:GT),mF rk a b lo st c.1 c.2.2.2.1 c.2.1 c.2.2.1 st'->(d=false->c.1=none)->Q (if d=true then Qu c else QD c) st'):wpS M A E s (k3 a b out i j mg ca cb) Q st':=by
 obtain⟨⟨y,hy⟩,⟨z,hz⟩⟩:=I.get;have i0:=I.i0;have j1:=I.j1;have ia:=I.ia;have jb:=I.jb;unfold k3;have m:=I.m.nB H i0 hz (hc z hz);refine Qp (aX hz ?_);by_cases e:i-1=0
 ·rw[if_pos (by rw[e];rfl)];exact Qw (h true _ ⟨K,H.vq m (.inl e)⟩ (fun z=>nomatch z))
 rw[if_neg (by simpa using e)];have I2:HI rk a b (out.push z) (i-1) j:=⟨m,LM e,j1,m_ (LZ ..) ia,jb⟩;split
 ·exact Qw (h true _ ⟨K,I2,by dsimp only;lia⟩ (fun z=>nomatch z))
 exact Qw (h false _ ⟨K,I2,by dsimp only;lia⟩ (fun _=>rfl))
theorem MHo.block {out:Array Ql}{i j t:Nat}(m:MHo rk a b out i j)(H:LoOk rk S a b)(ht:t<=j)(hc:∀y∈(b.toList.take j).drop t,∀z∈a.toList.take i,rk z<=rk y):MHo rk a b (out++(b.extract t j).reverse) i t:=by have:=m.tq H.sb ht hc;show MH _ _ _ (out++(b.extract t j).reverse).toList.reverse _ _;rw[Lu,Nk,Mm,OV,yy];exact this
theorem MHo.GF {out:Array Ql}{i j t:Nat}(m:MHo rk a b out i j)(H:LoOk rk S a b)(ht:t<=i)(hc:∀y∈(a.toList.take i).drop t,∀z∈b.toList.take j,rk z<=rk y):MHo rk a b (out++(a.extract t i).reverse) t j:=by have:=m.u9 H.sa ht hc;show MH _ _ _ (out++(a.extract t i).reverse).toList.reverse _ _;rw[Lu,Nk,Mm,OV,yy];exact this
theorem FY{out:Array Ql}{i j mg ca cb lo:Nat}{st st':Qq}{Q:ForInStep GT->Qq->Prop}(L:cM M A E s kd rk S)(H:LoOk rk S a b)(hk:kindOf st=kd)(K:Keep st st')(I:HI rk a b out i j)(hc:∀y,b[j-1]?=some y->∀u∈a.toList.take i,rk u<=rk y)(hl:i+j<=lo)
  (h:∀(d:Bool) (c:GT),mF rk a b lo st c.1 c.2.2.2.1 c.2.1 c.2.2.1 st'->(d=false->c.1=none)->Q (if d=true then Qu c else QD c) st'):wpS M A E s (k2 a b out i j mg ca cb) Q st':=by
 obtain⟨⟨y,hy⟩,⟨z,hz⟩⟩:=I.get;have i0:=I.i0;have j1:=I.j1;have ia:=I.ia;have jb:=I.jb;unfold k2;have m:=I.m.nR H (by lia) hy (hc y hy);refine Qp (aX hy ?_);by_cases e:j-1=1
 ·rw[if_pos (by rw[e];rfl)];exact Qw (h true _ ⟨K,H.uq m e⟩ (fun z=>nomatch z))
 rw[if_neg (by simpa using e)];refine Qp (aX hz (Qp (jJ L (K.k.trans hk) (by lia) (by lia) H.Sb (H.Sa _ _ hz) (fun p q x w h1 h2 h3 h4=>qx H.sb (i:=0+p) (j:=0+q) (by lia) (by rw[f_];exact h3) (by rw[f_];exact h4)) fun t t1 t2 t3=>?_)));dsimp only;have before:∀u∈b.toList.take t,rk u<=rk z:=fun u hu=>by obtain⟨p,hp1,hp⟩:=jK hu;rw[f_]at hp;have:=t2 p u hp1 (by rw[Nw];exact hp);simp at this;lia
 by_cases pk:j-1-t > 0
 ·rw[if_pos pk];have m2:MHo rk a b (out.push y++(b.extract t (j-1)).reverse) i t:=by
   refine MHo.block m H (by omega) fun u hu w hw=>?_
   obtain⟨p,hp0,hp1,hp⟩:=vc hu;rw[f_]at hp;have:=t3 p u hp0 hp1 (by rw[Nw];exact hp);simp at this;exact m_ (mh H.sa hz w hw) this
  by_cases e1:t=1
  ·rw[if_pos (by rw[e1];rfl)];exact Qw (h true _ ⟨K,H.uq m2 e1⟩ (fun z=>nomatch z))
  rw[if_neg (by simpa using e1)];by_cases e2:t=0
  ·rw[if_pos (by rw[e2];rfl)];exact Qw (h true _ ⟨K,H.vq m2 (.inr e2)⟩ (fun z=>nomatch z))
  rw[if_neg (by simpa using e2)];refine FL H K ⟨m2,i0,MX (LM e2) (R6 e1),ia,m_ t1 (m_ (LZ ..) jb)⟩ (fun z' hz'=>?_) (by lia) h;rw[hz]at hz';cases hz';exact before
 rw[if_neg pk];have k0:t=j-1:=by lia
 refine FL H K ⟨m,i0,by lia,ia,m_ (LZ ..) jb⟩ (fun z' hz'=>?_) (by lia) h;rw[hz]at hz';cases hz';rw[k0]at before;exact before
theorem Kz{out:Array Ql}{i j mg ca cb:Nat}{st st':Qq}{Q:ForInStep GT->Qq->Prop}(L:cM M A E s kd rk S)(H:LoOk rk S a b)(hk:kindOf st=kd)(K:Keep st st')(I:HI rk a b out i j)
  (h:∀(d:Bool) (c:GT) (st2:Qq),mF rk a b (i+j) st c.1 c.2.2.2.1 c.2.1 c.2.2.1 st2->(d=false->c.1=none)->Q (if d=true then Qu c else QD c) st2):wpS M A E s (k1 a b out i j mg ca cb) Q st':=by
 obtain⟨⟨y,hy⟩,⟨z,hz⟩⟩:=I.get;have i0:=I.i0;have j1:=I.j1;have ia:=I.ia;have jb:=I.jb;unfold k1;refine Qp (pg (Qp (aX hy ?_)));have K2:=K.g mg;revert K2;generalize Ry (kindOf st') (Qm st') (QB st') mg (QZ st')=st2;intro K2;refine Qp (jJ L (K2.k.trans hk) (by lia) (by lia) H.Sa (H.Sb _ _ hy) (fun p q x w h1 h2 h3 h4=>qx H.sa (i:=0+p) (j:=0+q) (by lia) (by rw[f_];exact h3) (by rw[f_];exact h4)) fun t t1 t2 t3=>?_);dsimp only;have before:∀u∈a.toList.take t,rk u<=rk y:=fun u hu=>by obtain⟨p,hp1,hp⟩:=jK hu;rw[f_]at hp;have:=t2 p u hp1 (by rw[Nw];exact hp);simpa using this
 by_cases pk:i-t > 0
 ·rw[if_pos pk];have m2:MHo rk a b (out++(a.extract t i).reverse) t j:=by
   refine MHo.GF I.m H (by omega) fun u hu w hw=>?_
   obtain⟨p,hp0,hp1,hp⟩:=vc hu;rw[f_]at hp;have:=t3 p u hp0 hp1 (by rw[Nw];exact hp);simp at this;exact m_ (mh H.sb hy w hw) (K_ this)
  by_cases e2:t=0
  ·rw[if_pos (by rw[e2];rfl)];exact Qw (h true _ _ ⟨K2,H.vq m2 (.inl e2)⟩ (fun z=>nomatch z))
  rw[if_neg (by simpa using e2)];refine FY L H hk K2 ⟨m2,by lia,j1,by lia,jb⟩ (fun y' hy'=>?_) (by lia) fun d c x1 x2=>h d c _ x1 x2
  rw[hy]at hy';cases hy';exact before
 rw[if_neg pk];have k0:t=i:=by lia
 rw[k0]at before;refine FY L H hk K2 I (fun y' hy'=>?_) (b_ _) fun d c x1 x2=>h d c _ x1 x2;rw[hy]at hy';cases hy';exact before
theorem Iu{st:Qq}{Q:Array Ql->Qq->Prop}(L:cM M A E s kd rk S)(H:LoOk rk S a b)(hk:kindOf st=kd)(h:∀r st',Keep st st'->Res rk a.toList b.toList r.toList->Q r st')(hr:∀x,Qn M A (rule x) (fun _ s'=>s'=s) E s):wpS M A E s (mHi a b) Q st:=by
 rw[Eh];have pa:=H.pa;have pb:=H.pb;obtain⟨y,hy⟩:∃y,a[a.size-1]?=some y:=⟨_,i_ (by lia)⟩;have rl:∀{x:String}{R:Unit->Qq->Prop}{st':Qq},R () st'->wpS M A E s (liftM (rule x):StateT Qq Sem Unit) R st':=fun{x R st'} q=>T' (QM (hr x) (fun _ _ z=>⟨z,q⟩) fun _ _ z=>z);refine Qp (rl (Qp (aX hy ?_)));have m0:MHo rk a b #[] a.size b.size:=⟨by simp,NG,fun x hx=>by simp at hx⟩;have m1:MHo rk a b #[y] (a.size-1) b.size:=m0.nB H pa hy fun z hz=>H.last y hy z (Ml hz);by_cases e1:a.size-1=0
 ·rw[if_pos (by rw[e1];rfl)];exact Qw (h _ _ .ck (H.vq m1 (.inl e1)))
 rw[if_neg (by simpa using e1)];by_cases e2:b.size=1
 ·rw[if_pos (by rw[e2];rfl)];exact Qw (h _ _ .ck (H.uq m1 e2))
 rw[if_neg (by simpa using e2)];refine Qp (Sy ?_);refine Qp (Rj (Q2 (I:=fun x (c:OT) st'=>c.1=none/\Keep st st'/\HI rk a b c.2.2.2.1 c.2.1 c.2.2.1/\c.2.1+c.2.2.1+x<a.size+b.size) (Q:=fun(c:OT) st'=>∃q,c.1=some q/\Keep st st'/\Res rk a.toList b.toList q.toList) ?_ ?_ ⟨rfl,.ck,⟨m1,by dsimp only;lia,by dsimp only;lia,by dsimp only;lia,by dsimp only;lia⟩,by dsimp only;lia⟩) ?_)
 ·rintro x ⟨c1,i,j,out,mg⟩ st1 _ hx ⟨rfl,K1,I1,px⟩;unfold oHi;dsimp only at I1 px ⊢;refine Qp (Rj (Q2 (I:=fun x (c:FT) st'=>c.1=none/\Keep st st'/\HI rk a b c.2.2.2.1 c.2.1 c.2.2.1/\c.2.1+c.2.2.1+x<=i+j) (Q:=fun(c:FT) st'=>mF rk a b (i+j) st c.1 c.2.2.2.1 c.2.1 c.2.2.1 st') ?_ ?_ ⟨rfl,K1,I1,b_ _⟩) ?_)
  ·rintro x2 ⟨d1,i2,j2,out2,ca,cb⟩ st2 _ hx2 ⟨rfl,K2,I2,p2⟩;dsimp only at I2 p2 ⊢;refine JN L H hk K2 I2 fun d c hs hn=>?_;cases d with
   |true=>
    show mF _ _ _ _ _ _ _ _ _ _;refine⟨hs.1,?_⟩;have h2:=hs.2;cases e:c.1 with
    |some q=>rw[e]at h2;exact h2
    |none=>rw[e]at h2;exact⟨h2.1,by have:=h2.2;lia⟩
   |false=>
    have h2:=hs.2;rw[hn rfl]at h2;exact⟨hn rfl,hs.1,h2.1,by have:=h2.2;lia⟩
  ·rintro⟨c1,i2,j2,out2,ca,cb⟩ st2 ⟨rfl,K2,I2,p2⟩;dsimp only at I2 p2 ⊢;have:=I2.i0;have:=I2.j1;lia
  rintro⟨c1,i2,j2,out2,ca,cb⟩ st2 ⟨K2,h2⟩;cases c1 with
  |some q=>exact Qw ⟨q,rfl,K2,h2⟩
  |none=>
   obtain⟨I2,p2⟩:=h2;dsimp only at I2 p2 ⊢;refine Qp (rl ?_);refine Qp (Rj (Q2 (I:=fun _ (c:GT) st'=>c.1=none/\Keep st st'/\HI rk a b c.2.2.2.1 c.2.1 c.2.2.1/\c.2.1+c.2.2.1<i+j) (Q:=fun(c:GT) st'=>mF rk a b (i+j) st c.1 c.2.2.2.1 c.2.1 c.2.2.1 st') ?_ ?_ ⟨rfl,K2,I2,p2⟩) ?_)
   ·rintro x3 ⟨d1,i3,j3,out3,mg3,ca3,cb3⟩ st3 _ hx3 ⟨rfl,K3,I3,p3⟩;dsimp only at I3 p3 ⊢;have go:∀mg',wpS M A E s (k1 a b out3 i3 j3 mg' ca3 cb3) (fun r st'=>match r with | .done c'=>mF rk a b (i+j) st c'.1 c'.2.2.2.1 c'.2.1 c'.2.2.1 st' | .yield c'=>c'.1=none/\Keep st st'/\HI rk a b c'.2.2.2.1 c'.2.1 c'.2.2.1/\c'.2.1+c'.2.2.1<i+j) st3:=fun mg'=>by
     refine Kz L H hk K3 I3 fun d c st4 hs hn=>?_;cases d with
     |true=>
      show mF _ _ _ _ _ _ _ _ _ _;refine⟨hs.1,?_⟩;have h2:=hs.2;cases e:c.1 with
      |some q=>rw[e]at h2;exact h2
      |none=>rw[e]at h2;exact⟨h2.1,by have:=h2.2;lia⟩
     |false=>
      have h2:=hs.2;rw[hn rfl]at h2;exact⟨hn rfl,hs.1,h2.1,by have:=h2.2;lia⟩
    split
    ·exact Rj (go _) fun r st' h=>by cases r <;> exact h
    exact Rj (go _) fun r st' h=>by cases r <;> exact h
   ·rintro⟨c1,i3,j3,out3,mg3,ca3,cb3⟩ st3 ⟨rfl,K3,I3,p3⟩;exact⟨K3,I3,p3⟩
   rintro⟨c1,i3,j3,out3,mg3,ca3,cb3⟩ st3 ⟨K3,h3⟩;cases c1 with
   |some q=>exact Qw ⟨q,rfl,K3,h3⟩
   |none=>
    obtain⟨I3,p3⟩:=h3;refine Qp (pg (Qw ⟨rfl,K3.g _,I3,?_⟩));dsimp only at p3 ⊢;lia
 ·rintro⟨c1,i,j,out,mg⟩ st1 ⟨rfl,K1,I1,px⟩;dsimp only at px;lia
 rintro⟨c1,i,j,out,mg⟩ st1 ⟨q,e,K1,r⟩;dsimp only at e;subst e;exact Qw (h q st1 K1 r)
end
noncomputable def R(rk:Ql->Nat)(xs:Array Ql)(i:Nat):Nat:=match xs[i]? with
 |some p=>rk p
 |none=>0
structure Kp2 (st st':Qq):Prop where
 k:kindOf st'=kindOf st
 p:QB st'=QB st
 f:QZ st'=QZ st
 a:(Qm st').Perm (Qm st)
theorem Kp2.ck {st:Qq}:Kp2 st st:=⟨rfl,rfl,rfl,OI _⟩
theorem Kp2.trans {s1 s2 s3:Qq}(h:Kp2 s1 s2)(g:Kp2 s2 s3):Kp2 s1 s3:=⟨g.k.trans h.k,g.p.trans h.p,g.f.trans h.f,g.a.trans h.a⟩
theorem Kp2.size {st st':Qq}(h:Kp2 st st'):(Qm st').size=(Qm st).size:=h.a.size_eq
section
variable{rk:Ql->Nat}
theorem dO{xs ys:Array Ql}{i j:Nat}(h:xs[i]?=ys[j]?):R rk xs i=R rk ys j:=by unfold R;rw[h]
theorem Bv{xs:Array Ql}{i j:Nat}(hj:j<=xs.size)(k:Nat):R rk (mirror xs i j ((j-i)/2)) k=if i<=k/\k<j then R rk xs (i+j-1-k)else R rk xs k:=by
 have:=UZ (i:=i) hj k;split at this <;> rename_i h
 ·rw[if_pos h];exact dO this
 rw[if_neg h];exact dO this
theorem BF{xs:Array Ql}{src d:Nat}(hs:src<xs.size)(hd:d<=src)(k:Nat):R rk (VQ xs src d) k=if k=src-d then R rk xs src else if src-d<k/\k<=src then R rk xs (k-1)else R rk xs k:=by
 have:=VR hs d hd k;split at this
 ·rename_i h;rw[if_pos h];exact dO this
 rename_i h;rw[if_neg h];split at this
 ·rename_i h2;rw[if_pos h2];exact dO this
 rename_i h2;rw[if_neg h2];exact dO this
noncomputable def cm(rk:Ql->Nat)(xs:Array Ql)(lo n:Nat):Prop:=∀i j,i<=j->j<n->R rk xs (lo+i)<=R rk xs (lo+j)
noncomputable def vZ(rk:Ql->Nat)(xs:Array Ql)(lo n:Nat):Prop:=∀i j,i<=j->j<n->R rk xs (lo+j)<=R rk xs (lo+i)
end
structure Within (st st':Qq) (lo n:Nat):Prop where
 kp:Kp2 st st'
 out:∀k,(k<lo\/lo+n<=k)->(Qm st')[k]?=(Qm st)[k]?
theorem Within.ck {st:Qq}{lo n:Nat}:Within st st lo n:=⟨.ck,fun _ _=>rfl⟩
theorem Within.trans {s1 s2 s3:Qq}{lo n:Nat}(h:Within s1 s2 lo n)(g:Within s2 s3 lo n):Within s1 s3 lo n:=⟨h.kp.trans g.kp,fun k hk=>(g.out k hk).trans (h.out k hk)⟩
section
variable{M:Se}{A:QE}{E:Qf->Qi->Prop}{s:Qi}{kd:Rf}{rk:Ql->Nat}{S:Ql->Prop}
noncomputable def nZ(S:Ql->Prop)(st:Qq):Prop:=∀p∈(Qm st).toList,S p
theorem nZ.at {st:Qq}(h:nZ S st){i:Nat}{p:Ql}(e:(Qm st)[i]?=some p):S p:=h p (by rw[<-f_]at e;exact G_ e)
theorem nZ.kp {st st':Qq}(h:nZ S st)(k:Kp2 st st'):nZ S st':=fun p hp=>h p ((L_.mp k.a).mem_iff.mp hp)
theorem jL{i j:Nat}{st:Qq}{Q:Option Bool->Qq->Prop}(L:cM M A E s kd rk S)(hk:kindOf st=kd)(hS:nZ S st)(hi:i<(Qm st).size)(hj:j<(Qm st).size)(q:Q (some (decide (R rk (Qm st) i<R rk (Qm st) j))) st):wpS M A E s (VS i j) Q st:=by rw[ltAt'_eq];refine Qp (Sy ?_);have e1:(Qm st)[i]?=some (Qm st)[i]:=i_ hi;have e2:(Qm st)[j]?=some (Qm st)[j]:=i_ hj;refine Qp (aX e1 (Qp (aX e2 (L _ _ st _ (hS.at e1) (hS.at e2) hk ?_))));unfold R at q;rw[e1,e2]at q;exact q
theorem Dm{i j lo n:Nat}{st:Qq}{Q:Unit->Qq->Prop}(hl:lo<=i)(hj:j<=lo+n)(hsz:j<=(Qm st).size)(h:∀st',Within st st' lo n->(∀k,R rk (Qm st') k=if i<=k/\k<j then R rk (Qm st) (i+j-1-k)else R rk (Qm st) k)->Q () st'):wpS M A E s (Su i j) Q st:=by rw[reverseSlice'_eq];refine Ti (h _ ⟨⟨rfl,rfl,rfl,mirror_perm _ _ _ _⟩,fun k hk=>?_⟩ fun k=>Bv hsz k);show(mirror (Qm st) i j ((j-i)/2))[k]?=_;rw[UZ hsz,if_neg (by lia)]
theorem Ef{lo n ok:Nat}{st:Qq}{Q:Bool->Qq->Prop}(L:cM M A E s kd rk S)(hk:kindOf st=kd)(hS:nZ S st)(hn:lo+n<=(Qm st).size)(hok:ok<=n)(hs:cm rk (Qm st) lo ok)
  (h:∀st',Within st st' lo n->cm rk (Qm st') lo n->Q true st'):wpS M A E s (Xi lo n ok) Q st:=by
 rw[binarySort'_eq];refine Qp (Rj (Q2 (I:=fun k c st'=>c=(none,())/\Within st st' lo n/\cm rk (Qm st') lo k) (Q:=fun c st'=>c=(none,())/\Within st st' lo n/\cm rk (Qm st') lo (max (max ok 1) n)) ?_ (fun c st' z=>z) ⟨rfl,.ck,fun i j h1 h2=>?_⟩) ?_)
 ·rintro k c st1 hk1 hk2 ⟨rfl,W,s1⟩;have sz1:=W.kp.size;have hS1:=hS.kp W.kp;refine Qp (Rj (Q2 (I:=fun x c st'=>st'=st1/\∃l r,c=(none,l,r)/\l<=r/\r<=k/\r-l<=k-x/\(∀i,i<l->R rk (Qm st1) (lo+i)<=R rk (Qm st1) (lo+k))/\(∀i,r<=i->i<k->R rk (Qm st1) (lo+k)<R rk (Qm st1) (lo+i)))
   (Q:=fun c st'=>st'=st1/\∃l,c=(none,l,l)/\l<=k/\(∀i,i<l->R rk (Qm st1) (lo+i)<=R rk (Qm st1) (lo+k))/\(∀i,l<=i->i<k->R rk (Qm st1) (lo+k)<R rk (Qm st1) (lo+i))) ?_ ?_ ⟨rfl,0,k,rfl,B_ _,b_ _,by lia,fun i hi=>by lia,fun i h1 h2=>by lia⟩) ?_)
  ·rintro x c st2 _ hx ⟨rfl,l,r,rfl,g1,g2,g3,g4,g5⟩;dsimp only;by_cases z:l>=r
   ·rw[if_pos z];have e:l=r:=by lia
    subst e;exact Qw ⟨rfl,l,rfl,g2,g4,g5⟩
   rw[if_neg z];have m1:l<=(l+r)/2:=by omega
   have m2:(l+r)/2<r:=by omega
   generalize (l+r)/2=m at m1 m2 ⊢;have m3:=y_ m2 g2;have sz:∀{y},y<=k->lo+y<(Qm st2).size:=fun h=>by lia
   refine Qp (jL L (W.kp.k.trans hk) hS1 (sz (b_ _)) (sz (K_ m3)) ?_);dsimp only;by_cases w:R rk (Qm st2) (lo+k)<R rk (Qm st2) (lo+m)
   ·rw[decide_eq_true w,if_pos rfl];exact Qw ⟨rfl,l,m,rfl,m1,K_ m3,by lia,g4,fun i h1 h2=>y_ w (s1 m i h1 h2)⟩
   rw[decide_eq_false w,if_neg (by simp)];exact Qw ⟨rfl,m+1,r,rfl,m2,g2,by lia,fun i hi=>m_ (s1 i m (NH hi) m3) (LA w),g5⟩
  ·rintro c st2 ⟨rfl,l,r,rfl,g1,g2,g3,g4,g5⟩;have e:l=r:=by lia
   subst e;exact⟨rfl,l,rfl,g2,g4,g5⟩
  rintro c st2 ⟨rfl,l,rfl,g2,g4,g5⟩;dsimp only;rw[moveDown'_eq];have hk1:lo+k<(Qm st2).size:=by lia
  have e0:lo+k-(lo+k-(lo+l))=lo+l:=Nat.sub_sub_self (MA g2 lo);have hb:∀j,R rk (VQ (Qm st2) (lo+k) (lo+k-(lo+l))) (lo+j)=if j=l then R rk (Qm st2) (lo+k)else if l<j/\j<=k then R rk (Qm st2) (lo+(j-1))else R rk (Qm st2) (lo+j):=fun j=>by
   rw[BF hk1 (LZ ..),e0];by_cases c1:j=l
   ·rw[if_pos c1,if_pos (congrArg (lo+·) c1)]
   rw[if_neg c1,if_neg (fun z=>c1 (Nat.add_left_cancel z))];by_cases c2:l<j/\j<=k
   ·rw[if_pos c2,if_pos ⟨N5 c2.1 lo,MA c2.2 lo⟩,Pa (Nat.one_le_of_lt c2.1)]
   rw[if_neg c2,if_neg (fun z=>c2 ⟨Nat.lt_of_add_lt_add_left z.1,Nat.le_of_add_le_add_left z.2⟩)]
  refine Qp (Ti (Qw ⟨rfl,W.trans ⟨⟨rfl,rfl,rfl,bubble_perm _ _ _⟩,fun j hj=>?_⟩,fun i j hij hj=>?_⟩))
  ·show(VQ (Qm st2) (lo+k) (lo+k-(lo+l)))[j]?=_;rw[VR hk1 _ (LZ ..),e0,if_neg (by lia),if_neg (by lia)]
  show R rk (VQ (Qm st2) (lo+k) (lo+k-(lo+l))) (lo+i)<=R rk (VQ (Qm st2) (lo+k) (lo+k-(lo+l))) (lo+j);rw[hb,hb];have ss:∀p q,p<=q->q<k->R rk (Qm st2) (lo+p)<=R rk (Qm st2) (lo+q):=s1;have hj:j<=k:=NH hj;have dn:∀{x},l<x->x<=k->x-1<k:=fun a b=>y_ (Nat.sub_one_lt_of_lt a) b;by_cases i1:i<l
  ·rw[if_neg (x_ i1),if_neg (fun z=>Nat.lt_asymm z.1 i1)];by_cases j2:j=l
   ·rw[if_pos j2];exact g4 i i1
   rw[if_neg j2];by_cases j1:l<j
   ·rw[if_pos ⟨j1,hj⟩];exact ss i (j-1) (NV (NU i1 j1)) (dn j1 hj)
   rw[if_neg (fun z=>j1 z.1)];exact ss i j hij (y_ (MX (LA j1) j2) g2)
  by_cases i2:i=l
  ·rw[if_pos i2];by_cases j2:j=l
   ·rw[if_pos j2];exact b_ _
   have j1:l<j:=MX (i2▸hij) (fun z=>j2 z.symm);rw[if_neg j2,if_pos ⟨j1,hj⟩];exact K_ (g5 (j-1) (NV j1) (dn j1 hj))
  have i3:l<i:=MX (LA i1) (fun z=>i2 z.symm);have j1:=y_ i3 hij;rw[if_neg i2,if_pos ⟨i3,m_ hij hj⟩,if_neg (fun z=>Ms _ (z▸j1)),if_pos ⟨j1,hj⟩];exact ss (i-1) (j-1) (OW hij 1) (dn j1 hj)
 ·by_cases z:1<=ok
  ·rw[Nat.max_eq_left z]at h2;exact hs i j h1 h2
  have:i=j:=by lia
  subst this;exact b_ _
 rintro c st1 ⟨rfl,W,s1⟩;exact Qw (h st1 W fun i j h1 h2=>s1 i j h1 (by lia))
end
theorem Az{l x:Nat}(h:1<=x):l+(x-1)=l+x-1:=(Pa h l).symm
theorem Ip{l k:Nat}(h:l<=k):l+(k-l)=k:=Nl h
theorem Ky{l a i:Nat}(h:i<a):l+(l+a)-1-(l+i)=l+(a-1-i):=by lia
theorem GH{l x k:Nat}(h0:l<=k)(h:k<l+x):k-l<x:=Nq h0 h
noncomputable def D7(l0 a0 q0:Nat):StateT Qq Sem (Option Nat):=do
 let mut n:=a0
 for _ in [a0:q0]do
  let some sm <-VS (l0+n) (l0+n-1) | return none
  if sm then break
  n:=n+1
 return some n
noncomputable def tV(l0 a0 q0:Nat):StateT Qq Sem (Option Nat):=do
 Su l0 (l0+a0)
 D7 l0 a0 q0
noncomputable def uv(l0 a0 q0:Nat):StateT Qq Sem (Option Nat):=do
 rule "list.sort.descending-run"
 let mut n:=a0+1
 let mut eq:=0
 for _ in [n:q0]do
  let some sm <-VS (l0+n) (l0+n-1) | return none
  if sm then
   if eq > 0 then Su (l0+n-(eq+1)) (l0+n)
   eq:=0
  else
   let some la <-VS (l0+n-1) (l0+n) | return none
   if la then break
   eq:=eq+1
  n:=n+1
 if eq > 0 then
  Su (l0+n-(eq+1)) (l0+n)
  tV l0 n q0
 else tV l0 n q0
theorem Jv(l0 q0:Nat):Wk l0 q0=(do
 let mut n:=1
 for _ in [1:q0]do
  let some sm <-VS (l0+n) (l0+n-1) | return none
  if sm then break
  n:=n+1
 if n == q0 then return some n
 if n > 1 then
  let some ro <-VS l0 (l0+n-1) | return none
  if ro then return some n
  Su l0 (l0+n)
  uv l0 n q0
 else uv l0 n q0):=rfl
section
variable{M:Se}{A:QE}{E:Qf->Qi->Prop}{s:Qi}{kd:Rf}{rk:Ql->Nat}{S:Ql->Prop}
theorem cm.snoc {xs:Array Ql}{lo n:Nat}(h:cm rk xs lo n)(h1:1<=n)(k:R rk xs (lo+n-1)<=R rk xs (lo+n)):cm rk xs lo (n+1):=fun i j hij hj=>by
 by_cases z:j<n
 ·exact h i j hij z
 have e:j=n:=by lia
 subst e;by_cases w:i=j
 ·subst w;exact b_ _
 have:=h i (j-1) (by lia) (by lia);rw[Az h1]at this;exact m_ this k
theorem BC{l0 a0 q0:Nat}{st:Qq}{Q:Option Nat->Qq->Prop}(L:cM M A E s kd rk S)(hk:kindOf st=kd)(hS:nZ S st)(hsz:l0+q0<=(Qm st).size)(h1:1<=a0)(h2:a0<=q0)(hs:cm rk (Qm st) l0 a0)
  (h:∀n,a0<=n->n<=q0->cm rk (Qm st) l0 n->Q (some n) st):wpS M A E s (D7 l0 a0 q0) Q st:=by
 unfold D7;dsimp only;refine Qp (Rj (Q2 (I:=fun x c st'=>st'=st/\c=(none,x)/\cm rk (Qm st) l0 x) (Q:=fun c st'=>st'=st/\∃n,c=(none,n)/\a0<=n/\n<=q0/\cm rk (Qm st) l0 n) ?_ ?_ ⟨rfl,rfl,hs⟩) ?_)
 ·rintro x c st1 hx1 hx2 ⟨rfl,rfl,s1⟩;dsimp only;refine Qp (jL L hk hS (by lia) (by lia) ?_);dsimp only;by_cases w:R rk (Qm st1) (l0+x)<R rk (Qm st1) (l0+x-1)
  ·rw[decide_eq_true w,if_pos rfl];exact Qw ⟨rfl,x,rfl,hx1,by lia,s1⟩
  rw[decide_eq_false w,if_neg (by simp)];exact Qw ⟨rfl,rfl,s1.snoc (by lia) (by lia)⟩
 ·rintro c st1 ⟨rfl,rfl,s1⟩;rw[Oy h2]at s1 ⊢;exact⟨rfl,q0,rfl,h2,b_ _,s1⟩
 rintro c st1 ⟨rfl,n,rfl,g1,g2,g3⟩;exact Qw (h n g1 g2 g3)
theorem sM{l0 a0 q0:Nat}{st:Qq}{Q:Option Nat->Qq->Prop}(L:cM M A E s kd rk S)(hk:kindOf st=kd)(hS:nZ S st)(hsz:l0+q0<=(Qm st).size)(h1:1<=a0)(h2:a0<=q0)(hs:vZ rk (Qm st) l0 a0)
  (h:∀n st',a0<=n->n<=q0->Within st st' l0 q0->cm rk (Qm st') l0 n->Q (some n) st'):wpS M A E s (tV l0 a0 q0) Q st:=by
 unfold tV;refine Qp (Dm (rk:=rk) (lo:=l0) (n:=q0) (b_ _) (by lia) (by lia) fun st1 W1 r1=>?_);refine BC L (W1.kp.k.trans hk) (hS.kp W1.kp) (by rw[W1.kp.size];exact hsz) h1 h2 (fun i j hij hj=>?_) fun n g1 g2 g3=>h n st1 g1 g2 W1 g3
 have hi:=Mg hij hj;rw[r1,r1,if_pos ⟨Nf ..,N5 hi l0⟩,if_pos ⟨Nf ..,N5 hj l0⟩,Ky hi,Ky hj];exact hs (a0-1-j) (a0-1-i) (Nat.sub_le_sub_left hij _) (Mg (LZ _ _) (Om h1 MY))
theorem qF{i j lo n:Nat}{st:Qq}{Q:Unit->Qq->Prop}(hl:lo<=i)(hj:j<=lo+n)(hsz:j<=(Qm st).size)(heq:∀k,i<=k->k<j->R rk (Qm st) k=R rk (Qm st) (j-1))(h:∀st',Within st st' lo n->(∀k,R rk (Qm st') k=R rk (Qm st) k)->Q () st'):wpS M A E s (Su i j) Q st:=by
 refine Dm (rk:=rk) hl hj hsz fun st1 W r1=>h st1 W fun k=>?_;rw[r1];split
 ·rename_i z;rw[heq k z.1 z.2,heq (i+j-1-k) (by(clear r1 W h heq hsz hj hl;lia)) (by(clear r1 W h heq hsz hj hl;lia))]
 rfl
theorem vZ.snoc {xs:Array Ql}{lo n:Nat}(h:vZ rk xs lo n)(h1:1<=n)(k:R rk xs (lo+n)<=R rk xs (lo+n-1)):vZ rk xs lo (n+1):=fun i j hij hj=>by
 by_cases z:j<n
 ·exact h i j hij z
 have e:j=n:=by lia
 subst e;by_cases w:i=j
 ·subst w;exact b_ _
 have:=h i (j-1) (by lia) (by lia);rw[show lo+(j-1)=lo+j-1 by lia]at this;exact m_ k this
theorem rA{l0 a0 q0:Nat}{st:Qq}{Q:Option Nat->Qq->Prop}(L:cM M A E s kd rk S)(hk:kindOf st=kd)(hS:nZ S st)(hsz:l0+q0<=(Qm st).size)(h2:a0+1<=q0)(hs:vZ rk (Qm st) l0 (a0+1))(hr:∀x,Qn M A (rule x) (fun _ s'=>s'=s) E s)
  (h:∀n st',1<=n->n<=q0->Within st st' l0 q0->cm rk (Qm st') l0 n->Q (some n) st'):wpS M A E s (uv l0 a0 q0) Q st:=by
 unfold uv;refine Qp (T' (QM (hr _) (fun _ _ z=>⟨z,?_⟩) fun _ _ z=>z));dsimp only;refine Qp (Rj (Q2 (I:=fun x c st'=>∃eq,c=(none,x,eq)/\Within st st' l0 q0/\vZ rk (Qm st') l0 x/\eq+1<=x/\∀k,x-1-eq<=k->k<x->R rk (Qm st') (l0+k)=R rk (Qm st') (l0+(x-1)))
  (Q:=fun c st'=>∃n eq,c=(none,n,eq)/\a0+1<=n/\n<=q0/\Within st st' l0 q0/\vZ rk (Qm st') l0 n/\eq+1<=n/\∀k,n-1-eq<=k->k<n->R rk (Qm st') (l0+k)=R rk (Qm st') (l0+(n-1))) ?_ ?_ ⟨0,rfl,.ck,hs,by lia,fun k h1 h2=>by rw[show k=a0+1-1 by lia]⟩) ?_)
 ·rintro x c st1 hx1 hx2 ⟨eq,rfl,W,d1,e1,ev⟩;dsimp only;have hk1:=W.kp.k.trans hk;have hS1:=hS.kp W.kp;have sz1:=W.kp.size;have x1:1<=x:=m_ (Pw 1 eq) e1;have b1:l0+x<(Qm st1).size:=by lia
  have b2:l0+x-1<(Qm st1).size:=Mg (LZ ..) b1;refine Qp (jL L hk1 hS1 b1 b2 ?_);dsimp only;by_cases w:R rk (Qm st1) (l0+x)<R rk (Qm st1) (l0+x-1)
  ·rw[decide_eq_true w,if_pos rfl];have fin:∀st2,Within st st2 l0 q0->(∀k,R rk (Qm st2) k=R rk (Qm st1) k)->∃eq',((none,x+1,0):Option (Option Nat)×Nat×Nat)=(none,x+1,eq')/\Within st st2 l0 q0/\vZ rk (Qm st2) l0 (x+1)/\eq'+1<=x+1/\∀k,x+1-1-eq'<=k->k<x+1->R rk (Qm st2) (l0+k)=R rk (Qm st2) (l0+(x+1-1)):=fun st2 W2 r2=>by refine⟨0,rfl,W2,fun i j hij hj=>?_,by lia,fun k h1 h2=>by rw[show k=x+1-1 by lia]⟩;rw[r2,r2];exact d1.snoc x1 (K_ w) i j hij hj
   by_cases z:eq > 0
   ·rw[if_pos z];refine Qp (qF (rk:=rk) (lo:=l0) (n:=q0) (by lia) (by lia) (by lia) (fun k h1 h2=>?_) fun st2 W2 r2=>Qw (fin st2 (W.trans W2) r2));have k0:l0<=k:=by lia
    have:=ev (k-l0) (by lia) (GH k0 h2);rw[Ip k0,Az x1]at this;exact this
   rw[if_neg z];exact Qw (fin st1 W fun _=>rfl)
  rw[decide_eq_false w,if_neg (by simp)];refine Qp (jL L hk1 hS1 b2 b1 ?_);dsimp only;by_cases v:R rk (Qm st1) (l0+x-1)<R rk (Qm st1) (l0+x)
  ·rw[decide_eq_true v,if_pos rfl];exact Qw ⟨x,eq,rfl,hx1,by lia,W,d1,e1,ev⟩
  rw[decide_eq_false v,if_neg (by simp)];have ee:R rk (Qm st1) (l0+x)=R rk (Qm st1) (l0+x-1):=Py (LA v) (LA w);refine Qw ⟨eq+1,rfl,W,d1.snoc x1 (Nu ee),by lia,fun k h1 h2=>?_⟩;rw[show l0+(x+1-1)=l0+x by lia];by_cases y:k=x
  ·rw[y]
  have:=ev k (by lia) (by lia);rw[Az x1]at this;exact this.trans ee.symm
 ·rintro c st1 ⟨eq,rfl,W,d1,e1,ev⟩;rw[Oy h2]at d1 e1 ev ⊢;exact⟨q0,eq,rfl,h2,b_ _,W,d1,e1,ev⟩
 rintro c st1 ⟨n,eq,rfl,g1,g2,W,d1,e1,ev⟩;have sz1:=W.kp.size;dsimp only;by_cases z:eq > 0
 ·rw[if_pos z];refine Qp (qF (rk:=rk) (lo:=l0) (n:=q0) (by lia) (by lia) (by lia) (fun k h1 h2=>?_) fun st2 W2 r2=>?_)
  ·have k0:l0<=k:=by lia
   have:=ev (k-l0) (by lia) (GH k0 h2);rw[Ip k0,Az (m_ (Pw 1 eq) e1)]at this;exact this
  refine sM L ((W.trans W2).kp.k.trans hk) (hS.kp (W.trans W2).kp) (by rw[(W.trans W2).kp.size];exact hsz) (by lia) g2 (fun i j hij hj=>by rw[r2,r2];exact d1 i j hij hj) fun m st3 k1 k2 W3 s3=>h m st3 (by lia) k2 ((W.trans W2).trans W3) s3
 rw[if_neg z];exact sM L (W.kp.k.trans hk) (hS.kp W.kp) (by rw[sz1];exact hsz) (by lia) g2 d1 fun m st3 k1 k2 W3 s3=>h m st3 (by lia) k2 (W.trans W3) s3
theorem vR{l0 q0:Nat}{st:Qq}{Q:Option Nat->Qq->Prop}(L:cM M A E s kd rk S)(hk:kindOf st=kd)(hS:nZ S st)(hsz:l0+q0<=(Qm st).size)(h1:1<=q0)(hr:∀x,Qn M A (rule x) (fun _ s'=>s'=s) E s)
  (h:∀n st',1<=n->n<=q0->Within st st' l0 q0->cm rk (Qm st') l0 n->Q (some n) st'):wpS M A E s (Wk l0 q0) Q st:=by
 rw[Jv];dsimp only;refine Qp (Rj (Q2 (I:=fun x c st'=>st'=st/\c=(none,x)/\cm rk (Qm st) l0 x) (Q:=fun c st'=>st'=st/\∃n,c=(none,n)/\1<=n/\n<=q0/\cm rk (Qm st) l0 n/\(n=q0\/R rk (Qm st) (l0+n)<R rk (Qm st) (l0+n-1))) ?_ ?_ ⟨rfl,rfl,fun i j h1 h2=>by rw[show i=j by lia];exact b_ _⟩) ?_)
 ·rintro x c st1 hx1 hx2 ⟨rfl,rfl,s1⟩;dsimp only;refine Qp (jL L hk hS (by lia) (by lia) ?_);dsimp only;by_cases w:R rk (Qm st1) (l0+x)<R rk (Qm st1) (l0+x-1)
  ·rw[decide_eq_true w,if_pos rfl];exact Qw ⟨rfl,x,rfl,hx1,by lia,s1,.inr w⟩
  rw[decide_eq_false w,if_neg (by simp)];exact Qw ⟨rfl,rfl,s1.snoc (by(clear w s1 h hsz hS hk hx2 hr h1 L;omega)) (by lia)⟩
 ·rintro c st1 ⟨rfl,rfl,s1⟩;rw[Oy h1]at s1 ⊢;exact⟨rfl,q0,rfl,h1,b_ _,s1,.inl rfl⟩
 rintro c st1 ⟨rfl,n,rfl,g1,g2,g3,g4⟩;dsimp only;by_cases e:n=q0
 ·rw[if_pos (by rw[e];exact beq_self_eq_true _)];exact Qw (h n st1 g1 g2 .ck g3)
 rw[if_neg (by simpa using e)];have lt:=g4.resolve_left e;by_cases z:n > 1
 ·rw[if_pos z];refine Qp (jL L hk hS (by lia) (by(clear lt e g4 g3 g1 h hS hk hr h1 L;lia)) ?_);dsimp only;by_cases w:R rk (Qm st1) l0<R rk (Qm st1) (l0+n-1)
  ·rw[decide_eq_true w,if_pos rfl];exact Qw (h n st1 g1 g2 .ck g3)
  rw[decide_eq_false w,if_neg (by simp)];have all:∀k,l0<=k->k<l0+n->R rk (Qm st1) k=R rk (Qm st1) (l0+n-1):=fun k h1 h2=>by have kn:=GH h1 h2;have a:=g3 0 (k-l0) (B_ _) kn;have b:=g3 (k-l0) (n-1) (NV kn) (Om g1 MY);rw[Ip h1]at a b;rw[Az g1]at b;rw[NW]at a;exact Py b (m_ (LA w) a)
  refine Qp (qF (rk:=rk) (lo:=l0) (n:=q0) (b_ _) (by(clear all w z lt e g4 g3 g1 h hsz hS hk hr h1 L;lia)) (by(clear all w z lt e g4 g3 g1 h hS hk hr h1 L;lia)) all fun st2 W2 r2=>?_);refine rA L (W2.kp.k.trans hk) (hS.kp W2.kp) (by rw[W2.kp.size];exact hsz) (by lia) (fun i j hij hj=>?_) hr fun m st3 k1 k2 W3 s3=>h m st3 k1 k2 (W2.trans W3) s3
  rw[r2,r2];by_cases y:j<n
  ·rw[all (l0+i) (by lia) (by lia),all (l0+j) (by lia) (by(clear hj hij r2 W2 all w z lt e g4 g3 g2 g1 h hsz hS hk hr h1 L;lia))];exact b_ _
  rw[show j=n by lia];by_cases y2:i<n
  ·rw[all (l0+i) (by lia) (by(clear y hj hij r2 W2 all w z lt e g4 g3 g2 g1 h hsz hS hk hr h1 L;lia))];exact K_ lt
  rw[show i=n by(clear y r2 W2 all w z lt e g4 g3 g2 g1 h hsz hS hk hr h1 L;lia)];exact b_ _
 rw[if_neg z];have n1:n=1:=by lia
 subst n1;refine rA L hk hS hsz (by lia) (fun i j hij hj=>?_) hr fun m st3 k1 k2 W3 s3=>h m st3 k1 k2 W3 s3
 by_cases y:i=j
 ·rw[y];exact b_ _
 rw[show i=0 by lia,show j=1 by lia];exact K_ lt
end
noncomputable def wrote(xs:Array Ql)(q:Nat)(ys:Array Ql):Array Ql:=ys.toList.zipIdx.foldl (fun u (p,j)=>u.setIfInBounds (q+j) p) xs
theorem Hj(i:Nat):UQ i=(do
 let st <-get
 let (some (s1,n1,pw),some (s2,n2,_)):=((QB st)[i]?,(QB st)[i+1]?) | unsupported "internal:list.sort.pending"
 set (Ry (kindOf st) (Qm st) (((QB st).setIfInBounds i (s1,n1+n2,pw)).eraseIdxIfInBounds (i+1)) (T_ st) (QZ st))
 let some k <-gal false (<-Q3 (Qm st) s2) (Qm st) s1 n1 0 | return false
 let (s1,n1):=(s1+k,n1-k)
 if n1 == 0 then return true
 let some n2 <-gal true (<-Q3 (Qm st) (s1+n1-1)) (Qm st) s2 n2 (n2-1) | return false
 if n2 == 0 then return true
 let x:=(Qm st).extract s1 s2
 let y:=(Qm st).extract s2 (s2+n2)
 let mm <-if n1<=n2 then mLo x y else mHi x y
 modify fun z=>setArr z (wrote (Qm z) s1 mm)
 return (QZ (<-get)).isNone):=rfl
theorem rN(q:Nat):∀(l:List Ql) (n:Nat) (xs:Array Ql),q+n+l.length<=xs.size->((l.zipIdx n).foldl (fun u (p,j)=>u.setIfInBounds (q+j) p) xs).toList=xs.toList.take (q+n)++(l++xs.toList.drop (q+n+l.length))
 | [],n,xs,_=>by simp
 |p::t,n,xs,h=>by
  rw[h_]at h;rw[Ov,Pz,rN q t (n+1) _ (by rw[Oz];lia),Oi];have hl:q+n<xs.toList.length:=by rw[gV];lia
  rw[show q+(n+1)=q+n+1 by lia,LL,List.take_set_of_le (b_ _),NJ hl,List.drop_set_of_lt (by lia),h_,show q+n+1+t.length=q+n+(t.length+1) by lia];simp
theorem xk{xs ys:Array Ql}{q:Nat}(h:q+ys.size<=xs.size):(wrote xs q ys).toList=xs.toList.take q++(ys.toList++xs.toList.drop (q+ys.size)):=by have:=rN q ys.toList 0 xs (by rw[gV];exact h);rw[gV]at this;exact this
theorem AY{a b c:List Ql}{i:Nat}(h:a.length=b.length)(hi:a.length<=i):(a++c)[i]?=(b++c)[i]?:=by rw[Ly hi,Ly (by lia),h]
section
variable{rk:Ql->Nat}
theorem yT{xs:Array Ql}{i:Nat}{p:Ql}(h:xs.toList[i]?=some p):R rk xs i=rk p:=by unfold R;rw[<-f_,h]
theorem jg{xs:Array Ql}{lo n:Nat}(h:cm rk xs lo n):Srt rk ((xs.toList.drop lo).take n):=by
 refine MM.mpr fun i j hi hj hij=>?_;have hj':j<n:=by rw[D']at hj;lia
 have ei:=c_ hi;have ej:=c_ hj;rw[MW,if_pos (by lia),MF]at ei ej;have:=h i j (by lia) hj';rw[yT ei,yT ej]at this;exact this
theorem uL{l k n:Nat}(h:k<=n):l+k+(n-k)=l+n:=by rw[Nj,Nl h]
theorem Be{xs:Array Ql}{lo n:Nat}(hn:lo+n<=xs.size)(h:Srt rk ((xs.toList.drop lo).take n)):cm rk xs lo n:=by
 intro i j hij hj;by_cases e:i=j
 ·rw[e];exact b_ _
 have len:((xs.toList.drop lo).take n).length=n:=by rw[D',H_,gV];lia
 have hi':i<((xs.toList.drop lo).take n).length:=by lia
 have hj':j<((xs.toList.drop lo).take n).length:=by lia
 have:=MM.mp h i j hi' hj' (by lia);have ei:=c_ hi';have ej:=c_ hj';rw[MW,if_pos (by lia),MF]at ei ej;rw[yT ei,yT ej];exact this
theorem uW{xs:Array Ql}{lo n m:Nat}(h1:cm rk xs lo n)(h2:cm rk xs (lo+n) m)(h:∀i j,i<n->j<m->R rk xs (lo+i)<=R rk xs (lo+n+j)):cm rk xs lo (n+m):=by
 intro i j hij hj;by_cases z:j<n
 ·exact h1 i j hij z
 by_cases w:i<n
 ·have:=h i (j-n) w (Nq (LA z) hj);rw[uL (LA z)]at this;exact this
 have:=h2 (i-n) (j-n) (OW hij n) (Nq (LA z) hj);rw[uL (LA z),uL (LA w)]at this;exact this
theorem mX{T:List Ql}{lo k n:Nat}(h:k<=n):(T.drop lo).take n=(T.drop lo).take k++(T.drop (lo+k)).take (n-k):=by
 conv=>lhs;rw[show n=k+(n-k)from(Nl h).symm,Oh,NC]
theorem HS{xs r:Array Ql}{lo k n m c:Nat}(hk:k<=n)(hc:c<=m)(hsz:lo+n+m<=xs.size)(o1:cm rk xs lo n)(o2:cm rk xs (lo+n) m)
  (a1:∀p∈(xs.toList.drop lo).take k,∀q∈(xs.toList.drop (lo+n)).take m,rk p<=rk q) (a2:∀p∈(xs.toList.drop lo).take n,∀q∈(xs.toList.drop (lo+n+c)).take (m-c),rk p<=rk q)
  (hr:Res rk ((xs.toList.drop (lo+k)).take (n-k)) ((xs.toList.drop (lo+n)).take c) r.toList) :
  (wrote xs (lo+k) r).Perm xs/\(∀i,(i<lo\/lo+n+m<=i)->(wrote xs (lo+k) r)[i]?=xs[i]?)/\cm rk (wrote xs (lo+k) r) lo (n+m):=by
 have lr:r.size=n-k+c:=by have:=hr.1.length_eq;rw[f',D',D',H_,H_,gV,gV]at this;lia
 have wl:(wrote xs (lo+k) r).toList=xs.toList.take lo++((xs.toList.drop lo).take k++(r.toList++((xs.toList.drop (lo+n+c)).take (m-c)++xs.toList.drop (lo+n+m)))):=by rw[xk (by lia),Oh,k_,lr,<-Nj,uL hk];congr 3;have:=(F_ (m-c) (xs.toList.drop (lo+n+c))).symm;rw[NC,uL hc]at this;exact this
 have xl:xs.toList=xs.toList.take lo++((xs.toList.drop lo).take k++((xs.toList.drop (lo+k)).take (n-k)++(xs.toList.drop (lo+n)).take c++((xs.toList.drop (lo+n+c)).take (m-c)++xs.toList.drop (lo+n+m)))):=by have e1:=(F_ lo xs.toList).symm;have e2:=(F_ k (xs.toList.drop lo)).symm;have e3:=(F_ (n-k) (xs.toList.drop (lo+k))).symm;have e4:=(F_ c (xs.toList.drop (lo+n))).symm;have e5:=(F_ (m-c) (xs.toList.drop (lo+n+c))).symm;rw[NC]at e2 e3 e4 e5;rw[uL hk]at e3;rw[uL hc]at e5;rw[k_,<-e5,<-e4,<-e3,<-e2,<-e1]
 have sz:(wrote xs (lo+k) r).size=xs.size:=by have:=congrArg N9 wl;have h2:=congrArg N9 xl;have h3:=hr.1.length_eq;simp only[f']at this h2 h3;have e1:=@gV _ (wrote xs (lo+k) r);have e2:=@gV _ xs;lia
 have X:(xs.toList.drop lo).take n=(xs.toList.drop lo).take k++(xs.toList.drop (lo+k)).take (n-k):=mX hk;have Y:(xs.toList.drop (lo+n)).take m=(xs.toList.drop (lo+n)).take c++(xs.toList.drop (lo+n+c)).take (m-c):=mX hc;have sX:=jg o1;have sY:=jg o2;rw[X]at sX;rw[Y]at sY;obtain⟨sx1,sx2,sx⟩:=C_.mp sX;obtain⟨sy1,sy2,sy⟩:=C_.mp sY;refine⟨L_.mpr ?_,fun i hi=>?_,Be (by lia) ?_⟩
 ·rw[wl]
  conv=>rhs;rw[xl]
  exact LJ _ (LJ _ (OM _ hr.1))
 ·rw[<-f_,<-f_,wl]
  conv=>rhs;rw[xl]
  have hl1:(xs.toList.take lo).length=lo:=by rw[D',gV];lia
  rcases hi with hi|hi
  ·rw[Mv (by lia),Mv (by lia)]
  have hl2:((xs.toList.drop lo).take k).length=k:=by rw[D',H_,gV];lia
  have hl3:r.toList.length=n-k+c:=by rw[gV];exact lr
  have hl4:=hr.1.length_eq;rw[<-k_,<-k_]
  conv=>rhs;rw[<-k_,<-k_]
  refine AY ?_ ?_
  ·rw[f',f',f',f',hl4]
  rw[f',f',hl1,hl2,hl3];lia
 have hl1:(xs.toList.take lo).length=lo:=by rw[D',gV];lia
 have e:((wrote xs (lo+k) r).toList.drop lo).take (n+m)=(xs.toList.drop lo).take k++(r.toList++(xs.toList.drop (lo+n+c)).take (m-c)):=by rw[wl,List.drop_left' hl1,<-k_,<-k_,List.take_left',k_];rw[f',f',D',D',H_,H_,gV,gV];lia
 rw[e];have mr:∀q∈r.toList,q∈(xs.toList.drop (lo+k)).take (n-k)\/q∈(xs.toList.drop (lo+n)).take c:=fun q hq=>v_.mp (hr.1.mem_iff.mp hq);refine C_.mpr ⟨sx1,C_.mpr ⟨hr.2,sy2,fun p hp q hq=>?_⟩,fun p hp q hq=>?_⟩
 ·rcases mr p hp with hp|hp
  ·exact a2 p (by rw[X];exact o_ _ hp) q hq
  exact sy p hp q hq
 rcases v_.mp hq with hq|hq
 ·rcases mr q hq with hq|hq
  ·exact sx p hp q hq
  exact a1 p hp q (by rw[Y];exact w_ _ hq)
 exact a1 p hp q (by rw[Y];exact o_ _ hq)
end
theorem Fx{α:Type}{ps:Array α}{pre post:List α}{x y:α}(h:ps.toList=pre++x::y::post):ps[pre.length]?=some x/\ps[pre.length+1]?=some y:=by
 rw[<-f_,<-f_,h];constructor
 ·rw[Ly (b_ _),MP];rfl
 rw[Ly (by lia),ND];rfl
theorem A9{α:Type}{ps:Array α}{pre post:List α}{x y z:α}(h:ps.toList=pre++x::y::post):((ps.setIfInBounds pre.length z).eraseIdxIfInBounds (pre.length+1)).toList=pre++z::post:=by
 have hs:ps.size=pre.length+(post.length+2):=by rw[<-gV,h,f'];rfl
 have hb:pre.length+1<(ps.setIfInBounds pre.length z).size:=by rw[Oz];lia
 unfold Array.eraseIdxIfInBounds;rw[dif_pos hb,Array.toList_eraseIdx,Oi,h];rw[OR _ _ (b_ _),MP,O5,List.eraseIdx_append_of_length_le (by lia),ND]
 rfl
section
variable{M:Se}{A:QE}{E:Qf->Qi->Prop}{s:Qi}{kd:Rf}{rk:Ql->Nat}{S:Ql->Prop}
theorem Il{σ:Type}{v st:σ}{Q:PUnit->σ->Prop}(q:Q ⟨⟩ v):wpS M A E s (set v:StateT σ Sem PUnit) Q st:=by unfold wpS;rw[StateT.run_set];exact Qj ⟨rfl,q⟩
structure Mgd (rk:Ql->Nat) (st st':Qq) (lo n:Nat) (ps:List (Nat×Nat×Nat)):Prop where
 k:kindOf st'=kindOf st
 f:QZ st'=none
 p:(QB st').toList=ps
 a:(Qm st').Perm (Qm st)
 out:∀i,(i<lo\/lo+n<=i)->(Qm st')[i]?=(Qm st)[i]?
 srt:cm rk (Qm st') lo n
theorem HX{pre post:List (Nat×Nat×Nat)}{s1 n1 pw n2 p2:Nat}{st:Qq}{Q:Bool->Qq->Prop}(L:cM M A E s kd rk S)(hk:kindOf st=kd)(hS:nZ S st)(hf:QZ st=none)(hr:∀x,Qn M A (rule x) (fun _ s'=>s'=s) E s)
  (hp:(QB st).toList=pre++(s1,n1,pw)::(s1+n1,n2,p2)::post) (h1:1<=n1) (h2:1<=n2) (hsz:s1+n1+n2<=(Qm st).size) (o1:cm rk (Qm st) s1 n1) (o2:cm rk (Qm st) (s1+n1) n2)
  (h:∀st',Mgd rk st st' s1 (n1+n2) (pre++(s1,n1+n2,pw)::post)->Q true st'):wpS M A E s (UQ pre.length) Q st:=by
 rw[Hj];refine Qp (Sy ?_);dsimp only;obtain⟨e1,e2⟩:=Fx hp;rw[e1,e2];dsimp only;refine Qp (Il ?_);generalize hst1:Ry (kindOf st) (Qm st) (((QB st).setIfInBounds pre.length (s1,n1+n2,pw)).eraseIdxIfInBounds (pre.length+1)) (T_ st) (QZ st)=st1;have k1:kindOf st1=kd:=by rw[<-hst1];exact hk
 have a1:Qm st1=Qm st:=by rw[<-hst1]
 have f1:QZ st1=none:=by rw[<-hst1];exact hf
 have p1:(QB st1).toList=pre++(s1,n1+n2,pw)::post:=by rw[<-hst1];exact A9 hp
 have SA:∀(i:Nat) p,(Qm st)[i]?=some p->S p:=fun i p e=>hS.at e;have gt:∀i,i<(Qm st).size->∃p,(Qm st)[i]?=some p:=fun i hi=>⟨_,i_ hi⟩;have RR:∀{i:Nat}{p:Ql},(Qm st)[i]?=some p->R rk (Qm st) i=rk p:=fun{i p} e=>by unfold R;rw[e]
 obtain⟨ky,hky⟩:=gt (s1+n1) (by lia);have oJ:cm rk (Qm st) s1 (n1+n2)->Q true st1:=fun z=>h st1 ⟨k1.trans hk.symm,f1,p1,by rw[a1],fun i _=>by rw[a1],by rw[a1];exact z⟩
 refine Qp (aX hky (Qp (jJ L k1 (by lia) (by lia) SA (SA _ _ hky) (fun i j p q hij hj hp hq=>?_) fun k hk1 g1 g2=>?_)))
 ·have:=o1 i j hij hj;rw[RR hp,RR hq]at this;exact this
 dsimp only;have below:∀i,i<k->∀j,j<n2->R rk (Qm st) (s1+i)<=R rk (Qm st) (s1+n1+j):=fun i hi j hj=>by obtain⟨p,hp⟩:=gt (s1+i) (by lia);have a:=g1 i p hi hp;rw[if_neg (by simp)]at a;have b:=o2 0 j (B_ _) hj;rw[NW,RR hky]at b;rw[RR hp];exact m_ a b
 by_cases z:n1-k=0
 ·rw[if_pos (by rw[z];rfl)];exact Qw (oJ (uW o1 o2 fun i j hi hj=>below i (by lia) j hj))
 rw[if_neg (by simpa using z)];obtain⟨la,hla⟩:=gt (s1+n1-1) (by lia);rw[uL hk1];refine Qp (aX hla (Qp (jJ L k1 (by lia) (by omega) SA (SA _ _ hla) (fun i j p q hij hj hp hq=>?_) fun c hc1 d1 d2=>?_)))
 ·have:=o2 i j hij hj;rw[RR hp,RR hq]at this;exact this
 dsimp only;have above:∀i,i<n1->∀j,c<=j->j<n2->R rk (Qm st) (s1+i)<=R rk (Qm st) (s1+n1+j):=fun i hi j hj hj2=>by
  obtain⟨p,hp⟩:=gt (s1+n1+j) (by lia);have a:=d2 j p hj hj2 hp;rw[if_pos rfl]at a;have hn1:1<=n1:=by lia
  have b:=o1 i (n1-1) (by lia) (Om hn1 MY);rw[Az hn1,RR hla]at b;rw[RR hp];exact m_ b a
 by_cases w:c=0
 ·rw[if_pos (by rw[w];rfl)];exact Qw (oJ (uW o1 o2 fun i j hi hj=>above i hi j (by lia) hj))
 rw[if_neg (by simpa using w)];have ex:((Qm st).extract (s1+k) (s1+n1)).toList=((Qm st).toList.drop (s1+k)).take (n1-k):=by have:=mY (Qm st) (s1+k) (n1-k);rw[uL hk1]at this;exact this
 have ey:=mY (Qm st) (s1+n1) c;have zx:((Qm st).extract (s1+k) (s1+n1)).size=n1-k:=by rw[O6];lia
 have zy:((Qm st).extract (s1+n1) (s1+n1+c)).size=c:=by rw[O6];lia
 have T2:∀{i:Nat}{p:Ql},(Qm st).toList[i]?=some p->(Qm st)[i]?=some p:=fun{i p} e=>by rw[f_]at e;exact e
 have sX:=jg o1;have sY:=jg o2;rw[mX hk1]at sX;rw[mX hc1]at sY;have H:LoOk rk S ((Qm st).extract (s1+k) (s1+n1)) ((Qm st).extract (s1+n1) (s1+n1+c)):=by
  refine⟨by rw[ex];exact(C_.mp sX).2.1,by rw[ey];exact(C_.mp sY).1,fun i p e=>?_,fun i p e=>?_,by lia,by lia,fun p e u hu=>?_,fun p e u hu=>?_⟩
  ·rw[MZ]at e;split at e
   ·exact SA _ _ e
   cases e
  ·rw[MZ]at e;split at e
   ·exact SA _ _ e
   cases e
  ·rw[MZ,if_pos (by lia),NW,hky]at e;cases e;rw[ex]at hu;obtain⟨j,hj,ej⟩:=dC hu;have:=g2 (k+j) u (by lia) (by lia) (by rw[<-Nj];exact T2 ej);rw[if_neg (by simp)]at this;exact K_ this
  rw[zx,MZ,if_pos (by lia),show s1+k+(n1-k-1)=s1+n1-1 by lia,hla]at e;cases e;rw[ey]at hu;obtain⟨j,hj,ej⟩:=dC hu;have:=d1 j u hj (T2 ej);rw[if_pos rfl]at this;exact K_ this
 have fin:∀r st2,Keep st1 st2->Res rk ((Qm st).extract (s1+k) (s1+n1)).toList ((Qm st).extract (s1+n1) (s1+n1+c)).toList r.toList->wpS M A E s (do
   modify fun z=>setArr z (wrote (Qm z) (s1+k) r)
   let g <-get
   pure (QZ g).isNone:StateT Qq Sem Bool) Q st2:=fun r st2 K hres=>by
  rw[ex,ey]at hres;refine Qp (Ti (Qp (Sy (Qw ?_))));have hf2:QZ st2=none:=K.f.trans f1;have aa:Qm st2=Qm st:=K.a.trans a1;have q1:∀p∈((Qm st).toList.drop s1).take k,∀q∈((Qm st).toList.drop (s1+n1)).take n2,rk p<=rk q:=fun p hp q hq=>by obtain⟨i,hi,ei⟩:=dC hp;obtain⟨j,hj,ej⟩:=dC hq;have:=below i hi j hj;rw[RR (T2 ei),RR (T2 ej)]at this;exact this
  have q2:∀p∈((Qm st).toList.drop s1).take n1,∀q∈((Qm st).toList.drop (s1+n1+c)).take (n2-c),rk p<=rk q:=fun p hp q hq=>by obtain⟨i,hi,ei⟩:=dC hp;obtain⟨j,hj,ej⟩:=dC hq;have:=above i hi (c+j) (by lia) (by lia);rw[<-Nj,RR (T2 ei),RR (T2 ej)]at this;exact this
  obtain⟨m1,m2,m3⟩:=HS (rk:=rk) (xs:=Qm st) (r:=r) (lo:=s1) (k:=k) (n:=n1) (m:=n2) (c:=c) hk1 hc1 (by omega) o1 o2 q1 q2 hres;rw[show(QZ (setArr st2 (wrote (Qm st2) (s1+k) r))).isNone=true by show(QZ st2).isNone=true;rw[hf2];rfl];refine h _ ⟨K.k.trans (k1.trans hk.symm),hf2,?_,?_,fun i hi=>?_,?_⟩
  ·show(QB st2).toList=_;rw[K.p];exact p1
  ·show(wrote (Qm st2) (s1+k) r).Perm _;rw[aa];exact m1
  ·show(wrote (Qm st2) (s1+k) r)[i]?=_;rw[aa];exact m2 i (by lia)
  show cm rk (wrote (Qm st2) (s1+k) r) _ _;rw[aa];exact m3
 by_cases v:n1-k<=c
 ·rw[if_pos v];exact Qp (Iq L H k1 fin hr)
 rw[if_neg v];exact Qp (Iu L H k1 fin hr)
end
abbrev CS:=Option Unit×Unit
abbrev LS:=Option Unit×Nat
noncomputable def pf(w0:Nat):StateT Qq Sem (ForInStep CS):=do
 let g <-get
 match(if(QB g).size > 1 then(QB g)[(QB g).size-2]? else none)with
 |some (_,_,old)=>
  if old<=w0 then pure (Qu (none,()))
  else do
   let b <-UQ ((QB g).size-2)
   if(!b)=true then pure (Qu (some (),()))else pure (QD (none,()))
 | _=>pure (Qu (none,()))
noncomputable def tJ(q0 n:Nat):StateT Qq Sem (ForInStep LS):=do
 modify fun z=>setPending z ((QB z).push (q0,n,0))
 pure (QD (none,q0+n))
noncomputable def tl(sz q0 n:Nat):StateT Qq Sem (ForInStep LS):=do
 let g <-get
 match(QB g).back? with
 |some (s1,n1,_)=>do
  let c <-forIn [0:sz] ((none,()):CS) fun _ _=>pf (power' sz (2*s1+n1) (2*s1+n1+n1+n) sz)
  match c.1 with
  |some r=>pure (Qu (some r,q0))
  |none=>do
   modify fun z=>setPending z ((QB z).modify ((QB z).size-1) fun x=>(x.1,x.2.1,power' sz (2*s1+n1) (2*s1+n1+n1+n) sz))
   tJ q0 n
 | _=>tJ q0 n
noncomputable def m7(sz q0:Nat):StateT Qq Sem (ForInStep LS):=
 if q0>=sz then pure (Qu (none,q0))else do
  let f <-Wk q0 (sz-q0)
  match f with
  |some n=>
   if n<Vd sz sz 0 then do
    rule "list.sort.binary-insertion"
    let b <-Xi q0 (min (sz-q0) (Vd sz sz 0)) n
    if(!b)=true then pure (Qu (some (),q0))else tl sz q0 (min (sz-q0) (Vd sz sz 0))
   else tl sz q0 n
  | _=>pure (Qu (some (),q0))
noncomputable def pick(ps:Array (Nat×Nat×Nat)):Nat:=
 if Qb (fun x=>decide (x<ps[ps.size-2+1]?.elim 0 fun y=>y.2.1)) (if ps.size-2 > 0 then Nh (fun y=>y.2.1) ps[ps.size-2-1]? else none)=true then ps.size-2-1 else ps.size-2
noncomputable def zq:StateT Qq Sem (ForInStep CS):=do
 let g <-get
 if(QB g).size<=1 then pure (Qu (none,()))
 else do
  let b <-UQ (pick (QB g))
  if(!b)=true then pure (Qu (some (),()))else pure (QD (none,()))
theorem Jr:sortRuns'=(do
 let g <-get
 let c <-forIn [0:(Qm g).size] ((none,0):LS) fun _ c=>m7 (Qm g).size c.2
 match c.1 with
 |some r=>pure r
 |none=>do
  let d <-forIn [0:(Qm g).size] ((none,()):CS) fun _ _=>zq
  match d.1 with
  |some r=>pure r
  |none=>pure ()):=by
 rw[sortRuns'_eq];dsimp only;refine congrArg (bind get) (funext fun g=>?_);refine congr (congrArg bind ?_) (funext fun c=>?_)
 ·refine congrArg (forIn _ _) (funext fun _=>funext fun c=>?_);unfold m7;refine ite_congr rfl (fun _=>rfl) (fun _=>?_);refine congrArg (bind _) (funext fun f=>?_);cases f with
  |none=>rfl
  |some n=>
   dsimp only;refine ite_congr rfl (fun _=>congrArg (bind _) (funext fun _=>congrArg (bind _) (funext fun b=>ite_congr rfl (fun _=>rfl) (fun _=>?_)))) (fun _=>?_)
   all_goals
    unfold tl;refine congrArg (bind _) (funext fun g=>?_);generalize (QB g).back?=bk;rcases bk with _|⟨s1,n1,z⟩
    ·rfl
    dsimp only;refine congr (congrArg bind ?_) (funext fun c=>?_)
    ·refine congrArg (forIn _ _) (funext fun _=>funext fun c=>?_);unfold pf;refine congrArg (bind _) (funext fun g=>?_);generalize (if(QB g).size > 1 then(QB g)[(QB g).size-2]? else none)=o;rcases o with _|⟨_,_,_⟩ <;> rfl
    rcases c with⟨_ | _,_⟩ <;> rfl
 rcases c with⟨_ | _,_⟩
 ·dsimp only;refine congr (congrArg bind ?_) (funext fun c=>?_)
  ·rfl
  rcases c with⟨_ | _,_⟩ <;> rfl
 rfl
noncomputable def Pd(rk:Ql->Nat)(xs:Array Ql):List (Nat×Nat×Nat)->Nat->Nat->Prop
 | [],a,b=>a=b
 | (c,n,_)::t,a,b=>c=a/\1<=n/\cm rk xs c n/\Pd rk xs t (a+n) b
section
variable{rk:Ql->Nat}
theorem Pd.le {xs:Array Ql}:∀{l:List (Nat×Nat×Nat)}{a b:Nat},Pd rk xs l a b->a+l.length<=b
 | [],_,_,h=>Nu h
 | (c,n,_)::t,a,b,h=>by have:=h.2.2.2.le;have:=h.2.1;rw[h_];lia
theorem Pd.congr {xs ys:Array Ql}:∀{l:List (Nat×Nat×Nat)}{a b:Nat},Pd rk xs l a b->(∀i,a<=i->i<b->R rk ys i=R rk xs i)->Pd rk ys l a b
 | [],_,_,h,_=>h
 | (c,n,_)::t,a,b,h,e=>by have le:=h.2.2.2.le;have ca:=h.1;refine⟨h.1,h.2.1,fun i j hij hj=>?_,h.2.2.2.congr fun i h1 h2=>e i (by lia) h2⟩;rw[e _ (by lia) (by lia),e _ (by lia) (by lia)];exact h.2.2.1 i j hij hj
theorem fw{xs:Array Ql}:∀{l m:List (Nat×Nat×Nat)}{a b:Nat},Pd rk xs (l++m) a b↔∃c,Pd rk xs l a c/\Pd rk xs m c b
 | [],m,a,b=>⟨fun h=>⟨a,rfl,h⟩,fun⟨c,e,h⟩=>by cases (show a=c from e);exact h⟩
 | (c,n,_)::t,m,a,b=>⟨fun h=>by obtain⟨d,h1,h2⟩:=fw.mp h.2.2.2;exact⟨d,⟨h.1,h.2.1,h.2.2.1,h1⟩,h2⟩,fun⟨d,h,h2⟩=>⟨h.1,h.2.1,h.2.2.1,fw.mpr ⟨d,h.2.2.2,h2⟩⟩⟩
theorem Pd.modify {xs:Array Ql}{w0:Nat}:∀{l:List (Nat×Nat×Nat)}{i a b:Nat},Pd rk xs l a b->Pd rk xs (l.modify i fun x=>(x.1,x.2.1,w0)) a b
 | [],i,_,_,h=>by cases i <;> exact h
 | (c,n,_)::t,0,a,b,h=>⟨h.1,h.2.1,h.2.2.1,h.2.2.2⟩
 | (c,n,_)::t,i+1,a,b,h=>⟨h.1,h.2.1,h.2.2.1,h.2.2.2.modify⟩
theorem sS{α:Type}:∀{l:List α}{i:Nat},i+1<l.length->∃pre x y post,l=pre++x::y::post/\pre.length=i
 |x::y::t,0,_=>⟨[],x,y,t,rfl,rfl⟩
 | [_],0,h=>absurd h (by simp)
 |x::t,i+1,h=>by obtain⟨p,a,b,q,e,f⟩:=sS (l:=t) (i:=i) (by rw[h_]at h;lia);exact⟨x::p,a,b,q,by rw[e];rfl,by rw[h_,f]⟩
 | [],_,h=>absurd h (by simp)
end
section
variable{M:Se}{A:QE}{E:Qf->Qi->Prop}{s:Qi}{kd:Rf}{rk:Ql->Nat}{S:Ql->Prop}{a0:Array Ql}
structure Iv (kd:Rf) (rk:Ql->Nat) (a0:Array Ql) (q0:Nat) (st:Qq):Prop where
 k:kindOf st=kd
 f:QZ st=none
 a:(Qm st).Perm a0
 pd:Pd rk (Qm st) (QB st).toList 0 q0
theorem Iv.all {q0:Nat}{st:Qq}(h:Iv kd rk a0 q0 st)(hS:∀p∈a0.toList,S p):nZ S st:=fun p hp=>hS p ((L_.mp h.a).mem_iff.mp hp)
theorem uZ{q0 i:Nat}{st:Qq}{Q:Bool->Qq->Prop}(L:cM M A E s kd rk S)(hS:∀p∈a0.toList,S p)(hr:∀x,Qn M A (rule x) (fun _ s'=>s'=s) E s)(I:Iv kd rk a0 q0 st)(hq:q0<=a0.size)(hi:i+1<(QB st).size)
  (h:∀st',Iv kd rk a0 q0 st'->(QB st').size+1=(QB st).size->(∀j,q0<=j->(Qm st')[j]?=(Qm st)[j]?)->Q true st'):wpS M A E s (UQ i) Q st:=by
 obtain⟨pre,⟨s1,n1,pw⟩,⟨s2,n2,p2⟩,post,e,el⟩:=sS (l:=(QB st).toList) (i:=i) (by rw[gV];exact hi);subst el;have P:=I.pd;rw[e]at P;obtain⟨c,P1,e1,k1,o1,e2,k2,o2,P3⟩:=fw.mp P;subst e1;subst e2;have le:=P3.le;have sz:=I.a.size_eq;refine HX L I.k (I.all hS) I.f hr e k1 k2 (by lia) o1 o2 fun st' m=>?_
 have same:∀j,(j<s1\/s1+n1+n2<=j)->R rk (Qm st') j=R rk (Qm st) j:=fun j hj=>dO (m.out j (by lia))
 refine h st' ⟨m.k.trans I.k,m.f,m.a.trans I.a,?_⟩ ?_ fun j hj=>m.out j (by lia)
 ·rw[m.p];refine fw.mpr ⟨s1,P1.congr fun j _ hj=>same j (by lia),rfl,by lia,m.srt,?_⟩;rw[<-Nj];exact P3.congr fun j hj _=>same j (by lia)
 rw[<-gV,<-gV,m.p,e];simp only[f',h_];lia
theorem xE{q0 w0:Nat}{st:Qq}{Q:ForInStep CS->Qq->Prop}(L:cM M A E s kd rk S)(hS:∀p∈a0.toList,S p)(hr:∀x,Qn M A (rule x) (fun _ s'=>s'=s) E s)(I:Iv kd rk a0 q0 st)(hq:q0<=a0.size)
  (h:∀st' (d:Bool),Iv kd rk a0 q0 st'->(∀j,q0<=j->(Qm st')[j]?=(Qm st)[j]?)->Q (if d=true then Qu (none,())else QD (none,())) st'):wpS M A E s (pf w0) Q st:=by
 unfold pf;refine Qp (Sy ?_);generalize ho:(if(QB st).size > 1 then(QB st)[(QB st).size-2]? else none)=o;rcases o with _|⟨x,y,old⟩
 ·exact Qw (h st true I fun _ _=>rfl)
 dsimp only;have h1:(QB st).size > 1:=by
  by_cases z:(QB st).size > 1
  ·exact z
  rw[if_neg z]at ho;cases ho
 by_cases w:old<=w0
 ·rw[if_pos w];exact Qw (h st true I fun _ _=>rfl)
 rw[if_neg w];refine Qp (uZ L hS hr I hq (by lia) fun st' I' _ e=>?_);rw[if_neg (by simp)];exact Qw (h st' false I' e)
theorem rj{q0 n:Nat}{st:Qq}{Q:ForInStep LS->Qq->Prop}(I:Iv kd rk a0 q0 st)(hn:1<=n)(o:cm rk (Qm st) q0 n)(h:∀st',Iv kd rk a0 (q0+n) st'->Q (QD (none,q0+n)) st'):wpS M A E s (tJ q0 n) Q st:=by unfold tJ;refine Qp (Ti (Qw (h _ ⟨I.k,I.f,I.a,?_⟩)));show Pd rk (Qm st) ((QB st).push (q0,n,0)).toList 0 (q0+n);rw[Mx];exact fw.mpr ⟨q0,I.pd,rfl,hn,o,rfl⟩
theorem FC{q0 n:Nat}{st:Qq}{Q:ForInStep LS->Qq->Prop}(L:cM M A E s kd rk S)(hS:∀p∈a0.toList,S p)(hr:∀x,Qn M A (rule x) (fun _ s'=>s'=s) E s)(I:Iv kd rk a0 q0 st)(hq:q0<=a0.size)(hn:1<=n)(o:cm rk (Qm st) q0 n)
  (h:∀st',Iv kd rk a0 (q0+n) st'->Q (QD (none,q0+n)) st'):wpS M A E s (tl a0.size q0 n) Q st:=by
 unfold tl;refine Qp (Sy ?_);generalize (QB st).back?=bk;rcases bk with _|⟨s1,n1,z⟩
 ·exact rj I hn o h
 dsimp only;generalize power' a0.size (2*s1+n1) (2*s1+n1+n1+n) a0.size=w0;refine Qp (Rj (Q2 (I:=fun _ c st'=>c=(none,())/\Iv kd rk a0 q0 st'/\∀j,q0<=j->(Qm st')[j]?=(Qm st)[j]?) (Q:=fun c st'=>c=(none,())/\Iv kd rk a0 q0 st'/\∀j,q0<=j->(Qm st')[j]?=(Qm st)[j]?) ?_ (fun _ _ z=>z) ⟨rfl,I,fun _ _=>rfl⟩) ?_)
 ·rintro x c st1 _ _ ⟨rfl,I1,e1⟩;refine xE L hS hr I1 hq fun st2 d I2 e2=>?_;cases d
  ·exact⟨rfl,I2,fun j hj=>(e2 j hj).trans (e1 j hj)⟩
  exact⟨rfl,I2,fun j hj=>(e2 j hj).trans (e1 j hj)⟩
 rintro c st1 ⟨rfl,I1,e1⟩;dsimp only;refine Qp (Ti ?_);refine rj ⟨I1.k,I1.f,I1.a,?_⟩ hn (fun i j hij hj=>?_) h
 ·show Pd rk (Qm st1) ((QB st1).modify ((QB st1).size-1) fun x=>(x.1,x.2.1,w0)).toList 0 q0;rw[Array.toList_modify];exact I1.pd.modify
 show R rk (Qm st1) (q0+i)<=R rk (Qm st1) (q0+j);rw[dO (rk:=rk) (e1 (q0+i) (by lia)),dO (rk:=rk) (e1 (q0+j) (by lia))];exact o i j hij hj
theorem Iv.within {q0 n:Nat}{st st':Qq}(I:Iv kd rk a0 q0 st)(W:Within st st' q0 n):Iv kd rk a0 q0 st':=⟨W.kp.k.trans I.k,W.kp.f.trans I.f,W.kp.a.trans I.a,by rw[W.kp.p];exact I.pd.congr fun i _ hi=>dO (W.out i (.inl hi))⟩
theorem ve{q0:Nat}{st:Qq}{Q:ForInStep LS->Qq->Prop}(L:cM M A E s kd rk S)(hS:∀p∈a0.toList,S p)(hr:∀x,Qn M A (rule x) (fun _ s'=>s'=s) E s)(I:Iv kd rk a0 q0 st)(hq:q0<=a0.size)
  (h1:q0=a0.size->Q (Qu (none,q0)) st) (h2:∀n st',1<=n->q0+n<=a0.size->Iv kd rk a0 (q0+n) st'->Q (QD (none,q0+n)) st'):wpS M A E s (m7 a0.size q0) Q st:=by
 unfold m7;by_cases z:q0>=a0.size
 ·rw[if_pos z];exact Qw (h1 (by lia))
 rw[if_neg z];have qz:=K_ (Ox z);have sz:=I.a.size_eq;refine Qp (vR L I.k (I.all hS) (by lia) (by lia) hr fun n st1 g1 g2 W1 o1=>?_);dsimp only;have I1:=I.within W1;by_cases w:n<Vd a0.size a0.size 0
 ·rw[if_pos w];generalize Vd a0.size a0.size 0=mr at w ⊢;refine Qp (T' (QM (hr _) (fun _ _ z=>⟨z,?_⟩) fun _ _ z=>z));have sz1:=I1.a.size_eq;have f1:n<=min (a0.size-q0) mr:=Nat.le_min.mpr ⟨g2,K_ w⟩;have f4:q0+min (a0.size-q0) mr<=a0.size:=m_ (MA (Nat.min_le_left ..) q0) (Nu (Nl qz));have f5:=m_ g1 f1;generalize min (a0.size-q0) mr=fr at f1 f4 f5 ⊢;refine Qp (Ef L I1.k (I1.all hS) (by rw[sz1];exact f4) f1 o1 fun st2 W2 o2=>?_);rw[if_neg (by simp)];exact FC L hS hr (I1.within W2) hq f5 o2 fun st3 I3=>h2 _ st3 f5 f4 I3
 rw[if_neg w];exact FC L hS hr I1 hq g1 o1 fun st3 I3=>h2 _ st3 g1 (by lia) I3
theorem ES{ps:Array (Nat×Nat×Nat)}(h:1<ps.size):pick ps+1<ps.size:=by
 unfold pick;generalize Qb (fun x=>decide (x<ps[ps.size-2+1]?.elim 0 fun y=>y.2.1)) (if ps.size-2 > 0 then Nh (fun y=>y.2.1) ps[ps.size-2-1]? else none)=b;cases b
 ·rw[if_neg (by simp)];lia
 rw[if_pos rfl];lia
theorem oD{st:Qq}{Q:Unit->Qq->Prop}(L:cM M A E s kd rk S)(hS:∀p∈(Qm st).toList,S p)(hr:∀x,Qn M A (rule x) (fun _ s'=>s'=s) E s)(hk:kindOf st=kd)(hf:QZ st=none)(hp:QB st=#[])
  (h:∀st',(Qm st').Perm (Qm st)->QZ st'=none->Srt rk (Qm st').toList->Q () st'):wpS M A E s sortRuns' Q st:=by
 rw[Jr];refine Qp (Sy ?_);have I0:Iv kd rk (Qm st) 0 st:=⟨hk,hf,OI _,by rw[hp];exact rfl⟩;revert I0 hS h;generalize Qm st=a0;intro hS h I0;refine Qp (Rj (Q2 (I:=fun x c st'=>∃q0,c=(none,q0)/\x<=q0/\q0<=a0.size/\Iv kd rk a0 q0 st') (Q:=fun c st'=>c=(none,a0.size)/\Iv kd rk a0 a0.size st') ?_ ?_ ⟨0,rfl,b_ _,B_ _,I0⟩) ?_)
 ·rintro x c st1 _ _ ⟨q0,rfl,g1,g2,I⟩;exact ve L hS hr I g2 (fun e=>by subst e;exact⟨rfl,I⟩) fun n st2 k1 k2 I2=>⟨q0+n,rfl,by lia,k2,I2⟩
 ·rintro c st1 ⟨q0,rfl,g1,g2,I⟩;have e:q0=a0.size:=by lia
  subst e;exact⟨rfl,I⟩
 rintro c st1 ⟨rfl,I1⟩;dsimp only;refine Qp (Rj (Q2 (I:=fun x c st'=>c=(none,())/\Iv kd rk a0 a0.size st'/\((QB st').size<=1\/(QB st').size+x<=a0.size)) (Q:=fun c st'=>c=(none,())/\Iv kd rk a0 a0.size st'/\(QB st').size<=1) ?_ ?_ ⟨rfl,I1,.inr ?_⟩) ?_)
 ·rintro x c st2 _ _ ⟨rfl,I2,g⟩;unfold zq;refine Qp (Sy ?_);by_cases z:(QB st2).size<=1
  ·rw[if_pos z];exact Qw ⟨rfl,I2,z⟩
  rw[if_neg z];refine Qp (uZ L hS hr I2 (b_ _) (ES (by lia)) fun st3 I3 e _=>?_);rw[if_neg (by simp)];exact Qw ⟨rfl,I3,.inr (by lia)⟩
 ·rintro c st2 ⟨rfl,I2,g⟩;exact⟨rfl,I2,by lia⟩
 ·have:=I1.pd.le;rw[gV]at this;lia
 rintro c st2 ⟨rfl,I2,g⟩;refine Qw (h st2 I2.a I2.f ?_);have P:=I2.pd;have sz:=I2.a.size_eq;have lp:(QB st2).toList.length<=1:=by rw[gV];exact g
 have o:cm rk (Qm st2) 0 a0.size:=by
  generalize (QB st2).toList=l at P lp
  match l,P,lp with
  | [],P,_=>
   have e:0=a0.size:=P;intro i j _ hj;lia
  | [(c,n,_)],P,_=>
   obtain⟨e1,_,o,e2⟩:=P;have e2:0+n=a0.size:=e2;subst e1;rw[<-e2,Nw];exact o
  | _::_::_,_,lp=>simp at lp
 have:=jg o;rw[M8,Ma (by rw[gV];lia)]at this;exact this
end
section
variable{κ:Type}{lt:κ->κ->Bool}
noncomputable def rnk(lt:κ->κ->Bool)(ks:List κ)(k:κ):Nat:=ks.countP fun y=>lt y k
theorem count_le{p q:κ->Bool}:∀{l:List κ},(∀x∈l,p x=true->q x=true)->l.countP p<=l.countP q
 | [],_=>b_ _
 |x::t,h=>by
  have ih:=count_le (l:=t) fun y hy=>h y (.tail _ hy);have hx:=h x (.head _);rw[NN,NN];cases e:p x
  ·rw[if_neg (by simp)];lia
  rw[hx e,if_pos rfl];lia
theorem vH{p q:κ->Bool}:∀{l:List κ}{z:κ},(∀x∈l,p x=true->q x=true)->z∈l->p z=false->q z=true->l.countP p<l.countP q
 |x::t,z,h,hz,h1,h2=>by
  have ih:=count_le (l:=t) fun y hy=>h y (.tail _ hy);have hx:=h x (.head _);rw[NN,NN];rcases n_.mp hz with e|e
  ·subst e;rw[h1,h2,if_neg (by simp),if_pos rfl];lia
  have:=vH (l:=t) (fun y hy=>h y (.tail _ hy)) e h1 h2;cases e:p x
  ·rw[if_neg (by simp)];lia
  rw[hx e,if_pos rfl];lia
structure Tot (lt:κ->κ->Bool):Prop where
 irr:∀a,lt a a=false
 tr:∀a b c,lt a b=true->lt b c=true->lt a c=true
 tot:∀a b,lt a b=false->lt b a=false->a=b
theorem Ic(T:Tot lt){ks:List κ}{a b:κ}(h:lt b a=false):rnk lt ks a<=rnk lt ks b:=by
 refine count_le fun y _ hy=>?_;cases e:lt a b
 ·rw[<-T.tot a b e h];exact hy
 exact T.tr _ _ _ hy e
theorem ui(T:Tot lt){ks:List κ}{a b:κ}(ha:a∈ks)(h:lt a b=true):rnk lt ks a<rnk lt ks b:=vH (fun y _ hy=>T.tr _ _ _ hy h) ha (T.irr a) h
theorem zH(T:Tot lt){ks:List κ}{a b:κ}(ha:a∈ks):decide (rnk lt ks a<rnk lt ks b)=lt a b:=by
 cases e:lt a b
 ·exact decide_eq_false (OX.mpr (Ic T e))
 exact decide_eq_true (ui T ha e)
end
noncomputable def ltL:List Int->List Int->Bool
 | _,[]=>false
 | [],_::_=>true
 |a::x,b::y=>if a=b then ltL x y else decide (a<b)
theorem yj:∀x,ltL x x=false
 | []=>rfl
 |a::x=>by rw[ltL,if_pos rfl];exact yj x
theorem CZ:∀a b c,ltL a b=true->ltL b c=true->ltL a c=true
 | _,[],_,h,_=>by simp[ltL]at h
 | _,_::_,[],_,h=>by simp[ltL]at h
 | [],_::_,_::_,_,_=>rfl
 |a::x,b::y,c::z,h,g=>by
  rw[ltL]at h g ⊢;by_cases e1:a=b
  ·subst e1;rw[if_pos rfl]at h;by_cases e2:a=c
   ·subst e2;rw[if_pos rfl]at g ⊢;exact CZ x y z h g
   rw[if_neg e2]at g ⊢;exact g
  rw[if_neg e1]at h;have h:=of_decide_eq_true h;by_cases e2:b=c
  ·subst e2;rw[if_neg e1];exact decide_eq_true h
  rw[if_neg e2]at g;have g:=of_decide_eq_true g;rw[if_neg (by lia)];exact decide_eq_true (by lia)
theorem yQ:∀a b,ltL a b=false->ltL b a=false->a=b
 | [],[],_,_=>rfl
 | [],_::_,h,_=>by simp[ltL]at h
 | _::_,[],_,h=>by simp[ltL]at h
 |a::x,b::y,h,g=>by
  rw[ltL]at h g;by_cases e:a=b
  ·subst e;rw[if_pos rfl]at h g;rw[yQ x y h g]
  rw[if_neg e]at h;rw[if_neg (fun z=>e z.symm)]at g;have h:=of_decide_eq_false h;have g:=of_decide_eq_false g;lia
theorem Cf:Tot ltL:=⟨yj,CZ,yQ⟩
noncomputable def fS:Qf->Int
 | .int i _=>i
 | _=>0
noncomputable def jP(h:Qz):Qf->List Int
 | .ref a=>match h.get? a with
  |some o=>match o.data with
   | .seq xs _=>xs.toList.map fS
   | _=>[]
  |none=>[]
 | _=>[]
noncomputable def AllInt(l:List Qf):Prop:=∀v∈l,∃i t,v=.int i t
noncomputable def Fq(h:Qz)(v:Qf):Prop:=∃a o xs n,v=.ref a/\h.get? a=some o/\o.cls=.type "tuple"/\o.data=.seq xs n/\AllInt xs.toList/\0<xs.size
theorem sO{h:Qz}{a:Qh}{o:Obj}{xs:Array Qf}{n:Nat}(e:h.get? a=some o)(d:o.data=.seq xs n):jP h (.ref a)=xs.toList.map fS:=by unfold jP;dsimp only;rw[e];dsimp only;rw[d]
section
variable{prog:Qv}{w:Qy}{A:QE}{E:Qf->Qi->Prop}{s:Qi}
theorem zi{Q:Bool->Qi->Prop}{fin:Bool}:∀(xs ys:List Qf) (i:Nat),AllInt xs->AllInt ys->fin=decide (xs.length<ys.length)->Q (ltL (xs.map fS) (ys.map fS)) s->PySem.W.KatLex prog w A true fin Q (xs.zip ys) i s
 | [],[],i,_,_,e,q=>by subst e;exact Um q
 | [],b::y,i,_,_,e,q=>by subst e;exact Um q
 |a::x,[],i,_,_,e,q=>by subst e;exact Um q
 |a::x,b::y,i,ha,hb,e,q=>by
  obtain⟨n,t,rfl⟩:=ha a (.head _);obtain⟨m,u,rfl⟩:=hb b (.head _);rw[g_,g_,ltL]at q;refine PySem.W.kat_cons (Vp ?_);by_cases z:n=m
  ·have q:Q (ltL (x.map fS) (y.map fS)) s:=by rw[if_pos (show fS (.int n t)=fS (.int m u)from z)]at q;exact q
   rw[show(n == m)=true by simpa using z];refine PySem.W.kat_yes (zi x y (i+1) (fun v hv=>ha v (.tail _ hv)) (fun v hv=>hb v (.tail _ hv)) ?_ q);rw[e,h_,h_];exact decide_eq_decide.mpr (by lia)
  have q:Q (decide (n<m)) s:=by rw[if_neg (show ¬fS (.int n t)=fS (.int m u)from z)]at q;exact q
  rw[show(n == m)=false by simpa using z];refine PySem.W.kat_no ?_;cases (true&&i == 0)
  ·exact PySem.W.kat_one _ _ (lt_int q)
  exact oneLt_int q
theorem wb{h0:Qz}{ks:List (List Int)}{S:Ql->Prop}(hS:∀x,S x->Fq h0 x.1/\jP h0 x.1∈ks)(hk:∀b o,h0.get? b=some o->(∃x n,o.cls=.type "tuple"/\o.data=.seq x n)->s.heap.get? b=some o) :
  cM (Qs prog w) A E s (Wa true) (fun x=>rnk ltL ks (jP h0 x.1)) S:=by
 intro x y st Q sx sy kd q;obtain⟨⟨a,oa,xs,na,ea,ga,ca,da,ia,_⟩,ma⟩:=hS x sx;obtain⟨⟨b,ob,ys,nb,eb,gb,cb,db,ib,_⟩,mb⟩:=hS y sy;rw[lt'_eq];refine Qp (Sy ?_);rw[kd,ea,eb];refine Qp (T' (Rw (PySem.W.kat_lt (hk _ _ ga ⟨_,_,ca,da⟩) da (hk _ _ gb ⟨_,_,cb,db⟩) db (zi _ _ 0 ia ib (by rw[gV,gV]) ⟨rfl,?_⟩))));refine Qw ?_;dsimp only at q;rw[zH Cf ma,ea,eb,sO ga da,sO gb db]at q;exact q
theorem wa{M:Se}{h0:Qz}{vs:List Qf}{Q:Rf->Qi->Prop}(hv:∀v∈vs,Fq h0 v)(hk:∀b o,h0.get? b=some o->(∃x n,o.cls=.type "tuple"/\o.data=.seq x n)->s.heap.get? b=some o)(hne:vs≠[])(q:Q (Wa true) s):Qn M A (Tv vs.toArray) Q E s:=by
 have mk:∀(l:List Qf),(∀v∈l,Fq h0 v)->∃fs,PySem.W.KatTups s.heap l fs/\AllInt fs/\fs.length=l.length:=by
  intro l;induction l with
  |nil=>exact fun _=>⟨[],Xv,fun v hv=>(nomatch hv),rfl⟩
  |cons v r ih=>
   intro hl;obtain⟨fs,k1,k2,k3⟩:=ih fun v hv=>hl v (.tail _ hv);obtain⟨a,o,xs,n,rfl,g,c,d,i,z⟩:=hl v (.head _);obtain⟨f,hf⟩:∃f,xs[0]?=some f:=⟨_,i_ z⟩;refine⟨f::fs,Xn (hk _ _ g ⟨_,_,c,d⟩) c d hf k1,fun v hv=>?_,by rw[h_,h_,k3]⟩;rcases n_.mp hv with e|e
   ·subst e;rw[<-f_]at hf;exact i _ (G_ hf)
   exact k2 v e
 obtain⟨fs,k1,k2,k3⟩:=mk vs hv;refine PySem.W.kat_kind (T:=.type "int") k1 ?_ (fun v hv=>?_) rfl q
 ·rw[k3];exact O1.mpr hne
 obtain⟨i,t,rfl⟩:=k2 v hv;exact .now
theorem je(vs:List Qf):(vs.toArray.zip vs.toArray).toList=vs.map fun v=>(v,v):=by
 rw[Array.toList_zip];induction vs with
 |nil=>rfl
 |cons v r ih=>exact congrArg ((v,v)::·) ih
theorem rZ{a:Qh}{vs:List Qf}{n:Nat}{kd:Rf}{rk:Ql->Nat}{S:Ql->Prop}{P:XC->Qi->Prop}(ho:s.heap.get? a=some (QH "list" vs.toArray n))(hz:vs.length<=sizeLine)(hS:∀v∈vs,S (v,v))
  (kind:∀h',(∀b o,b≠a->s.heap.get? b=some o->h'.get? b=some o)->∀{Q:Rf->Qi->Prop},vs≠[]->Q kd {s with heap:=h'}->Qn (Qs prog w) A (Tv vs.toArray) Q E {s with heap:=h'})
  (lt:∀h',(∀b o,b≠a->s.heap.get? b=some o->h'.get? b=some o)->cM (Qs prog w) A E {s with heap:=h'} kd rk S)
  (h:∀(o:List Qf) c h',o.Perm vs->o.Pairwise (fun x y=>rk (x,x)<=rk (y,y))->(∀b u,b≠a->s.heap.get? b=some u->h'.get? b=some u)->h'.get? a=some (QH "list" o.toArray c)->P (.done (.ret .none)) {s with heap:=h'}) :
  Qn (Qs prog w) A (Rt.«list.sort» ⟨[.ref a],[]⟩) P E s:=by
 rw[list_sort_plain];have ha:a<s.heap.objs.size:=Qr ho;refine Qe (WQ ho rfl ?_);refine Qe (TN ho rfl ?_ (by rw[r_];exact hz) (B_ _));obtain⟨e1,ho1⟩:∃e1,(s.heap.update a (QI fun _=>(#[]:Array Qf))).get? a=some (QH "list" #[] e1):=⟨_,Tj ho fun _=>#[]⟩;refine Qe (Ux ho1 rfl ?_);refine Qe (UA ?_ hz);refine Qe (R8 ?_ (B_ _));refine QK ?_;have k2:∀b u,(s.heap.update a (QI fun _=>(#[]:Array Qf))).get? b=some u->(((s.heap.update a (QI fun _=>(#[]:Array Qf))).push (QH "tuple" vs.toArray 0)).push (QH "list" #[] 0)).get? b=some u:=fun b u e=>Qk _ (Qk _ e);have k3:∀b u,b≠a->s.heap.get? b=some u->(((s.heap.update a (QI fun _=>(#[]:Array Qf))).push (QH "tuple" vs.toArray 0)).push (QH "list" #[] 0)).get? b=some u:=fun b u hb e=>k2 b u (by rw[RG _ _ _ _ hb];exact e)
 have ho6:=k2 _ _ ho1;show Qn (Qs prog w) A _ P E {s with heap:=((s.heap.update a (QI fun _=>(#[]:Array Qf))).push (QH "tuple" vs.toArray 0)).push (QH "list" #[] 0) };generalize ((s.heap.update a (QI fun _=>(#[]:Array Qf))).push (QH "tuple" vs.toArray 0)).push (QH "list" #[] 0)=h1 at k3 ho6 ⊢;dsimp only;have fin:∀st':Qq,(Qm st').Perm (vs.toArray.zip vs.toArray)->Srt rk (Qm st').toList->QZ st'=none->Qn (Qs prog w) A (do
   let touched:=(<-seqEpoch a) != e1
   Ue (.ref a) fun _=>(Qm st').map (·.2)
   if let some e:=QZ st' then rule "list.sort.comparison-raised";throw e
   if touched then rule "list.sort.modified";raiseError "ValueError" "list modified during sort"
   ret .none) P E {s with heap:=h1}:=fun st' hp hs hf=>by
  have lp:(Qm st').toList.Perm (vs.map fun v=>(v,v)):=by have:=L_.mp hp;rw[je]at this;exact this
  have op:((Qm st').toList.map (·.2)).Perm vs:=by have:=lp.map (·.2);rw[B',show((fun x:Ql=>x.2) ∘ fun v:Qf=>(v,v))=id from rfl,N_]at this;exact this
  have tw:∀p∈(Qm st').toList,p=(p.2,p.2):=fun p hp=>by obtain⟨v,_,e⟩:=t_.mp (lp.mem_iff.mp hp);rw[<-e]
  have osr:((Qm st').toList.map (·.2)).Pairwise (fun x y=>rk (x,x)<=rk (y,y)):=by rw[Lw];refine Mh (fun{p q} hp hq hr=>?_) hs;rw[<-tw p hp,<-tw q hq];exact hr
  have os:((Qm st').map (·.2)).size<=sizeLine+1:=by rw[<-gV,NO,op.length_eq];lia
  refine Qe (Ux ho6 rfl ?_);refine Qe (TN ho6 rfl ?_ (B_ _) os);rw[hf];simp only[bne_self_eq_false,Kk,if_false];obtain⟨c,hc⟩:∃c,(h1.update a (QI fun _=>(Qm st').map (·.2))).get? a=some (QH "list" ((Qm st').toList.map (·.2)).toArray c):=by have:=Tj ho6 fun _=>(Qm st').map (·.2);rw[show((Qm st').toList.map (·.2)).toArray=(Qm st').map (·.2) by rw[<-NO]];exact⟨_,this⟩
  refine Qj (h _ c _ op osr (fun b u hb e=>?_) hc);rw[RG _ _ _ _ hb];exact k3 b u hb e
 by_cases h2:vs.toArray.size<2
 ·rw[if_pos h2,if_pos h2];refine Qe (Qj ?_);rw[VT];refine Qe (Qj ?_);refine fin (Ry general' (vs.toArray.zip vs.toArray) #[] 7 none) (OI _) ?_ rfl;show Srt rk (vs.toArray.zip vs.toArray).toList;rw[je];have h3:vs.length<2:=h2;clear fin h lt kind hS ho
  match vs,h3 with
  | [],_=>exact .nil
  | [v],_=>exact NF _ _
  | _::_::_,h3=>exact absurd h3 (by rw[h_,h_];lia)
 rw[if_neg h2,if_neg h2];refine Qe (kind h1 k3 (fun z=>by rw[z]at h2;simp at h2) ?_);refine Qe (QM (oD (st:=Ry kd (vs.toArray.zip vs.toArray) #[] 7 none) (Q:=fun _ st'=>(Qm st').Perm (vs.toArray.zip vs.toArray)/\QZ st'=none/\Srt rk (Qm st').toList) (lt h1 k3) (fun p hp=>?_) (fun x=>RV rfl) rfl rfl rfl fun st' a1 a2 a3=>⟨a1,a2,a3⟩) ?_ fun _ _ e=>e)
 ·rw[show(Qm (Ry kd (vs.toArray.zip vs.toArray) #[] 7 none))=vs.toArray.zip vs.toArray from rfl,je]at hp;obtain⟨v,hv,e⟩:=t_.mp hp;rw[<-e];exact hS v hv
 rintro⟨⟨⟩,st'⟩ s' ⟨rfl,hp,hf,hs⟩;exact fin st' hp hs hf
theorem xu{l:Qh}{vs:List Qf}{kd:Rf}{rk:Ql->Nat}{S:Ql->Prop}{Q:Qf->Qi->Prop}(hl:s.heap.IsList l vs.toArray)(hz:vs.length<=sizeLine)(hS:∀v∈vs,S (v,v))
  (kind:∀h',(∀b o,s.heap.get? b=some o->h'.get? b=some o)->∀{Q:Rf->Qi->Prop}{E:Qf->Qi->Prop},vs≠[]->Q kd {s with heap:=h'}->Qn (Qs prog w) A.in1.in1 (Tv vs.toArray) Q E {s with heap:=h'})
  (lt:∀h' E,(∀b o,s.heap.get? b=some o->h'.get? b=some o)->cM (Qs prog w) A.in1.in1 E {s with heap:=h'} kd rk S)
  (h:∀(o:List Qf) a c h',o.Perm vs->o.Pairwise (fun x y=>rk (x,x)<=rk (y,y))->s.heap.objs.size<=a->(∀b u,s.heap.get? b=some u->h'.get? b=some u)->h'.get? a=some (QH "list" o.toArray c)->Q (.ref a) {s with heap:=h'}) :
  Qn (Qs prog w) A (call (.builtin "sorted") [.ref l]) Q E s:=by
 refine SD Vn U' Va (WR _) ?_;unfold Rt.«sorted»;refine Qe (m:=VU "sorted" 1 1 _) (Qj ?_);refine Qe (WS hl ?_ hz);refine Qe (R8 ?_ hz);have hsz:((s.heap.push (QH "list" #[] 0)).update s.heap.objs.size (QI (·++vs.toArray))).objs.size=s.heap.objs.size+1:=by rw[VA,size_push']
 have hoL:(((s.heap.push (QH "list" #[] 0)).update s.heap.objs.size (QI (·++vs.toArray))).push (QH "list" vs.toArray 0)).get? (s.heap.objs.size+1)=some (QH "list" vs.toArray 0):=by rw[<-hsz];exact Qo _ rfl
 have keep:∀b o,s.heap.get? b=some o->(((s.heap.push (QH "list" #[] 0)).update s.heap.objs.size (QI (·++vs.toArray))).push (QH "list" vs.toArray 0)).get? b=some o:=fun b o q=>by have hlt:b<s.heap.objs.size:=Qr q;rw[SU _ _ _ (by rw[hsz];exact x_ (My hlt)),RG _ _ _ _ (x_ hlt),SU _ _ _ (x_ hlt)];exact q
 show Qn _ _ _ _ _ {s with heap:=((s.heap.push (QH "list" #[] 0)).update s.heap.objs.size (QI (·++vs.toArray))).push (QH "list" vs.toArray 0) };rw[hsz];generalize ((s.heap.push (QH "list" #[] 0)).update s.heap.objs.size (QI (·++vs.toArray))).push (QH "list" vs.toArray 0)=h1 at hoL keep ⊢;have ne:∀b o,s.heap.get? b=some o->b≠s.heap.objs.size+1:=fun b o e=>x_ (My (Qr e));refine Qe (QK (QY UD ⟨_,hoL,rfl⟩ Uo ?body (Wb _)))
 case body=>
  refine rZ (s:={s with heap:=h1}) (kd:=kd) (rk:=rk) (S:=S) hoL hz hS (fun h' k {Q} hne q=>kind h' (fun b o e=>k b o (ne b o e) (keep b o e)) hne q) (fun h' k=>lt h' _ fun b o e=>k b o (ne b o e) (keep b o e)) fun o c h' g1 g2 g3 g4=>?_;exact⟨_,rfl,Qj ⟨_,rfl,h o _ c h' g1 g2 (M0 _) (fun b u e=>g3 b u (ne b u e) (keep b u e)) g4⟩⟩
end
end ZS
namespace PL
open PySem L2
inductive T where
 |any|hole (w:V)|bare|kp (G:Hp)
 |non|bl (b:Bool)|int (i:Int)|str (x:Str)|ty (n:String)
 |tup (ts:List T)|cst (ts:List T)
 |lst (o:Bool) (ts:List T)
 |dK (o:Bool) (kvs:List (Key×T))
 |dT (o:Bool) (kvs:List (List Key×T))
mutual
def er:T->T
 | .tup ts=>.tup (erL ts)
 | .cst ts=>.cst (erL ts)
 | .lst _ ts=>.lst false (erL ts)
 | .dK _ kvs=>.dK false (erK kvs)
 | .dT _ kvs=>.dT false (erT kvs)
 | .bare=>.any
 |t=>t
def erL:List T->List T
 | []=>[]
 |t::r=>er t::erL r
def erK:List (Key×T)->List (Key×T)
 | []=>[]
 | (k,t)::r=>(k,er t)::erK r
def erT:List (List Key×T)->List (List Key×T)
 | []=>[]
 | (k,t)::r=>(k,er t)::erT r
end
mutual
def aP:T->Bool
 | .tup ts=>bD ts
 | .cst ts=>bD ts
 | .lst o ts=>!o&&bD ts
 | .dK o kvs=>!o&&tW kvs
 | .dT o kvs=>!o&&nr kvs
 | .bare=>false
 | _=>true
def bD:List T->Bool
 | []=>true
 |t::r=>aP t&&bD r
def tW:List (Key×T)->Bool
 | []=>true
 | (_,t)::r=>aP t&&tW r
def nr:List (List Key×T)->Bool
 | []=>true
 | (_,t)::r=>aP t&&nr r
end
mutual
def bO:T->Bool
 | .tup ts=>cp ts
 | .cst ts=>cp ts
 | .lst o ts=>o&&cp ts
 | .dK o kvs=>o&&qD kvs
 | .dT o kvs=>o&&oF kvs
 | .kp _=>false
 | _=>true
def cp:List T->Bool
 | []=>true
 |t::r=>bO t&&cp r
def qD:List (Key×T)->Bool
 | []=>true
 | (_,t)::r=>bO t&&qD r
def oF:List (List Key×T)->Bool
 | []=>true
 | (_,t)::r=>bO t&&oF r
end
theorem cg{α:Type}(g:α->T):∀l:List α,erL (l.map g)=l.map fun x=>er (g x)
 | []=>rfl
 |x::r=>by rw[g_,erL,cg g r,g_]
theorem qR:∀l:List T,erL l=l.map er
 | []=>rfl
 |x::r=>by rw[erL,qR r,g_]
theorem t6(l:List T):(erL l).length=l.length:=by rw[qR,a_]
theorem fT(l m:List T):erL (l++m)=erL l++erL m:=by rw[qR,qR,qR,q_]
theorem qj:∀l:List T,bD l=l.all aP
 | []=>rfl
 |x::r=>by rw[bD,qj r,Og]
theorem rY:∀l:List T,cp l=l.all bO
 | []=>rfl
 |x::r=>by rw[cp,rY r,Og]
mutual
theorem bj:∀t:T,aP (er t)=true
 | .tup ts=>by rw[er,aP,jF ts]
 | .cst ts=>by rw[er,aP,jF ts]
 | .lst _ ts=>by rw[er,aP,jF ts];rfl
 | .dK _ ts=>by rw[er,aP,rn ts];rfl
 | .dT _ ts=>by rw[er,aP,sA ts];rfl
 | .bare=>rfl
 | .any=>rfl
 | .hole _=>rfl
 | .kp _=>rfl
 | .non=>rfl
 | .bl _=>rfl
 | .int _=>rfl
 | .str _=>rfl
 | .ty _=>rfl
theorem jF:∀t:List T,bD (erL t)=true
 | []=>rfl
 |t::r=>by rw[erL,bD,bj t,jF r];rfl
theorem rn:∀t:List (Key×T),tW (erK t)=true
 | []=>rfl
 | (_,t)::r=>by rw[erK,tW,bj t,rn r];rfl
theorem sA:∀t:List (List Key×T),nr (erT t)=true
 | []=>rfl
 | (_,t)::r=>by rw[erT,nr,bj t,sA r];rfl
end
noncomputable def Gr(G H:Hp):Prop:=∀b u,Rd G b u->Rd H b u
theorem Gr.ck {H:Hp}:Gr H H:=fun _ _ h=>h
theorem Gr.trans {G H J:Hp}(a:Gr G H)(b:Gr H J):Gr G J:=fun c u h=>b c u (a c u h)
theorem Gr.of {G H:Hp}(h:bI G H):Gr G H:=fun b u r=>by
 rcases r with r|⟨o,r⟩
 ·exact .inl (h _ _ r)
 exact .inr ⟨o,h _ _ r⟩
theorem Rd.some {H:Hp}{a:Qh}{u:HO}(h:Rd H a u):∃w,H a=some w:=by
 rcases h with h|⟨o,h⟩
 ·exact⟨_,h⟩
 exact⟨_,h⟩
theorem Gr.none {G H:Hp}(h:Gr G H){a:Qh}(e:H a=none):G a=none:=by
 cases q:G a with
 |none=>rfl
 |some u=>
  obtain⟨w,z⟩:=Rd.some (h a u (.inl q));rw[e]at z;cases z
noncomputable def TK(H H':Hp):Prop:=∀b xs,H b=some (.tup xs)->H' b=some (.tup xs)
theorem bI.tk {G H:Hp}(h:bI G H):TK G H:=fun b xs r=>h _ _ r
theorem Put.tk {H H':Hp}{a:Qh}{o:HO}(p:Put H a o H')(ht:∀xs,H a≠some (.tup xs)):TK H H':=fun b xs r=>by have hb:b≠a:=fun z=>ht xs (z▸r);rw[p.else_ b hb];exact r
section
variable(K:Qg)(Hz H:Hp)
mutual
inductive RepT:T->V->List Qh->Prop
 |any {v:V}:RepT .any v []
 |hole {w:V}:RepT (.hole w) w []
 |bare {a:Qh}{u:HO} (h:H a=some u) (ht:∀xs,H a≠some (.tup xs)):RepT .bare (.ref a) [a]
 |kp {G:Hp}{v:V} (h:Gr G Hz):RepT (.kp G) v []
 |non:RepT .non .non []
 |bl {b:Bool}:RepT (.bl b) (.bl b) []
 |int {i:Int}:RepT (.int i) (.int i) []
 |str {x:Str}:RepT (.str x) (.str x) []
 |ty {n:String}:RepT (.ty n) (.ty n) []
 |tup {a:Qh}{ts:List T}{vs:List V}{L:List Qh} (h:H a=some (.tup vs)) (c:RepTs ts vs L):RepT (.tup ts) (.ref a) L
 |cst {a:Qh}{ts:List T}{vs:List V} (h:SqT K (fun _=>none) a vs) (c:RepTs ts vs []):RepT (.cst ts) (.ref a) []
 |lstO {a:Qh}{ts:List T}{vs:List V}{L:List Qh} (h:H a=some (.lst vs)) (c:RepTs ts vs L):RepT (.lst true ts) (.ref a) (a::L)
 |lstZ {a:Qh}{ts:List T}{vs:List V} (h:Rd Hz a (.lst vs)) (c:RepTs ts vs []):RepT (.lst false ts) (.ref a) []
 |dKO {a:Qh}{ts:List (Key×T)}{vs:List (Key×V)}{L:List Qh} (h:H a=some (.dK vs)) (c:RepKs ts vs L):RepT (.dK true ts) (.ref a) (a::L)
 |dKZ {a:Qh}{ts:List (Key×T)}{vs:List (Key×V)} (h:Rd Hz a (.dK vs)) (c:RepKs ts vs []):RepT (.dK false ts) (.ref a) []
 |dTO {a:Qh}{ts:List (List Key×T)}{vs:List (List Key×V)}{L:List Qh} (h:H a=some (.dT vs)) (c:RepXs ts vs L):RepT (.dT true ts) (.ref a) (a::L)
 |dTZ {a:Qh}{ts:List (List Key×T)}{vs:List (List Key×V)} (h:Rd Hz a (.dT vs)) (c:RepXs ts vs []):RepT (.dT false ts) (.ref a) []
inductive RepTs:List T->List V->List Qh->Prop
 |nil:RepTs [] [] []
 |cons {t:T}{v:V}{L M N:List Qh}{ts:List T}{vs:List V} (e:N=L++M) (h:RepT t v L) (c:RepTs ts vs M):RepTs (t::ts) (v::vs) N
inductive RepKs:List (Key×T)->List (Key×V)->List Qh->Prop
 |nil:RepKs [] [] []
 |cons {k:Key}{t:T}{v:V}{L M N:List Qh}{ts:List (Key×T)}{vs:List (Key×V)} (e:N=L++M) (h:RepT t v L) (c:RepKs ts vs M):RepKs ((k,t)::ts) ((k,v)::vs) N
inductive RepXs:List (List Key×T)->List (List Key×V)->List Qh->Prop
 |nil:RepXs [] [] []
 |cons {k:List Key}{t:T}{v:V}{L M N:List Qh}{ts:List (List Key×T)}{vs:List (List Key×V)} (e:N=L++M) (h:RepT t v L) (c:RepXs ts vs M):RepXs ((k,t)::ts) ((k,v)::vs) N
end
end
section
variable{K:Qg}
theorem jz{Hz H:Hp}{P:T->V->List Qh->Prop}{Ps:List T->List V->List Qh->Prop}{Pk:List (Key×T)->List (Key×V)->List Qh->Prop}{Px:List (List Key×T)->List (List Key×V)->List Qh->Prop}
  (c1:∀{v},P .any v []) (c2:∀{w},P (.hole w) w []) (c3:∀{a u},H a=some u->(∀xs,H a≠some (.tup xs))->P .bare (.ref a) [a]) (c4:∀{G v},Gr G Hz->P (.kp G) v [])
  (c5:P .non .non []) (c6:∀{b},P (.bl b) (.bl b) []) (c7:∀{i},P (.int i) (.int i) []) (c8:∀{x},P (.str x) (.str x) []) (c9:∀{n},P (.ty n) (.ty n) [])
  (c10:∀{a ts vs L},H a=some (.tup vs)->Ps ts vs L->P (.tup ts) (.ref a) L) (c11:∀{a ts vs},SqT K (fun _=>none) a vs->Ps ts vs []->P (.cst ts) (.ref a) [])
  (c12:∀{a ts vs L},H a=some (.lst vs)->Ps ts vs L->P (.lst true ts) (.ref a) (a::L)) (c13:∀{a ts vs},Rd Hz a (.lst vs)->Ps ts vs []->P (.lst false ts) (.ref a) [])
  (c14:∀{a ts vs L},H a=some (.dK vs)->Pk ts vs L->P (.dK true ts) (.ref a) (a::L)) (c15:∀{a ts vs},Rd Hz a (.dK vs)->Pk ts vs []->P (.dK false ts) (.ref a) [])
  (c16:∀{a ts vs L},H a=some (.dT vs)->Px ts vs L->P (.dT true ts) (.ref a) (a::L)) (c17:∀{a ts vs},Rd Hz a (.dT vs)->Px ts vs []->P (.dT false ts) (.ref a) [])
  (s0:Ps [] [] []) (s1:∀{t v L M ts vs},P t v L->Ps ts vs M->Ps (t::ts) (v::vs) (L++M))
  (k0:Pk [] [] []) (k1:∀{k t v L M ts vs},P t v L->Pk ts vs M->Pk ((k,t)::ts) ((k,v)::vs) (L++M))
  (x0:Px [] [] []) (x1:∀{k t v L M ts vs},P t v L->Px ts vs M->Px ((k,t)::ts) ((k,v)::vs) (L++M)) :
  (∀{t v L},RepT K Hz H t v L->P t v L)/\(∀{t v L},RepTs K Hz H t v L->Ps t v L)/\(∀{t v L},RepKs K Hz H t v L->Pk t v L)/\(∀{t v L},RepXs K Hz H t v L->Px t v L):=by
 have m1:∀{t v L},RepT K Hz H t v L->P t v L:=fun h=>RepT.rec (motive_1:=fun t v L _=>P t v L) (motive_2:=fun t v L _=>Ps t v L) (motive_3:=fun t v L _=>Pk t v L) (motive_4:=fun t v L _=>Px t v L)
  c1 c2 c3 c4 c5 c6 c7 c8 c9 (fun h _ i=>c10 h i) (fun h _ i=>c11 h i) (fun h _ i=>c12 h i) (fun h _ i=>c13 h i) (fun h _ i=>c14 h i) (fun h _ i=>c15 h i) (fun h _ i=>c16 h i) (fun h _ i=>c17 h i)
  s0 (fun e _ _ i j=>e▸s1 i j) k0 (fun e _ _ i j=>e▸k1 i j) x0 (fun e _ _ i j=>e▸x1 i j) h
 refine⟨m1,fun h=>?_,fun h=>?_,fun h=>?_⟩
 ·exact RepTs.rec (motive_1:=fun t v L _=>True) (motive_2:=fun t v L _=>Ps t v L) (motive_3:=fun t v L _=>True) (motive_4:=fun t v L _=>True)
   trivial trivial (fun _ _=>trivial) (fun _=>trivial) trivial trivial trivial trivial trivial (fun _ _ _=>trivial) (fun _ _ _=>trivial) (fun _ _ _=>trivial) (fun _ _ _=>trivial) (fun _ _ _=>trivial) (fun _ _ _=>trivial) (fun _ _ _=>trivial) (fun _ _ _=>trivial)
   s0 (fun e h _ _ j=>e▸s1 (m1 h) j) trivial (fun _ _ _ _ _=>trivial) trivial (fun _ _ _ _ _=>trivial) h
 ·exact RepKs.rec (motive_1:=fun t v L _=>True) (motive_2:=fun t v L _=>True) (motive_3:=fun t v L _=>Pk t v L) (motive_4:=fun t v L _=>True)
   trivial trivial (fun _ _=>trivial) (fun _=>trivial) trivial trivial trivial trivial trivial (fun _ _ _=>trivial) (fun _ _ _=>trivial) (fun _ _ _=>trivial) (fun _ _ _=>trivial) (fun _ _ _=>trivial) (fun _ _ _=>trivial) (fun _ _ _=>trivial) (fun _ _ _=>trivial)
   trivial (fun _ _ _ _ _=>trivial) k0 (fun e h _ _ j=>e▸k1 (m1 h) j) trivial (fun _ _ _ _ _=>trivial) h
 exact RepXs.rec (motive_1:=fun t v L _=>True) (motive_2:=fun t v L _=>True) (motive_3:=fun t v L _=>True) (motive_4:=fun t v L _=>Px t v L)
  trivial trivial (fun _ _=>trivial) (fun _=>trivial) trivial trivial trivial trivial trivial (fun _ _ _=>trivial) (fun _ _ _=>trivial) (fun _ _ _=>trivial) (fun _ _ _=>trivial) (fun _ _ _=>trivial) (fun _ _ _=>trivial) (fun _ _ _=>trivial) (fun _ _ _=>trivial)
  trivial (fun _ _ _ _ _=>trivial) trivial (fun _ _ _ _ _=>trivial) x0 (fun e h _ _ j=>e▸x1 (m1 h) j) h
noncomputable def Kps(H H':Hp)(L:List Qh):Prop:=∀a∈L,∀u,H a=some u->H' a=some u/\((∀xs,H a≠some (.tup xs))->∀xs,H' a≠some (.tup xs))
theorem Kps.hd {H H':Hp}{a:Qh}{L:List Qh}(h:Kps H H' (a::L)){u:HO}(e:H a=some u):H' a=some u/\((∀xs,H a≠some (.tup xs))->∀xs,H' a≠some (.tup xs)):=h _ p_ _ e
theorem Kps.tl {H H':Hp}{a:Qh}{L:List Qh}(h:Kps H H' (a::L)):Kps H H' L:=fun a m=>h a (l_ _ m)
theorem Kps.l {H H':Hp}{L M:List Qh}(h:Kps H H' (L++M)):Kps H H' L:=fun a m=>h a (w_ _ m)
theorem Kps.r {H H':Hp}{L M:List Qh}(h:Kps H H' (L++M)):Kps H H' M:=fun a m=>h a (o_ _ m)
theorem CU{Hz H Hz' H':Hp}(ht:TK H H')(hz:Gr Hz Hz'):(∀{t v L},RepT K Hz H t v L->Kps H H' L->RepT K Hz' H' t v L)/\(∀{t v L},RepTs K Hz H t v L->Kps H H' L->RepTs K Hz' H' t v L)/\(∀{t v L},RepKs K Hz H t v L->Kps H H' L->RepKs K Hz' H' t v L)/\(∀{t v L},RepXs K Hz H t v L->Kps H H' L->RepXs K Hz' H' t v L):=
 jz (P:=fun t v L=>Kps H H' L->RepT K Hz' H' t v L) (Ps:=fun t v L=>Kps H H' L->RepTs K Hz' H' t v L) (Pk:=fun t v L=>Kps H H' L->RepKs K Hz' H' t v L) (Px:=fun t v L=>Kps H H' L->RepXs K Hz' H' t v L)
  (fun _=>.any) (fun _=>.hole) (fun h t o=>.bare (o.hd h).1 ((o.hd h).2 t)) (fun h _=>.kp (h.trans hz)) (fun _=>.non) (fun _=>.bl) (fun _=>.int) (fun _=>.str) (fun _=>.ty)
  (fun h c o=>.tup (ht _ _ h) (c o)) (fun h c o=>.cst h (c o)) (fun h c o=>.lstO (o.hd h).1 (c o.tl)) (fun h c o=>.lstZ (hz _ _ h) (c o)) (fun h c o=>.dKO (o.hd h).1 (c o.tl)) (fun h c o=>.dKZ (hz _ _ h) (c o)) (fun h c o=>.dTO (o.hd h).1 (c o.tl)) (fun h c o=>.dTZ (hz _ _ h) (c o))
  (fun _=>.nil) (fun i j o=>.cons rfl (i o.l) (j o.r)) (fun _=>.nil) (fun i j o=>.cons rfl (i o.l) (j o.r)) (fun _=>.nil) (fun i j o=>.cons rfl (i o.l) (j o.r))
theorem RepT.move {Hz H Hz' H':Hp}(ht:TK H H')(hz:Gr Hz Hz'){t:T}{v:V}{L:List Qh}(o:Kps H H' L)(h:RepT K Hz H t v L):RepT K Hz' H' t v L:=(CU ht hz).1 h o
noncomputable def Thr(H:Hp)(L:List Qh):Prop:=∀a∈L,(∃u,H a=some u)/\∀xs,H a≠some (.tup xs)
theorem Thr.nil {H:Hp}:Thr H []:=fun a m=>nomatch m
theorem Thr.cons {H:Hp}{a:Qh}{u:HO}{L:List Qh}(h:H a=some u)(t:∀xs,H a≠some (.tup xs))(c:Thr H L):Thr H (a::L):=fun b m=>by
 rcases n_.mp m with rfl|m
 ·exact⟨⟨_,h⟩,t⟩
 exact c b m
theorem Thr.app {H:Hp}{L M:List Qh}(c:Thr H L)(d:Thr H M):Thr H (L++M):=fun b m=>(v_.mp m).elim (c b) (d b)
theorem Ax{Hz H:Hp}:(∀{t v L},RepT K Hz H t v L->Thr H L)/\(∀{t v L},RepTs K Hz H t v L->Thr H L)/\(∀{t v L},RepKs K Hz H t v L->Thr H L)/\(∀{t v L},RepXs K Hz H t v L->Thr H L):=
 jz (P:=fun t v L=>Thr H L) (Ps:=fun t v L=>Thr H L) (Pk:=fun t v L=>Thr H L) (Px:=fun t v L=>Thr H L)
  .nil .nil (fun h t=>.cons h t .nil) (fun _=>.nil) .nil .nil .nil .nil .nil (fun _ c=>c) (fun _ c=>c) (fun h c=>.cons h (fun xs r=>by rw[h]at r;cases r) c) (fun _ c=>c) (fun h c=>.cons h (fun xs r=>by rw[h]at r;cases r) c) (fun _ c=>c) (fun h c=>.cons h (fun xs r=>by rw[h]at r;cases r) c) (fun _ c=>c)
  .nil (fun c d=>c.app d) .nil (fun c d=>c.app d) .nil (fun c d=>c.app d)
theorem RepT.there {Hz H:Hp}{t:T}{v:V}{L:List Qh}(h:RepT K Hz H t v L):Thr H L:=Ax.1 h
noncomputable def Fzn(H Z:Hp)(L:List Qh):Prop:=∀a∈L,Z a=H a
theorem Fzn.hd {H Z:Hp}{a:Qh}{L:List Qh}(h:Fzn H Z (a::L)){u:HO}(e:H a=some u):Rd Z a u:=.inl (by rw[h _ p_];exact e)
theorem Fzn.tl {H Z:Hp}{a:Qh}{L:List Qh}(h:Fzn H Z (a::L)):Fzn H Z L:=fun a m=>h a (l_ _ m)
theorem Fzn.l {H Z:Hp}{L M:List Qh}(h:Fzn H Z (L++M)):Fzn H Z L:=fun a m=>h a (w_ _ m)
theorem Fzn.r {H Z:Hp}{L M:List Qh}(h:Fzn H Z (L++M)):Fzn H Z M:=fun a m=>h a (o_ _ m)
theorem E2{Hz H Z:Hp}(hz:Gr Hz Z):(∀{t v L},RepT K Hz H t v L->Fzn H Z L->RepT K Z H (er t) v [])/\(∀{t v L},RepTs K Hz H t v L->Fzn H Z L->RepTs K Z H (erL t) v [])/\(∀{t v L},RepKs K Hz H t v L->Fzn H Z L->RepKs K Z H (erK t) v [])/\(∀{t v L},RepXs K Hz H t v L->Fzn H Z L->RepXs K Z H (erT t) v []):=
 jz (P:=fun t v L=>Fzn H Z L->RepT K Z H (er t) v []) (Ps:=fun t v L=>Fzn H Z L->RepTs K Z H (erL t) v []) (Pk:=fun t v L=>Fzn H Z L->RepKs K Z H (erK t) v []) (Px:=fun t v L=>Fzn H Z L->RepXs K Z H (erT t) v [])
  (fun _=>.any) (fun _=>.hole) (fun _ _ _=>.any) (fun h _=>.kp (h.trans hz)) (fun _=>.non) (fun _=>.bl) (fun _=>.int) (fun _=>.str) (fun _=>.ty)
  (fun h c o=>.tup h (c o)) (fun h c o=>.cst h (c o)) (fun h c o=>.lstZ (o.hd h) (c o.tl)) (fun h c o=>.lstZ (hz _ _ h) (c o)) (fun h c o=>.dKZ (o.hd h) (c o.tl)) (fun h c o=>.dKZ (hz _ _ h) (c o)) (fun h c o=>.dTZ (o.hd h) (c o.tl)) (fun h c o=>.dTZ (hz _ _ h) (c o))
  (fun _=>.nil) (fun i j o=>.cons rfl (i o.l) (j o.r)) (fun _=>.nil) (fun i j o=>.cons rfl (i o.l) (j o.r)) (fun _=>.nil) (fun i j o=>.cons rfl (i o.l) (j o.r))
theorem RepT.frz {Hz H Z:Hp}(hz:Gr Hz Z){t:T}{v:V}{L:List Qh}(o:Fzn H Z L)(h:RepT K Hz H t v L):RepT K Z H (er t) v []:=(E2 hz).1 h o
theorem EY{Hz H:Hp}:(∀{t v L},RepT K Hz H t v L->aP t=true->L=[])/\(∀{t v L},RepTs K Hz H t v L->bD t=true->L=[])/\(∀{t v L},RepKs K Hz H t v L->True)/\(∀{t v L},RepXs K Hz H t v L->True):=
 jz (P:=fun t v L=>aP t=true->L=[]) (Ps:=fun t v L=>bD t=true->L=[]) (Pk:=fun t v L=>True) (Px:=fun t v L=>True)
  (fun _=>rfl) (fun _=>rfl) (fun _ _ n=>nomatch n) (fun _ _=>rfl) (fun _=>rfl) (fun _=>rfl) (fun _=>rfl) (fun _=>rfl) (fun _=>rfl)
  (fun _ c n=>c (by rw[aP]at n;exact n)) (fun _ _ _=>rfl) (fun _ _ n=>nomatch n) (fun _ _ _=>rfl) (fun _ _ n=>nomatch n) (fun _ _ _=>rfl) (fun _ _ n=>nomatch n) (fun _ _ _=>rfl)
  (fun _=>rfl) (fun i j n=>by
   rw[bD,Lz]at n;rw[i n.1,j n.2]
   rfl) trivial (fun _ _=>trivial) trivial (fun _ _=>trivial)
theorem RepT.nil_of {Hz H:Hp}{t:T}{v:V}{L:List Qh}(n:aP t=true)(h:RepT K Hz H t v L):L=[]:=EY.1 h n
theorem Bt{Hz H Z H':Hp}(ht:TK H H'):(∀{t v L},RepT K Hz H t v L->bO t=true->Kps H H' L->RepT K Z H' t v L)/\(∀{t v L},RepTs K Hz H t v L->cp t=true->Kps H H' L->RepTs K Z H' t v L)/\(∀{t v L},RepKs K Hz H t v L->qD t=true->Kps H H' L->RepKs K Z H' t v L)/\(∀{t v L},RepXs K Hz H t v L->oF t=true->Kps H H' L->RepXs K Z H' t v L):=
 jz (P:=fun t v L=>bO t=true->Kps H H' L->RepT K Z H' t v L) (Ps:=fun t v L=>cp t=true->Kps H H' L->RepTs K Z H' t v L) (Pk:=fun t v L=>qD t=true->Kps H H' L->RepKs K Z H' t v L) (Px:=fun t v L=>oF t=true->Kps H H' L->RepXs K Z H' t v L)
  (fun _ _=>.any) (fun _ _=>.hole) (fun h t _ o=>.bare (o.hd h).1 ((o.hd h).2 t)) (fun _ n=>nomatch n) (fun _ _=>.non) (fun _ _=>.bl) (fun _ _=>.int) (fun _ _=>.str) (fun _ _=>.ty)
  (fun h c n o=>.tup (ht _ _ h) (c (by rw[bO]at n;exact n) o)) (fun h c n o=>.cst h (c (by rw[bO]at n;exact n) o)) (fun h c n o=>.lstO (o.hd h).1 (c (by rw[bO,Mt]at n;exact n) o.tl)) (fun _ _ n=>nomatch n) (fun h c n o=>.dKO (o.hd h).1 (c (by rw[bO,Mt]at n;exact n) o.tl)) (fun _ _ n=>nomatch n) (fun h c n o=>.dTO (o.hd h).1 (c (by rw[bO,Mt]at n;exact n) o.tl)) (fun _ _ n=>nomatch n)
  (fun _ _=>.nil) (fun i j n o=>.cons rfl (i (by rw[cp,Lz]at n;exact n.1) o.l) (j (by rw[cp,Lz]at n;exact n.2) o.r)) (fun _ _=>.nil) (fun i j n o=>.cons rfl (i (by rw[qD,Lz]at n;exact n.1) o.l) (j (by rw[qD,Lz]at n;exact n.2) o.r)) (fun _ _=>.nil) (fun i j n o=>.cons rfl (i (by rw[oF,Lz]at n;exact n.1) o.l) (j (by rw[oF,Lz]at n;exact n.2) o.r))
theorem RepT.Lo {Hz H Z H':Hp}(ht:TK H H'){t:T}{v:V}{L:List Qh}(n:bO t=true)(o:Kps H H' L)(h:RepT K Hz H t v L):RepT K Z H' t v L:=(Bt ht).1 h n o
abbrev Ev:=List T
abbrev Fm:=List (T×Option V)
noncomputable def rh(K:Qg)(Hz H:Hp)(t:T)(x:Option V)(L:List Qh):Prop:=(t=.any/\L=[])\/∃v,x=some v/\RepT K Hz H t v L
inductive RepL (K:Qg) (Hz H:Hp):Fm->List Qh->Prop
 |nil:RepL K Hz H [] []
 |cons {t:T}{x:Option V}{L M N:List Qh}{r:Fm} (e:N=L++M) (h:rh K Hz H t x L) (c:RepL K Hz H r M):RepL K Hz H ((t,x)::r) N
noncomputable def Rp(K:Qg)(H:Hp)(Γ:Fm):Prop:=∃Hz L,RepL K Hz H Γ L/\L.Nodup/\Gr Hz H/\∀b∈L,Hz b=none
theorem rh.move {Hz H Hz' H':Hp}(ht:TK H H')(hz:Gr Hz Hz'){t:T}{x:Option V}{L:List Qh}(ho:∀a∈L,∀u,H a=some u->H' a=some u/\((∀xs,H a≠some (.tup xs))->∀xs,H' a≠some (.tup xs)))(h:rh K Hz H t x L):rh K Hz' H' t x L:=by
 rcases h with⟨rfl,rfl⟩|⟨v,rfl,h⟩
 ·exact .inl ⟨rfl,rfl⟩
 exact .inr ⟨v,rfl,h.move ht hz ho⟩
theorem rh.there {Hz H:Hp}{t:T}{x:Option V}{L:List Qh}(h:rh K Hz H t x L):∀a∈L,(∃u,H a=some u)/\∀xs,H a≠some (.tup xs):=by
 rcases h with⟨rfl,rfl⟩|⟨v,rfl,h⟩
 ·intro a m;cases m
 exact h.there
theorem RepL.move {Hz H Hz' H':Hp}(ht:TK H H')(hz:Gr Hz Hz'):∀{Γ:Fm}{L:List Qh},(∀a∈L,∀u,H a=some u->H' a=some u/\((∀xs,H a≠some (.tup xs))->∀xs,H' a≠some (.tup xs)))->RepL K Hz H Γ L->RepL K Hz' H' Γ L
 | _,_,_,.nil=>.nil
 | _,_,ho,.cons e h c=>.cons e (h.move ht hz fun a m=>ho a (by rw[e];exact w_ _ m)) (c.move ht hz fun a m=>ho a (by rw[e];exact o_ _ m))
theorem RepL.there {Hz H:Hp}:∀{Γ:Fm}{L:List Qh},RepL K Hz H Γ L->∀a∈L,(∃u,H a=some u)/\∀xs,H a≠some (.tup xs)
 | _,_,.nil,a,m=>by cases m
 | _,_,.cons e h c,a,m=>by
  rw[e]at m;rcases v_.mp m with m|m
  ·exact h.there a m
  exact c.there a m
theorem RepL.app {Hz H:Hp}:∀{Γ Δ:Fm}{L M:List Qh},RepL K Hz H Γ L->RepL K Hz H Δ M->RepL K Hz H (Γ++Δ) (L++M)
 | _,_,_,_,.nil,d=>d
 | _,_,_,_,.cons e h c,d=>.cons (by rw[e,k_]) h (c.app d)
theorem RepL.split {Hz H:Hp}:∀{Γ Δ:Fm}{N:List Qh},RepL K Hz H (Γ++Δ) N->∃L M,N=L++M/\RepL K Hz H Γ L/\RepL K Hz H Δ M
 | [],_,N,h=>⟨[],N,rfl,.nil,h⟩
 | (t,x)::r,_,N,.cons e h c=>by obtain⟨L,M,rfl,h1,h2⟩:=c.split;exact⟨_,M,by rw[e,k_],.cons rfl h h1,h2⟩
theorem RepL.perm {Hz H:Hp}{Γ Δ:Fm}(p:Γ.Perm Δ):∀{L:List Qh},RepL K Hz H Γ L->∃M,L.Perm M/\RepL K Hz H Δ M:=by
 induction p with
 |nil=>intro L h;exact⟨L,.refl _,h⟩
 |cons x q ih=>
  intro L h;cases h with
  |cons e h c=>
   obtain⟨M,p1,h1⟩:=ih c;exact⟨_,by rw[e];exact p1.append_left _,.cons rfl h h1⟩
 |swap x y l=>
  intro L h;cases h with
  |cons e h c=>
   cases c with
   |cons e' h' c'=>
    refine⟨_,?_,.cons rfl h' (.cons rfl h c')⟩;rw[e,e',<-k_,<-k_];exact Md.append_right _
 |trans p q ih1 ih2=>
  intro L h;obtain⟨M,p1,h1⟩:=ih1 h;obtain⟨N,p2,h2⟩:=ih2 h1;exact⟨N,p1.trans p2,h2⟩
theorem Rp.perm {H:Hp}{Γ Δ:Fm}(h:Rp K H Γ)(p:Γ.Perm Δ):Rp K H Δ:=by obtain⟨Hz,L,h,nd,g,d⟩:=h;obtain⟨M,q,h'⟩:=h.perm p;exact⟨Hz,M,h',q.nodup_iff.mp nd,g,fun b m=>d b (q.mem_iff.mpr m)⟩
theorem Rp.part {H:Hp}{Γ Δ:Fm}(h:Rp K H (Γ++Δ)):Rp K H Δ:=by obtain⟨Hz,L,h,nd,g,d⟩:=h;obtain⟨L1,L2,rfl,_,h2⟩:=h.split;exact⟨Hz,L2,h2,(Mn.mp nd).2.1,g,fun b m=>d b (o_ _ m)⟩
theorem Rp.tail {H:Hp}{x:T×Option V}{Γ:Fm}(h:Rp K H (x::Γ)):Rp K H Γ:=Rp.part (Γ:=[x]) h
theorem jG{H H':Hp}(s:bI H H')(a:Qh)(u:HO)(e:H a=some u):H' a=some u/\((∀xs,H a≠some (.tup xs))->∀xs,H' a≠some (.tup xs)):=
 ⟨s _ _ e,fun n xs r=>n xs (by rw[s _ _ e]at r;exact e.trans r)⟩
theorem Rp.same {H H':Hp}{Γ:Fm}(h:Rp K H Γ)(s:bI H H'):Rp K H' Γ:=by obtain⟨Hz,L,h,nd,g,d⟩:=h;exact⟨Hz,L,h.move (bI.tk s) .ck (fun a m u e=>jG s a u e),nd,g.trans (.of s),d⟩
theorem uS{H H':Hp}{p:Qh}{o:HO}(s:Put H p o H')(a:Qh)(n:a≠p)(u:HO)(e:H a=some u):H' a=some u/\((∀xs,H a≠some (.tup xs))->∀xs,H' a≠some (.tup xs)):=
 ⟨by rw[s.else_ a n];exact e,fun m xs r=>m xs (by rw[s.else_ a n]at r;exact r)⟩
theorem RepTs.len {Hz H:Hp}:∀{ts:List T}{vs:List V}{L:List Qh},RepTs K Hz H ts vs L->ts.length=vs.length
 | _,_,_,.nil=>rfl
 | _,_,_,.cons _ _ c=>by rw[h_,h_,c.len]
abbrev zz(ts:List T)(vs:List V):Fm:=ts.zip (vs.map some)
theorem RepTs.toL {Hz H:Hp}:∀{ts:List T}{vs:List V}{L:List Qh},RepTs K Hz H ts vs L->RepL K Hz H (zz ts vs) L
 | _,_,_,.nil=>.nil
 | _,_,_,.cons e h c=>.cons e (.inr ⟨_,rfl,h⟩) c.toL
theorem RepL.A2 {Hz H:Hp}:∀{ts:List T}{vs:List V}{L:List Qh},ts.length=vs.length->RepL K Hz H (zz ts vs) L->RepTs K Hz H ts vs L
 | [],[],_,_,.nil=>.nil
 | [],v::vs,_,l,_=>by simp at l
 |t::ts,[],_,l,_=>by simp at l
 |t::ts,v::vs,L,l,h=>by
  have h:RepL K Hz H ((t,some v)::zz ts vs) L:=h;cases h with
  |cons e h c=>
   refine .cons e ?_ (c.A2 (by simpa using l));rcases h with⟨rfl,rfl⟩|⟨w,e2,h⟩
   ·exact .any
   cases e2;exact h
theorem RepKs.toL {Hz H:Hp}:∀{ts:List (Key×T)}{vs:List (Key×V)}{L:List Qh},RepKs K Hz H ts vs L->ts.map (·.1)=vs.map (·.1)/\RepTs K Hz H (ts.map (·.2)) (vs.map (·.2)) L
 | _,_,_,.nil=>⟨rfl,.nil⟩
 | _,_,_,.cons e h c=>by obtain⟨e1,c1⟩:=c.toL;exact⟨by rw[g_,g_,e1],.cons e h c1⟩
theorem RepKs.ofL {Hz H:Hp}:∀{ts:List (Key×T)}{vs:List (Key×V)}{L:List Qh},ts.map (·.1)=vs.map (·.1)->RepTs K Hz H (ts.map (·.2)) (vs.map (·.2)) L->RepKs K Hz H ts vs L
 | [],[],_,_,.nil=>.nil
 | [],_::_,_,e,_=>by simp at e
 | _::_,[],_,e,_=>by simp at e
 | (k,t)::ts,(k',v)::vs,L,e,.cons e2 h c=>by rw[g_,g_,Mw]at e;have e0:k=k':=e.1;subst e0;exact .cons e2 h (RepKs.ofL e.2 c)
theorem RepXs.toL {Hz H:Hp}:∀{ts:List (List Key×T)}{vs:List (List Key×V)}{L:List Qh},RepXs K Hz H ts vs L->ts.map (·.1)=vs.map (·.1)/\RepTs K Hz H (ts.map (·.2)) (vs.map (·.2)) L
 | _,_,_,.nil=>⟨rfl,.nil⟩
 | _,_,_,.cons e h c=>by obtain⟨e1,c1⟩:=c.toL;exact⟨by rw[g_,g_,e1],.cons e h c1⟩
theorem RepXs.ofL {Hz H:Hp}:∀{ts:List (List Key×T)}{vs:List (List Key×V)}{L:List Qh},ts.map (·.1)=vs.map (·.1)->RepTs K Hz H (ts.map (·.2)) (vs.map (·.2)) L->RepXs K Hz H ts vs L
 | [],[],_,_,.nil=>.nil
 | [],_::_,_,e,_=>by simp at e
 | _::_,[],_,e,_=>by simp at e
 | (k,t)::ts,(k',v)::vs,L,e,.cons e2 h c=>by rw[g_,g_,Mw]at e;have e0:k=k':=e.1;subst e0;exact .cons e2 h (RepXs.ofL e.2 c)
theorem AV{H H':Hp}{p:Qh}{o:HO}{t:T}{Γ Δ:Fm}(h:Rp K H (Γ++Δ))(hp:H p=none)(s:bI H H')(hn:H' p=some o)
  (mk:∀Hz L,RepL K Hz H' Γ L->RepT K Hz H' t (.ref p) (p::L)):Rp K H' ((t,some (.ref p))::Δ):=by
 obtain⟨Hz,N,h,nd,g,d⟩:=h;obtain⟨L,M,rfl,h1,h2⟩:=h.split;have mv:∀a∈L++M,∀u,H a=some u->H' a=some u/\((∀xs,H a≠some (.tup xs))->∀xs,H' a≠some (.tup xs)):=fun a _ u e=>jG s a u e;have h1':=h1.move (bI.tk s) .ck fun a m=>mv a (w_ _ m);have h2':=h2.move (bI.tk s) .ck fun a m=>mv a (o_ _ m);refine⟨Hz,(p::L)++M,.cons rfl (.inr ⟨_,rfl,mk Hz L h1'⟩) h2',?_,g.trans (.of s),?_⟩
 ·rw[LN,F'];refine⟨fun m=>?_,nd⟩;obtain⟨⟨u,e⟩,_⟩:=h.there p m;rw[hp]at e;cases e
 intro b m;rcases n_.mp m with rfl|m
 ·exact g.none hp
 exact d b m
theorem fk{H H':Hp}{p:Qh}{ts:List T}{vs:List V}{Δ:Fm}(h:Rp K H (zz ts vs++Δ))(l:ts.length=vs.length)(hp:H p=none)(s:bI H H')(hn:H' p=some (.lst vs)):Rp K H' ((.lst true ts,some (.ref p))::Δ):=
 AV h hp s hn fun _ _ q=>.lstO hn (q.A2 l)
theorem fu{H H':Hp}{p:Qh}{ts:List T}{vs:List V}{Δ:Fm}(h:Rp K H (zz ts vs++Δ))(l:ts.length=vs.length)(s:bI H H')(hn:H' p=some (.tup vs)):Rp K H' ((.tup ts,some (.ref p))::Δ):=by obtain⟨Hz,N,h,nd,g,d⟩:=h.same s;obtain⟨L,M,rfl,h1,h2⟩:=h.split;exact⟨Hz,L++M,.cons rfl (.inr ⟨_,rfl,.tup hn (h1.A2 l)⟩) h2,nd,g,d⟩
theorem gM{H:Hp}{ts:List T}{x:Option V}{Γ:Fm}(h:Rp K H ((.lst true ts,x)::Γ)):∃a vs,x=some (.ref a)/\H a=some (.lst vs)/\ts.length=vs.length/\Rp K H ((.bare,some (.ref a))::(zz ts vs++Γ)):=by
 obtain⟨Hz,N,h,nd,g,d⟩:=h;cases h with
 |cons e h c=>
  rcases h with⟨h,_⟩|⟨v,rfl,h⟩
  ·cases h
  cases h with
  |lstO h1 c1=>
   refine⟨_,_,rfl,h1,c1.len,Hz,N,.cons (L:=[_]) (M:=_++_) (by rw[e];rfl) (.inr ⟨_,rfl,.bare h1 fun xs r=>?_⟩) (c1.toL.app c),nd,g,d⟩;rw[h1]at r;cases r
theorem tK{H H':Hp}{a:Qh}{o:HO}{t:T}{Γ Δ:Fm}(h:Rp K H ((.bare,some (.ref a))::(Γ++Δ)))(p:Put H a o H')
  (mk:∀Hz L,RepL K Hz H' Γ L->RepT K Hz H' t (.ref a) (a::L)):Rp K H' ((t,some (.ref a))::Δ):=by
 obtain⟨Hz,N,h,nd,g,d⟩:=h;cases h with
 |cons e h c=>
  rcases h with⟨h,_⟩|⟨v,ev,h⟩
  ·cases h
  cases ev;cases h with
  |bare h1 nt=>
   obtain⟨L,M,e2,h2,h3⟩:=c.split;subst e;subst e2;rw[OU,F']at nd;have tk:TK H H':=Put.tk p nt;have ne:∀b∈L++M,b≠a:=fun b m z=>nd.1 (z▸m);have g':Gr Hz H':=fun b u r=>by
    have hb:b≠a:=fun z=>by obtain⟨w,q⟩:=Rd.some r;rw[z,d a (by rw[OU];exact p_)]at q;cases q
    rcases g b u r with r|⟨o,r⟩
    ·exact .inl (by rw[p.else_ b hb];exact r)
    exact .inr ⟨o,by rw[p.else_ b hb];exact r⟩
   refine⟨Hz,(a::L)++M,.cons rfl (.inr ⟨_,rfl,mk Hz L ?_⟩) ?_,?_,g',?_⟩
   ·exact h2.move tk .ck fun b m=>uS p b (ne b (w_ _ m))
   ·exact h3.move tk .ck fun b m=>uS p b (ne b (o_ _ m))
   ·rw[LN,F'];exact nd
   exact d
theorem fE{H H':Hp}{a:Qh}{ts:List T}{vs:List V}{Γ:Fm}(h:Rp K H ((.bare,some (.ref a))::(zz ts vs++Γ)))(l:ts.length=vs.length)(p:Put H a (.lst vs) H'):Rp K H' ((.lst true ts,some (.ref a))::Γ):=
 tK h p fun _ _ q=>.lstO p.at_ (q.A2 l)
theorem qg{H:Hp}{ts:List (Key×T)}{x:Option V}{Γ:Fm}(h:Rp K H ((.dK true ts,x)::Γ)):∃a vs,x=some (.ref a)/\H a=some (.dK vs)/\ts.map (·.1)=vs.map (·.1)/\Rp K H ((.bare,some (.ref a))::(zz (ts.map (·.2)) (vs.map (·.2))++Γ)):=by
 obtain⟨Hz,N,h,nd,g,d⟩:=h;cases h with
 |cons e h c=>
  rcases h with⟨h,_⟩|⟨v,rfl,h⟩
  ·cases h
  cases h with
  |dKO h1 c1=>
   obtain⟨e1,c2⟩:=c1.toL;refine⟨_,_,rfl,h1,e1,Hz,N,.cons (L:=[_]) (M:=_++_) (by rw[e];rfl) (.inr ⟨_,rfl,.bare h1 fun xs r=>?_⟩) (c2.toL.app c),nd,g,d⟩;rw[h1]at r;cases r
theorem CH{H:Hp}{ts:List (List Key×T)}{x:Option V}{Γ:Fm}(h:Rp K H ((.dT true ts,x)::Γ)):∃a vs,x=some (.ref a)/\H a=some (.dT vs)/\ts.map (·.1)=vs.map (·.1)/\Rp K H ((.bare,some (.ref a))::(zz (ts.map (·.2)) (vs.map (·.2))++Γ)):=by
 obtain⟨Hz,N,h,nd,g,d⟩:=h;cases h with
 |cons e h c=>
  rcases h with⟨h,_⟩|⟨v,rfl,h⟩
  ·cases h
  cases h with
  |dTO h1 c1=>
   obtain⟨e1,c2⟩:=c1.toL;refine⟨_,_,rfl,h1,e1,Hz,N,.cons (L:=[_]) (M:=_++_) (by rw[e];rfl) (.inr ⟨_,rfl,.bare h1 fun xs r=>?_⟩) (c2.toL.app c),nd,g,d⟩;rw[h1]at r;cases r
theorem bX{κ α β:Type}{ts:List (κ×α)}{vs:List (κ×β)}(e:ts.map (·.1)=vs.map (·.1)):ts.length=vs.length:=by have:=congrArg N9 e;rwa[a_,a_]at this
theorem rC{H H':Hp}{a:Qh}{ts:List (Key×T)}{vs:List (Key×V)}{Γ:Fm}(h:Rp K H ((.bare,some (.ref a))::(zz (ts.map (·.2)) (vs.map (·.2))++Γ)))(l:ts.map (·.1)=vs.map (·.1))(p:Put H a (.dK vs) H'):Rp K H' ((.dK true ts,some (.ref a))::Γ):=
 tK h p fun _ _ q=>.dKO p.at_ (RepKs.ofL l (q.A2 (by rw[a_,a_];exact bX l)))
theorem Ad{H H':Hp}{a:Qh}{ts:List (List Key×T)}{vs:List (List Key×V)}{Γ:Fm}(h:Rp K H ((.bare,some (.ref a))::(zz (ts.map (·.2)) (vs.map (·.2))++Γ)))(l:ts.map (·.1)=vs.map (·.1))(p:Put H a (.dT vs) H'):Rp K H' ((.dT true ts,some (.ref a))::Γ):=
 tK h p fun _ _ q=>.dTO p.at_ (RepXs.ofL l (q.A2 (by rw[a_,a_];exact bX l)))
theorem ER{H H':Hp}{p:Qh}{Δ:Fm}(h:Rp K H Δ)(hp:H p=none)(s:bI H H')(hn:H' p=some (.dT [])):Rp K H' ((.dT true [],some (.ref p))::Δ):=
 AV (Γ:=[]) h hp s hn fun _ _ q=>by cases q;exact .dTO hn .nil
theorem pZ{H:Hp}{t:T}{x:Option V}{Γ:Fm}(h:Rp K H ((t,x)::Γ)):Rp K H ((er t,x)::Γ):=by
 obtain⟨Hz,N,h,nd,g,d⟩:=h;cases h with
 | @cons _ _ L M _ _ e h c=>
  rcases h with⟨rfl,rfl⟩|⟨v,rfl,h⟩
  ·exact⟨Hz,N,.cons e (.inl ⟨rfl,rfl⟩) c,nd,g,d⟩
  subst e;have dz:∀b∈L,Hz b=none:=fun b m=>d b (w_ _ m)
  let Z:Hp:=fun b=>if b∈L then H b else Hz b
  have hz:Gr Hz Z:=fun b u r=>by
   have nb:b ∉ L:=fun m=>by obtain⟨w,q⟩:=Rd.some r;rw[dz b m]at q;cases q
   rcases r with r|⟨o,r⟩
   ·exact .inl (by show(if b∈L then H b else Hz b)=_;rw[if_neg nb];exact r)
   exact .inr ⟨o,by show(if b∈L then H b else Hz b)=_;rw[if_neg nb];exact r⟩
  have zh:Gr Z H:=fun b u r=>by
   by_cases nb:b∈L
   ·rcases r with r|⟨o,r⟩
    ·exact .inl (by have r:(if b∈L then H b else Hz b)=_:=r;rw[if_pos nb]at r;exact r)
    exact .inr ⟨o,by have r:(if b∈L then H b else Hz b)=_:=r;rw[if_pos nb]at r;exact r⟩
   refine g b u ?_;rcases r with r|⟨o,r⟩
   ·exact .inl (by have r:(if b∈L then H b else Hz b)=_:=r;rw[if_neg nb]at r;exact r)
   exact .inr ⟨o,by have r:(if b∈L then H b else Hz b)=_:=r;rw[if_neg nb]at r;exact r⟩
  have nd2:=Mn.mp nd;refine⟨Z,[]++M,.cons rfl (.inr ⟨v,rfl,h.frz hz fun b m=>?_⟩) (c.move (fun _ _ r=>r) hz fun b m u e=>⟨e,fun n=>n⟩),nd2.2.1,zh,fun b m=>?_⟩
  ·show(if b∈L then H b else Hz b)=_;rw[if_pos m]
  show(if b∈L then H b else Hz b)=_;rw[if_neg (fun z=>nd2.2.2 b z b m rfl)];exact d b (o_ _ m)
theorem lJ{H:Hp}{t:T}{x:Option V}{Γ:Fm}(h:Rp K H ((t,x)::Γ))(n:aP t=true):Rp K H ((t,x)::(t,x)::Γ):=by
 obtain⟨Hz,N,h,nd,g,d⟩:=h;cases h with
 | @cons _ _ L M _ _ e h c=>
  have hL:L=[]:=by
   rcases h with⟨_,rfl⟩|⟨v,_,h⟩
   ·rfl
   exact h.nil_of n
  subst hL;exact⟨Hz,N,.cons (L:=[]) (M:=N) rfl h (.cons e h c),nd,g,d⟩
theorem rh.view {Hz H:Hp}(g:Gr Hz H){t:T}{x:Option V}{L:List Qh}(h:rh K Hz H t x L):rh K H H (er t) x []:=by
 rcases h with⟨rfl,rfl⟩|⟨v,rfl,h⟩
 ·exact .inl ⟨rfl,rfl⟩
 exact .inr ⟨v,rfl,h.frz g fun _ _=>rfl⟩
theorem RepL.view {Hz H:Hp}(g:Gr Hz H):∀{Γ:Fm}{L:List Qh},RepL K Hz H Γ L->RepL K H H (Γ.map fun p=>(er p.1,p.2)) []
 | _,_,.nil=>.nil
 | _,_,.cons e h c=>.cons rfl (h.view g) (c.view g)
theorem uA{H:Hp}{Γ:Fm}(h:Rp K H Γ):Rp K H ((Γ.map fun p=>(er p.1,p.2))++[(.kp H,some .non)]):=by obtain⟨Hz,N,h,nd,g,d⟩:=h;refine⟨H,[]++[],(h.view g).app (.cons rfl (.inr ⟨_,rfl,.kp .ck⟩) .nil),Mk,.ck,fun b m=>by cases m⟩
noncomputable def over(H H':Hp):Hp:=fun b=>match H b with
 |some u=>some u
 |none=>H' b
theorem fC{H H':Hp}{b:Qh}{u:HO}(e:H b=some u):over H H' b=some u:=by unfold over;rw[e]
theorem nF{H H':Hp}{b:Qh}(e:H b=none):over H H' b=H' b:=by unfold over;rw[e]
theorem A7(H H':Hp):bI H (over H H'):=fun b u e=>fC e
theorem t9{H H':Hp}(g:Gr H H'){b:Qh}:over H H' b=H' b\/∃o u,H' b=some (.frz o u)/\over H H' b=some u:=by
 cases q:H b with
 |none=>exact .inl (nF q)
 |some u=>
  rw[fC q];rcases g b u (.inl q)with r|⟨o,r⟩
  ·exact .inl r.symm
  exact .inr ⟨o,u,r,rfl⟩
theorem vN{H H':Hp}(g:Gr H H'){b:Qh}{xs:List V}(r:H' b=some (.tup xs)):over H H' b=some (.tup xs):=by
 rcases t9 g (b:=b)with e|⟨o,u,e,_⟩
 ·rw[e];exact r
 rw[r]at e;cases e
theorem uM{H H':Hp}{t:T}{x:Option V}{Γ Δ:Fm}(h:Rp K H Γ)(q:Rp K H' ((t,x)::(Δ++[(.kp H,some .non)])))(n:bO t=true):Gr H H'/\Rp K (over H H') ((t,x)::Γ):=by
 obtain⟨Hy,N',q,nd',g',d'⟩:=q;cases q with
 | @cons _ _ L M _ _ e h1 c=>
  have hkp:Gr H Hy:=by
   obtain⟨_,_,_,_,c2⟩:=c.split;cases c2 with
   |cons _ h2 _=>
    rcases h2 with⟨z,_⟩|⟨_,_,h2⟩
    ·cases z
    cases h2 with
    |kp z=>exact z
  have gr:=hkp.trans g';refine⟨gr,?_⟩;subst e;have nd2:=Mn.mp nd';have hL:∀b∈L,H b=none:=fun b m=>hkp.none (d' b (w_ _ m));obtain⟨Hz,N,h,nd,g,d⟩:=h;have so:=A7 H H';have tk:TK H' (over H H'):=fun b xs r=>vN gr r;have h1':rh K Hz (over H H') t x L:=by
   rcases h1 with⟨rfl,rfl⟩|⟨v,rfl,h1⟩
   ·exact .inl ⟨rfl,rfl⟩
   refine .inr ⟨v,rfl,h1.Lo tk n fun b m u e=>?_⟩;have eo:=nF (H':=H') (hL b m);exact⟨eo.trans e,fun nt xs r=>nt xs (by rw[<-eo];exact r)⟩
  refine⟨Hz,L++N,.cons rfl h1' (h.move (bI.tk so) .ck fun b m u e=>jG so b u e),?_,g.trans (.of so),?_⟩
  ·rw[Mn];refine⟨nd2.1,nd,fun b m b' m' z=>?_⟩;subst z;obtain⟨⟨u,e⟩,_⟩:=h.there b m';rw[hL b m]at e;cases e
  intro b m;rcases v_.mp m with m|m
  ·exact g.none (hL b m)
  exact d b m
theorem qy:∀{ts:List T}{vs:List V}{i:Nat}{t:T},ts.length=vs.length->ts[i]?=some t->∃w,vs[i]?=some w
 |ts,vs,i,t,l,e=>by have h:i<ts.length:=(d_.mp e).1;exact⟨vs[i]'(by omega),c_ (by omega)⟩
theorem mZ{α:Type}:∀{l:List α}{i:Nat}{x y:α},l[i]?=some y->(l.set i x).set i y=l
 | [],i,x,y,e=>by simp at e
 |a::l,0,x,y,e=>by simp at e;subst e;rfl
 |a::l,i+1,x,y,e=>by simp only[Mz]at e;rw[Oa,Oa,mZ e]
end
theorem oX{α β:Type}:∀{l:List α}{m:List β}{i:Nat}{a:α}{b:β} (t:α) (y:β),l[i]?=some a->m[i]?=some b->((a,b)::(l.set i t).zip (m.set i y)).Perm ((t,y)::l.zip m)
 | [],m,i,a,b,t,y,h,_=>by simp at h
 |x::l,[],i,a,b,t,y,_,h=>by simp at h
 |x::l,z::m,0,a,b,t,y,h,g=>by simp only[MV,Ol]at h g;subst h;subst g;exact .swap _ _ _
 |x::l,z::m,i+1,a,b,t,y,h,g=>by simp only[Mz]at h g;have p:=oX t y h g;show PN ((a,b)::(x,z)::(l.set i t).zip (m.set i y)) ((t,y)::(x,z)::l.zip m);exact(MC _ _ _).trans ((p.cons _).trans (.swap _ _ _))
theorem set_same{α:Type}{l:List α}{i:Nat}{x:α}(h:l[i]?=some x):l.set i x=l:=by have:=mZ (x:=x) h;rw[OA]at this;exact this
section
variable{K:Qg}
noncomputable def Rs(K:Qg)(H:Hp)(env:Ev)(σ:St)(Fr:Fm):Prop:=env.length=σ.length/\Rp K H (env.zip σ++Fr)
theorem jk{H:Hp}{x:Option V}{Γ:Fm}(h:Rp K H Γ):Rp K H ((.any,x)::Γ):=by obtain⟨Hz,N,h,nd,g,d⟩:=h;exact⟨Hz,N,.cons (L:=[]) rfl (.inl ⟨rfl,rfl⟩) h,nd,g,d⟩
theorem Rs.perm {H:Hp}{env:Ev}{σ:St}{Fr Gr:Fm}(h:Rs K H env σ Fr)(p:Fr.Perm Gr):Rs K H env σ Gr:=⟨h.1,h.2.perm (p.append_left _)⟩
theorem Rs.drop {H:Hp}{env:Ev}{σ:St}{x:T×Option V}{Fr:Fm}(h:Rs K H env σ (x::Fr)):Rs K H env σ Fr:=⟨h.1,(h.2.perm j_).tail⟩
theorem Rs.head {H:Hp}{env:Ev}{σ:St}{x:T×Option V}{Fr:Fm}(h:Rs K H env σ (x::Fr)):Rp K H (x::(env.zip σ++Fr)):=h.2.perm j_
theorem Rs.of {H:Hp}{env:Ev}{σ:St}{x:T×Option V}{Fr:Fm}(l:env.length=σ.length)(h:Rp K H (x::(env.zip σ++Fr))):Rs K H env σ (x::Fr):=⟨l,h.perm j_.symm⟩
theorem Rs.chg {H H':Hp}{env:Ev}{σ:St}{Δ Δ' Fr:Fm}(h:Rs K H env σ (Δ++Fr))(f:∀ Γ,Rp K H (Δ++Γ)->Rp K H' (Δ'++Γ)):Rs K H' env σ (Δ'++Fr):=by
 refine⟨h.1,?_⟩;have p:∀A:Fm,(A++(env.zip σ++Fr)).Perm (env.zip σ++(A++Fr)):=fun A=>by rw[<-k_,<-k_];exact Md.append_right _
 exact(f _ (h.2.perm (p Δ).symm)).perm (p Δ')
theorem Rs.slot {H:Hp}{env:Ev}{σ:St}{Fr:Fm}{i:Nat}{t:T}(h:Rs K H env σ Fr)(e:env[i]?=some t):∃x,σ[i]?=some x/\Rs K H (env.set i .any) σ ((t,x)::Fr):=by
 have hi:i<env.length:=(d_.mp e).1;have hs:i<σ.length:=by rw[<-h.1];exact hi
 have ex:σ[i]?=some σ[i]:=c_ hs;refine⟨σ[i],ex,by rw[Lv];exact h.1,?_⟩;have p:=oX (T.any) σ[i] e ex;rw[set_same ex]at p;refine(jk (x:=σ[i]) h.2).perm ?_;refine C' ?_ j_.symm;exact(p.symm.append_right Fr)
theorem Rs.nK {H:Hp}{env:Ev}{σ:St}{Fr:Fm}{i:Nat}{t:T}{x:Option V}(h:Rs K H env σ ((t,x)::Fr))(hi:i<env.length)(ex:σ[i]?=some x):Rs K H (env.set i t) σ Fr:=by have e:env[i]?=some env[i]:=c_ hi;refine⟨by rw[Lv];exact h.1,?_⟩;have p:=oX t x e ex;rw[set_same ex]at p;refine Rp.tail (x:=(env[i],x)) (h.2.perm ?_);refine j_.trans ?_;exact(p.symm.append_right Fr)
theorem Rs.store {H:Hp}{env:Ev}{σ:St}{Fr:Fm}{i:Nat}{t:T}{v:V}(h:Rs K H env σ ((t,some v)::Fr))(hi:i<env.length):Rs K H (env.set i t) (σ.set i (some v)) Fr:=by
 have e:env[i]?=some env[i]:=c_ hi;have hs:i<σ.length:=by rw[<-h.1];exact hi
 have ex:σ[i]?=some σ[i]:=c_ hs;refine⟨by rw[Lv,Lv];exact h.1,?_⟩;have p:=oX t (some v) e ex;refine Rp.tail (x:=(env[i],σ[i])) (h.2.perm ?_);refine j_.trans ?_;exact(p.symm.append_right Fr)
end
theorem qi{X:Cx}{pins:List (Qh×Obj)}{σ σ':St}{H H':Hp}{s s':Qi}(I:Inv X pins σ H s)(J:Inv X pins σ' H' s')(g:Gr H H'):Inv X pins σ' (over H H') s':=by
 have nn:∀b,H' b=none->over H H' b=none:=fun b e=>by rw[nF (g.none e)];exact e
 refine⟨J.ok,J.os,J.bare,⟨J.base.keep,J.base.slot,?_,J.base.there,?_,?_,?_⟩,J.loc,J.cell,nn _ J.free,fun x c e=>nn _ (J.freeC x c e),fun p hp=>?_,?_,J.len⟩
 ·exact fun b o e1 e2 e3=>nn _ (J.base.free b o e1 e2 e3)
 ·exact fun b xs e=>fC (I.base.tups b xs e)
 ·exact fun b o u e=>fC (I.base.frzs b o u e)
 ·exact fun b ps e=>by obtain⟨m,em⟩:=I.base.tbls b ps e;exact⟨m,fC em⟩
 ·obtain⟨h1,h2,h3⟩:=J.pin p hp;exact⟨h1,nn _ h2,h3⟩
 intro b u e;have ho:∀c y,H' c=some (.own y)->over H H' c=some (.own y):=fun c y q=>by
  rcases t9 g (b:=c)with z|⟨o,w,z,_⟩
  ·rw[z];exact q
  rw[q]at z;cases z
 have ht:∀c xs,H' c=some (.tup xs)->over H H' c=some (.tup xs):=fun c xs q=>vN g q;have key:ba X.prog X.w H' s'.heap b u:=by
  rcases t9 g (b:=b)with z|⟨o,w,z,zw⟩
  ·rw[z]at e;exact J.hok b u e
  rw[zw]at e;cases e;exact(J.hok b _ z).2
 exact key.oJ (fun c v _ q=>q) (fun c=>ho c b) ht
theorem Fu{X:Cx}{e:Qx}{t:TE}(h:PE X e t):PE X e (fun σ H Q=>t σ H fun v H'=>Gr H H'/\Q v (over H H')):=fun pins s σ H Q I q=>
 thn (h pins s σ H _ I q) fun u s' ⟨v,H',I',r,g,q'⟩=>⟨v,over H H',qi I I' g,r,q'⟩
theorem F9{X:Cx}{e:Qx}{t:TT}(h:PT X e t):PT X e (fun σ H Q=>t σ H fun b H'=>Gr H H'/\Q b (over H H')):=fun pins s σ H Q I q=>
 thn (h pins s σ H _ I q) fun b s' ⟨H',I',g,q'⟩=>⟨over H H',qi I I' g,q'⟩
abbrev PF:=Ev->(T->Ev->Prop)->Prop
abbrev PB:=Ev->(Bool->Ev->Prop)->Prop
abbrev PFs:=Ev->(List T->Ev->Prop)->Prop
noncomputable def wE(K:Qg)(f:PF):TE:=fun σ H Q=>∃env Fr k,Rs K H env σ Fr/\f env k/\∀t env' v H',k t env'->Rs K H' env' σ ((t,some v)::Fr)->Q v H'
noncomputable def wB(K:Qg)(f:PB):TT:=fun σ H Q=>∃env Fr k,Rs K H env σ Fr/\f env k/\∀b env' H',k b env'->Rs K H' env' σ Fr->Q b H'
noncomputable def wA(K:Qg)(f:PFs):TA:=fun σ H Q=>∃env Fr k,Rs K H env σ Fr/\f env k/\∀ts env' vs H',k ts env'->ts.length=vs.length->Rs K H' env' σ (zz ts vs++Fr)->Q vs H'
noncomputable def GE(X:Cx)(e:Qx)(f:PF):Prop:=PE X e (wE X.K f)
noncomputable def GT(X:Cx)(e:Qx)(f:PB):Prop:=PT X e (wB X.K f)
noncomputable def GW(X:Cx)(e:Qx)(f:PB):Prop:=PW X e (wB X.K f)
noncomputable def GA(X:Cx)(es:List Qx)(f:PFs):Prop:=PA X es (wA X.K f)
theorem PE.imp {X:Cx}{e:Qx}{t t':TE}(h:PE X e t)(k:∀ σ H Q,t' σ H Q->t σ H Q):PE X e t':=fun pins s σ H Q I q=>h pins s σ H Q I (k _ _ _ q)
theorem PT.imp {X:Cx}{e:Qx}{t t':TT}(h:PT X e t)(k:∀ σ H Q,t' σ H Q->t σ H Q):PT X e t':=fun pins s σ H Q I q=>h pins s σ H Q I (k _ _ _ q)
theorem PW.imp {X:Cx}{e:Qx}{t t':TT}(h:PW X e t)(k:∀ σ H Q,t' σ H Q->t σ H Q):PW X e t':=fun wh pins s σ H Q I q=>h wh pins s σ H Q I (k _ _ _ q)
theorem PA.imp {X:Cx}{es:List Qx}{t t':TA}(h:PA X es t)(k:∀ σ H Q,t' σ H Q->t σ H Q):PA X es t':=fun pos pins s σ H Q I q=>h pos pins s σ H Q I (k _ _ _ q)
noncomputable def fQ(f:PF):PF:=fun env k=>f (erL env) fun t _=>bO t=true/\k t env
noncomputable def fQT(f:PB):PB:=fun env k=>f (erL env) fun b _=>k b env
theorem ph:∀(env:Ev) (σ:St),(env.zip σ).map (fun p=>(er p.1,p.2))=(erL env).zip σ
 | [],σ=>by simp[erL]
 |t::env,[]=>by simp
 |t::env,x::σ=>by rw[erL,O7,g_,O7,ph env σ]
theorem aB{X:Cx}{e:Qx}{f:PF}(h:GE X e f):GE X e (fQ f):=by
 refine PE.imp (Fu h) ?_;rintro σ H Q ⟨env,Fr,k,rs,q,c⟩;have rv:Rs X.K H (erL env) σ ((Fr.map fun p=>(er p.1,p.2))++[(.kp H,some .non)]):=by refine⟨by rw[t6];exact rs.1,?_⟩;have:=uA rs.2;rw[q_,ph,k_]at this;exact this
 refine⟨erL env,_,_,rv,q,?_⟩;rintro t env' v H' ⟨n,kt⟩ rs';obtain⟨g,r2⟩:=uM rs.2 (Δ:=env'.zip σ++(Fr.map fun p=>(er p.1,p.2))) (by rw[k_];exact rs'.head) n;exact⟨g,c t env v _ kt (.of rs.1 r2)⟩
theorem Bg{K:Qg}{H H':Hp}{Γ Δ:Fm}(h:Rp K H Γ)(q:Rp K H' (Δ++[(.kp H,some .non)])):Gr H H'/\Rp K (over H H') Γ:=by obtain⟨g,r⟩:=uM (t:=.any) (x:=none) h (jk q) rfl;exact⟨g,r.tail⟩
theorem cN{X:Cx}{e:Qx}{f:PB}(h:GT X e f):GT X e (fQT f):=by
 refine PT.imp (F9 h) ?_;rintro σ H Q ⟨env,Fr,k,rs,q,c⟩;have rv:Rs X.K H (erL env) σ ((Fr.map fun p=>(er p.1,p.2))++[(.kp H,some .non)]):=by refine⟨by rw[t6];exact rs.1,?_⟩;have:=uA rs.2;rw[q_,ph,k_]at this;exact this
 refine⟨erL env,_,_,rv,q,?_⟩;rintro b env' H' kt rs';obtain⟨g,r2⟩:=Bg rs.2 (Δ:=env'.zip σ++(Fr.map fun p=>(er p.1,p.2))) (by rw[k_];exact rs'.2);exact⟨g,c b env _ kt ⟨rs.1,r2⟩⟩
noncomputable def fK(t:T):PF:=fun env k=>k t env
section
variable{X:Cx}{pos:Pos}
theorem fm{K:Qg}{H:Hp}{env:Ev}{σ:St}{Fr:Fm}{t:T}{v:V}(h:Rs K H env σ Fr)(r:∀Hz,RepT K Hz H t v []):Rs K H env σ ((t,some v)::Fr):=by refine .of h.1 ?_;obtain⟨Hz,N,q,nd,g,d⟩:=h.2;exact⟨Hz,N,.cons (L:=[]) rfl (.inr ⟨v,rfl,r Hz⟩) q,nd,g,d⟩
theorem ge_int{i:Int}{j:Nat}:GE X (.Constant (.int i) j pos) (fK (.int i)):=PE.imp bZ fun σ H Q ⟨env,Fr,k,rs,q,c⟩=>c _ _ _ _ q (fm rs fun _=>.int)
theorem fy{b:Bool}{j:Nat}:GE X (.Constant (.bool b) j pos) (fK (.bl b)):=PE.imp KC fun σ H Q ⟨env,Fr,k,rs,q,c⟩=>c _ _ _ _ q (fm rs fun _=>.bl)
theorem iX{j:Nat}:GE X (.Constant .none j pos) (fK .non):=PE.imp Ie fun σ H Q ⟨env,Fr,k,rs,q,c⟩=>c _ _ _ _ q (fm rs fun _=>.non)
theorem ge_str{x:Str}{j:Nat}:GE X (.Constant (.str x) j pos) (fK (.str x)):=PE.imp jq fun σ H Q ⟨env,Fr,k,rs,q,c⟩=>c _ _ _ _ q (fm rs fun _=>.str)
theorem Eb{x:Str}{t:T}{v:V}{u:Qf}(hg:Gl X x)(hm:X.mg x=some u)(r:RelV v u)(ht:∀Hz H,RepT X.K Hz H t v [])(hd:(x ==("__debug__":Str))=false:=by decide):GE X (.Name x pos) (fK t):=
 PE.imp (EL hg hm r hd) fun σ H Q ⟨env,Fr,k,rs,q,c⟩=>c _ _ _ _ q (fm rs fun Hz=>ht Hz H)
noncomputable def isAny:T->Bool
 | .any=>true
 | _=>false
noncomputable def Fs(i:Nat):PF:=fun env k=>match env[i]? with
 |some t=>isAny t=false/\aP t=true/\k t env
 |none=>False
noncomputable def fFz(i:Nat):PF:=fun env k=>match env[i]? with
 |some t=>isAny t=false/\k (er t) (env.set i (er t))
 |none=>False
noncomputable def fMv(i:Nat):PF:=fun env k=>match env[i]? with
 |some t=>isAny t=false/\k t (env.set i .any)
 |none=>False
theorem eI{K:Qg}{H:Hp}{env:Ev}{σ:St}{Fr:Fm}{t:T}{x:Option V}(h:Rs K H env σ ((t,x)::Fr))(n:isAny t=false):∃v,x=some v:=by
 obtain⟨Hz,N,q,_⟩:=h.head;cases q with
 |cons e h c=>
  rcases h with⟨rfl,_⟩|⟨v,e,_⟩
  ·cases n
  exact⟨v,e⟩
theorem ae(i:Nat){x:Str}(hN:X.N[i]?=some x:=by rfl)(hv:Vis X.env.scope x:=by first|exact e_ rfl|exact s_ (e_ rfl)|exact s_ (s_ rfl))(hd:(x ==("__debug__":Str))=false:=by decide)(hcd:(x ==("__classdict__":Str))=false:=by decide):GE X (.Name x pos) (Fs i):=by
 refine PE.imp (jr hN hv hd hcd) ?_;rintro σ H Q ⟨env,Fr,k,rs,q,c⟩;unfold Fs at q;split at q
 ·rename_i t e;obtain⟨na,no,q⟩:=q;obtain⟨y,ey,rs2⟩:=rs.slot e;obtain⟨v,rfl⟩:=eI rs2 na;refine⟨v,ey,c _ _ _ _ q ?_⟩;have hi:i<env.length:=(d_.mp e).1;have r3:Rs X.K H (env.set i .any) σ ((t,some v)::(t,some v)::Fr):=.of rs2.1 ((lJ rs2.head no).perm (by refine N8 _ ?_;exact j_.symm))
  have r4:=Rs.nK (i:=i) r3 (by rw[Lv];exact hi) ey;rw[mZ e]at r4;exact r4
 exact q.elim
theorem bp(i:Nat){x:Str}(hN:X.N[i]?=some x:=by rfl)(hv:Vis X.env.scope x:=by first|exact e_ rfl|exact s_ (e_ rfl)|exact s_ (s_ rfl))(hd:(x ==("__debug__":Str))=false:=by decide)(hcd:(x ==("__classdict__":Str))=false:=by decide):GE X (.Name x pos) (fFz i):=by
 refine PE.imp (jr hN hv hd hcd) ?_;rintro σ H Q ⟨env,Fr,k,rs,q,c⟩;unfold fFz at q;split at q
 ·rename_i t e;obtain⟨na,q⟩:=q;obtain⟨y,ey,rs2⟩:=rs.slot e;obtain⟨v,rfl⟩:=eI rs2 na;refine⟨v,ey,c _ _ _ _ q ?_⟩;have hi:i<env.length:=(d_.mp e).1;have no:aP (er t)=true:=bj t;have r3:Rs X.K H (env.set i .any) σ ((er t,some v)::(er t,some v)::Fr):=.of rs2.1 ((lJ (pZ rs2.head) no).perm (by refine N8 _ ?_;exact j_.symm))
  have r4:=Rs.nK (i:=i) r3 (by rw[Lv];exact hi) ey;rw[OA]at r4;exact r4
 exact q.elim
theorem rX(i:Nat){x:Str}(hN:X.N[i]?=some x:=by rfl)(hv:Vis X.env.scope x:=by first|exact e_ rfl|exact s_ (e_ rfl)|exact s_ (s_ rfl))(hd:(x ==("__debug__":Str))=false:=by decide)(hcd:(x ==("__classdict__":Str))=false:=by decide):GE X (.Name x pos) (fMv i):=by
 refine PE.imp (jr hN hv hd hcd) ?_;rintro σ H Q ⟨env,Fr,k,rs,q,c⟩;unfold fMv at q;split at q
 ·rename_i t e;obtain⟨na,q⟩:=q;obtain⟨y,ey,rs2⟩:=rs.slot e;obtain⟨v,rfl⟩:=eI rs2 na;exact⟨v,ey,c _ _ _ _ q rs2⟩
 exact q.elim
end
section
variable{K:Qg}{H:Hp}{Γ:Fm}
theorem fq{t:T}{y:V}(h:Rp K H ((t,some y)::Γ))(n:isAny t=false):∃Hz L,RepT K Hz H t y L/\Gr Hz H:=by
 obtain⟨Hz,N,h,nd,g,d⟩:=h;cases h with
 |cons e h c=>
  rcases h with⟨rfl,_⟩|⟨v,e2,h⟩
  ·cases n
  cases e2;exact⟨Hz,_,h,g⟩
theorem aK{i:Int}{y:V}(h:Rp K H ((.int i,some y)::Γ)):y=.int i:=by obtain⟨_,_,r,_⟩:=fq h rfl;cases r;rfl
theorem oI{i:Bool}{y:V}(h:Rp K H ((.bl i,some y)::Γ)):y=.bl i:=by obtain⟨_,_,r,_⟩:=fq h rfl;cases r;rfl
theorem kL{i:Str}{y:V}(h:Rp K H ((.str i,some y)::Γ)):y=.str i:=by obtain⟨_,_,r,_⟩:=fq h rfl;cases r;rfl
theorem qo{y:V}(h:Rp K H ((.non,some y)::Γ)):y=.non:=by obtain⟨_,_,r,_⟩:=fq h rfl;cases r;rfl
theorem bN{t:T}{v:V}(h:Rp K H Γ)(r:∀Hz,RepT K Hz H t v []):Rp K H ((t,some v)::Γ):=by obtain⟨Hz,N,q,nd,g,d⟩:=h;exact⟨Hz,N,.cons (L:=[]) rfl (.inr ⟨v,rfl,r Hz⟩) q,nd,g,d⟩
noncomputable def items:T->Option (List T)
 | .tup ts=>some ts
 | .cst ts=>some ts
 | .lst _ ts=>some ts
 | _=>none
noncomputable def qG:T->Bool
 | .tup _=>true
 | .cst _=>true
 | _=>false
theorem zt{a:Qh}{vs:List V}(h:SqT K (fun _=>none) a vs)(H:Hp):SqT K H a vs:=by
 rcases h with (h|⟨_,h⟩)|h
 ·cases h
 ·cases h
 exact .inr h
theorem aC{t:T}{ts:List T}{y:V}(e:items t=some ts)(h:Rp K H ((t,some y)::Γ)):∃a vs,y=.ref a/\SqG (qG t) K H a vs/\ts.length=vs.length/\Rp K H (zz ts vs++Γ):=by
 obtain⟨Hz,N,h,nd,g,d⟩:=h;cases h with
 |cons e1 h c=>
  rcases h with⟨rfl,_⟩|⟨v,e2,h⟩
  ·cases e
  cases e2;cases h <;> cases e
  ·rename_i a vs h c1;exact⟨a,vs,rfl,SqT.of h,c1.len,Hz,_,c1.toL.app c,by rw[<-e1];exact nd,g,fun b m=>d b (by rw[e1];exact m)⟩
  ·rename_i a vs h c1;exact⟨a,vs,rfl,zt h H,c1.len,Hz,_,c1.toL.app c,by rw[<-e1];exact nd,g,fun b m=>d b (by rw[e1];exact m)⟩
  ·rename_i a vs L h c1;rw[e1,LN,F']at nd;exact⟨a,vs,rfl,SqL.of h,c1.len,Hz,_,c1.toL.app c,nd.2,g,fun b m=>d b (by rw[e1,LN];exact l_ _ m)⟩
  rename_i a vs h c1;exact⟨a,vs,rfl,.inl (g _ _ h),c1.len,Hz,_,c1.toL.app c,by rw[<-e1];exact nd,g,fun b m=>d b (by rw[e1];exact m)⟩
theorem ye:∀{ts:List T}{vs:List V}{i:Nat}{t:T}{w:V},ts[i]?=some t->vs[i]?=some w->∃r,(zz ts vs).Perm ((t,some w)::r)
 | [],vs,i,t,w,e,f=>by simp at e
 |t::ts,[],i,_,w,e,f=>by simp at f
 |t::ts,v::vs,0,u,w,e,f=>by simp only[MV,Ol]at e f;subst e;subst f;exact⟨_,.refl _⟩
 |t::ts,v::vs,i+1,u,w,e,f=>by simp only[Mz]at e f;obtain⟨r,h⟩:=ye (ts:=ts) (vs:=vs) e f;exact⟨(t,some v)::r,(h.cons _).trans (.swap _ _ _)⟩
theorem jC{ts:List T}{vs:List V}{i:Nat}{t:T}{w:V}(h:Rp K H (zz ts vs++Γ))(e:ts[i]?=some t)(f:vs[i]?=some w):Rp K H ((t,some w)::Γ):=by obtain⟨r,p⟩:=ye e f;refine Rp.part (Γ:=r) (h.perm ?_);refine(p.append_right Γ).trans ?_;exact j_.symm
theorem BX{ts:List T}{vs:List V}{i:Int}{t:T}(l:ts.length=vs.length)(e:atI ts i=some t)(h:Rp K H (zz ts vs++Γ)):∃w,atI vs i=some w/\Rp K H ((t,some w)::Γ):=by
 unfold atI at e ⊢;rw[l]at e;cases q:ixN vs.length i with
 |none=>rw[q]at e;cases e
 |some j=>
  rw[q]at e;have e:ts[j]?=some t:=e;obtain⟨w,f⟩:=qy l e;exact⟨w,f,jC h e f⟩
end
noncomputable def got{α:Type}(o:Option α)(k:α->Prop):Prop:=match o with
 |some u=>k u
 |none=>False
theorem Hg{α:Type}{o:Option α}{u:α}{k:α->Prop}(e:o=some u)(h:k u):got o k:=by rw[e];exact h
theorem aF{α:Type}{o:Option α}{k:α->Prop}(h:got o k):∃u,o=some u/\k u:=by
 cases o with
 |none=>exact h.elim
 |some u=>exact⟨u,rfl,h⟩
noncomputable def cnd(b:Bool)(A B:Prop):Prop:=(b=true->A)/\(b=false->B)
theorem Fy{A B:Prop}(h:A):cnd true A B:=⟨fun _=>h,fun e=>by cases e⟩
theorem G6{A B:Prop}(h:B):cnd false A B:=⟨fun e=>(by cases e),fun _=>h⟩
theorem ff{b:Bool}{A B:Prop}(h:cnd b A B):if b=true then A else B:=by
 cases b with
 |true=>rw[if_pos rfl];exact h.1 rfl
 |false=>rw[if_neg (by decide)];exact h.2 rfl
abbrev P2:=T->T->(T->Prop)->Prop
noncomputable def w2(K:Qg)(g:P2):R2:=fun x y H Q=>∃tx ty Γ k,Rp K H ((ty,some y)::(tx,some x)::Γ)/\g tx ty k/\∀t v H',k t->Rp K H' ((t,some v)::Γ)->Q v H'
noncomputable def OpP(X:Cx)(f:Qf->Qf->Sem Qf)(g:P2):Prop:=OpR X f (w2 X.K g)
theorem OpP.of {X:Cx}{f:Qf->Qf->Sem Qf}{g:P2}{r:R2}(h:OpR X f r)(k:∀tx ty x y H Γ (k:T->Prop) (Q:VK),Rp X.K H ((ty,some y)::(tx,some x)::Γ)->g tx ty k->(∀t v H',k t->Rp X.K H' ((t,some v)::Γ)->Q v H')->r x y H Q):OpP X f g:=
 fun pins s σ H x y v u Q I rx ry ⟨tx,ty,Γ,kk,rp,g,c⟩=>h pins s σ H x y v u Q I rx ry (k tx ty x y H Γ kk Q rp g c)
noncomputable def Aa(g:P2)(a b:PF):PF:=fun env k=>a env fun x env1=>b env1 fun y env2=>g x y fun t=>k t env2
theorem y0{X:Cx}{g:P2}{fa fb:PF}:∀ σ H Q,wE X.K (Aa g fa fb) σ H Q->tOp (w2 X.K g) (wE X.K fa) (wE X.K fb) σ H Q:=by rintro σ H Q ⟨env,Fr,k,rs,q,c⟩;refine⟨env,Fr,_,rs,q,fun tx env1 x H1 q1 rs1=>⟨env1,_,_,rs1,q1,fun ty env2 y H2 q2 rs2=>?_⟩⟩;refine⟨tx,ty,env2.zip σ++Fr,_,?_,q2,fun t v H' kt rp=>c _ _ _ _ kt (.of rs2.1 rp)⟩;exact rs2.head.perm (.cons _ j_)
section
variable{X:Cx}{a b c d:Qx}{fa fb fc fd:PF}{pos:Pos}
theorem aj{op:T5}{g:P2}(ho:OpP X (Ro op) g)(ha:GE X a fa)(hb:GE X b fb):GE X (.BinOp a op b pos) (Aa g fa fb):=PE.imp (cI ho ha hb) y0
theorem uE{op:Vc}{g:P2}(ho:OpP X (Q0 op) g)(ha:GE X a fa)(hb:GE X b fb)(hm:Sr op b=false):GE X (.Compare a [op] [b] pos) (Aa g fa fb):=PE.imp (Er ho ha hb hm) y0
noncomputable def E3(f:PF):PB:=fun env k=>f env fun t env'=>match t with
 | .bl b=>k b env'
 | _=>False
theorem Cy{K:Qg}{f:PF}:∀ σ H Q,wB K (E3 f) σ H Q->Bs (wE K f) σ H Q:=by
 rintro σ H Q ⟨env,Fr,k,rs,q,c⟩;refine⟨env,Fr,_,rs,q,fun t env' v H' q1 rs1=>?_⟩;cases t <;> first|exact q1.elim|skip
 rename_i b;exact⟨b,oI rs1.head,c _ _ _ q1 rs1.drop⟩
theorem aY{op:Vc}{g:P2}(ho:OpP X (Q0 op) g)(ha:GE X a fa)(hb:GE X b fb)(hm:Sr op b=false):GT X (.Compare a [op] [b] pos) (E3 (Aa g fa fb)):=by refine PT.imp (uQ ho ha hb hm) fun σ H Q h=>?_;obtain⟨env,Fr,k,rs,q,c⟩:=Cy σ H Q h;exact y0 σ H _ ⟨env,Fr,k,rs,q,c⟩
noncomputable def wK(g g':P2)(fa fb fc:PF):PF:=fun env k=>fa env fun x env1=>fb env1 fun y env2=>aP y=true/\g x y fun z=>match z with
 | .bl b=>cnd b (fc env2 fun u env3=>g' y u fun t=>k t env3) (k (.bl false) env2)
 | _=>False
theorem Dl{X:Cx}{g g':P2}{fa fb fc:PF}:∀ σ H Q,wE X.K (wK g g' fa fb fc) σ H Q->Ck (w2 X.K g) (w2 X.K g') (wE X.K fa) (wE X.K fb) (wE X.K fc) σ H Q:=by
 rintro σ H Q ⟨env,Fr,k,rs,q,c⟩;refine⟨env,Fr,_,rs,q,fun tx env1 x H1 q1 rs1=>⟨env1,_,_,rs1,q1,fun ty env2 y H2 ⟨no,q2⟩ rs2=>?_⟩⟩;have rd:=lJ rs2.head no;refine⟨tx,ty,(ty,some y)::(env2.zip σ++Fr),_,?_,q2,fun t v H' kt rp=>?_⟩
 ·refine rd.perm (.cons _ ?_);refine C' (.cons _ j_) (.swap _ _ _)
 cases t <;> first|exact kt.elim|skip
 rename_i bb;refine⟨bb,oI rp,ff ⟨fun hb=>?_,fun hb=>?_⟩⟩
 ·refine⟨env2,(ty,some y)::Fr,_,.of rs2.1 rp.tail,kt.1 hb,fun tu env3 u H3 q3 rs3=>?_⟩;refine⟨ty,tu,env3.zip σ++Fr,_,?_,q3,fun t v H' kt rp=>c _ _ _ _ kt (.of rs3.1 rp)⟩;exact rs3.head.perm (.cons _ j_)
 exact c _ _ _ _ (kt.2 hb) (fm ⟨rs2.1,rp.tail.tail⟩ fun _=>.bl)
theorem Cg{op op':Vc}{g g':P2}(ho:OpP X (Q0 op) g)(ho':OpP X (Q0 op') g')(ha:GE X a fa)(hb:GE X b fb)(hc:GE X c fc)(hm:lastMarks [op,op'] [b,c]=false:=by with_unfolding_all rfl) :
  GT X (.Compare a [op,op'] [b,c] pos) (E3 (wK g g' fa fb fc)):=by
 refine PT.imp (Cc ho ho' ha hb hc hm) fun σ H Q h=>?_;obtain⟨env,Fr,k,rs,q,c⟩:=Cy σ H Q h;exact Dl σ H _ ⟨env,Fr,k,rs,q,c⟩
noncomputable def Ds:T->(Bool->Prop)->Prop
 | .non,k=>k false
 | .bl b,k=>k b
 | .int i,k=>k (i != 0)
 | .str x,k=>x.length<=sizeLine/\k ((x.length:Int) != 0)
 | .tup ts,k=>k (!ts.isEmpty)
 | .cst ts,k=>k (!ts.isEmpty)
 | .lst _ ts,k=>k (!ts.isEmpty)
 | _,_=>False
noncomputable def K0(f:PF):PB:=fun env k=>f env fun t env'=>Ds t fun b=>k b env'
theorem vU{α β:Type}{l:List α}{m:List β}(h:l.length=m.length):l.isEmpty=m.isEmpty:=by cases l <;> cases m <;> first|rfl|simp at h
theorem cC(ha:GE X a fa)(he:∀whole,U1 a X.env whole=(do let v <-whole;V4 a.pos;S9 [v] (truthy v)):=by intro _;rfl):GT X a (K0 fa):=by
 refine PT.imp (CN ha he) ?_;rintro σ H Q ⟨env,Fr,k,rs,q,c⟩;refine⟨env,Fr,_,rs,q,fun t env' v H' q1 rs1=>?_⟩;have fin:∀b,k b env'->Q b H':=fun b kb=>c _ _ _ kb rs1.drop;have sq:∀ts b,items t=some ts->b=(!ts.isEmpty)->k b env'->∃b,HZ X.K v H' b/\Q b H':=fun ts b e eb kb=>by
  obtain⟨a,vs,rfl,hq,l,_⟩:=aC e rs1.head;refine⟨b,?_,fin b kb⟩;rw[vU l]at eb;revert hq;cases qG t with
  |true=>exact fun hq=>.inr (.inl ⟨vs,hq,eb⟩)
  |false=>exact fun hq=>.inl ⟨vs,hq,eb⟩
 cases t with
 |non=>rw[qo rs1.head];exact⟨_,rfl,fin _ q1⟩
 |bl b=>rw[oI rs1.head];exact⟨_,rfl,fin _ q1⟩
 |int i=>rw[aK rs1.head];exact⟨_,rfl,fin _ q1⟩
 |str x=>rw[kL rs1.head];exact⟨_,⟨q1.1,rfl⟩,fin _ q1.2⟩
 |tup ts=>exact sq _ _ rfl rfl q1
 |cst ts=>exact sq _ _ rfl rfl q1
 |lst o ts=>exact sq _ _ rfl rfl q1
 | _=>exact q1.elim
noncomputable def FW(ta tb:PB):PB:=fun env k=>ta env fun b env1=>cnd b (tb env1 k) (k false env1)
noncomputable def JB(ta tb:PB):PB:=fun env k=>ta env fun b env1=>cnd b (k true env1) (tb env1 k)
noncomputable def FH(ta:PB):PB:=fun env k=>ta env fun b env1=>k (!b) env1
variable{ta tb:PB}{rest:List Qx}
theorem jM(ha:GT X a ta):GW X (.BoolOp .And [a] pos) ta:=DB ha
theorem wZ(ha:GT X a ta):GW X (.BoolOp .Or [a] pos) ta:=Hm ha
theorem nV(ha:GT X a ta)(hb:GW X (.BoolOp .And (b::rest) pos) tb):GW X (.BoolOp .And (a::b::rest) pos) (FW ta tb):=by
 refine PW.imp (GQ ha hb) ?_;rintro σ H Q ⟨env,Fr,k,rs,q,c⟩;refine⟨env,Fr,_,rs,q,fun b env' H' q1 rs1=>ff ⟨fun e=>?_,fun e=>?_⟩⟩
 ·exact⟨env',Fr,k,rs1,q1.1 e,c⟩
 exact c _ _ _ (q1.2 e) rs1
theorem C1(ha:GT X a ta)(hb:GW X (.BoolOp .Or (b::rest) pos) tb):GW X (.BoolOp .Or (a::b::rest) pos) (JB ta tb):=by
 refine PW.imp (Jg ha hb) ?_;rintro σ H Q ⟨env,Fr,k,rs,q,c⟩;refine⟨env,Fr,_,rs,q,fun b env' H' q1 rs1=>ff ⟨fun e=>?_,fun e=>?_⟩⟩
 ·exact c _ _ _ (q1.1 e) rs1
 exact⟨env',Fr,k,rs1,q1.2 e,c⟩
theorem uP{f:PB}(h:GW X a f):GT X a f:=PW.pt h
theorem pO(ha:GT X a ta):GT X (.UnaryOp .Not a pos) (FH ta):=by refine PT.imp (Hl ha) ?_;rintro σ H Q ⟨env,Fr,k,rs,q,c⟩;exact⟨env,Fr,_,rs,q,fun b env' H' q1 rs1=>c _ _ _ q1 rs1⟩
noncomputable def IX(fa fb:PF):PF:=fun env k=>fa env fun t env1=>match t with
 | .bl b=>cnd b (fb env1 k) (k (.bl false) env1)
 | _=>False
noncomputable def J8(fa:PF):PF:=fun env k=>fa env fun t env1=>match t with
 | .bl b=>k (.bl (!b)) env1
 | _=>False
noncomputable def fIf(tc:PB)(fa fb:PF):PF:=fun env k=>tc env fun b env1=>cnd b (fa env1 k) (fb env1 k)
theorem IK{op}(h:GE X a fa):GE X (.BoolOp op [a] pos) fa:=Ir h
theorem Bj(ha:GE X a fa)(hb:GE X (.BoolOp .And (b::rest) pos) fb):GE X (.BoolOp .And (a::b::rest) pos) (IX fa fb):=by
 refine PE.imp (IF ha hb) ?_;rintro σ H Q ⟨env,Fr,k,rs,q,c⟩;refine⟨env,Fr,_,rs,q,fun t env' v H' q1 rs1=>?_⟩;cases t <;> first|exact q1.elim|skip
 rename_i bb;refine⟨bb,oI rs1.head,ff ⟨fun e=>?_,fun e=>?_⟩⟩
 ·exact⟨env',Fr,k,rs1.drop,q1.1 e,c⟩
 exact c _ _ _ _ (q1.2 e) (fm rs1.drop fun _=>.bl)
theorem HC(ha:GE X a fa):GE X (.UnaryOp .Not a pos) (J8 fa):=by
 refine PE.imp (II ha) ?_;rintro σ H Q ⟨env,Fr,k,rs,q,c⟩;refine⟨env,Fr,_,rs,q,fun t env' v H' q1 rs1=>?_⟩;cases t <;> first|exact q1.elim|skip
 rename_i bb;exact⟨bb,oI rs1.head,c _ _ _ _ q1 (fm rs1.drop fun _=>.bl)⟩
theorem ge_if(hc:GT X c ta)(ha:GE X a fa)(hb:GE X b fb):GE X (.IfExp c a b pos) (fIf ta fa fb):=by
 refine PE.imp (BZ hc ha hb) ?_;rintro σ H Q ⟨env,Fr,k,rs,q,c⟩;refine⟨env,Fr,_,rs,q,fun b env' H' q1 rs1=>ff ⟨fun e=>?_,fun e=>?_⟩⟩
 ·exact⟨env',Fr,k,rs1,q1.1 e,c⟩
 exact⟨env',Fr,k,rs1,q1.2 e,c⟩
noncomputable def HU:PFs:=fun env k=>k [] env
noncomputable def Fz(f:PF)(r:PFs):PFs:=fun env k=>f env fun t env1=>r env1 fun ts env2=>k (t::ts) env2
variable{es:List Qx}{fr:PFs}
theorem ag:GA X [] HU:=PA.imp lK fun σ H Q ⟨env,Fr,k,rs,q,c⟩=>c [] env [] H q rfl rs
theorem ab(ha:GE X a fa)(hr:GA X es fr)(hs:QA (a::es) X.env=(false,QO a X.env)::QA es X.env:=by rfl):GA X (a::es) (Fz fa fr):=by refine PA.imp (f9 ha hr hs) ?_;rintro σ H Q ⟨env,Fr,k,rs,q,c⟩;refine⟨env,Fr,_,rs,q,fun t env1 v H1 q1 rs1=>⟨env1,_,_,rs1,q1,fun ts env2 vs H2 q2 l rs2=>c _ _ _ _ q2 (by rw[h_,h_,l]) ?_⟩⟩;exact rs2.perm j_
noncomputable def JJ(fr:PFs):PF:=fun env k=>fr env fun ts env1=>ts.length<=sizeLine/\k (.tup ts) env1
noncomputable def K5(fr:PFs):PF:=fun env k=>fr env fun ts env1=>ts.length<=sizeLine/\k (.lst true ts) env1
theorem aD{x1}(h:GA X es fr):GE X (.Tuple es x1 pos) (JJ fr):=by refine PE.imp (EH h) ?_;rintro σ H Q ⟨env,Fr,k,rs,q,c⟩;refine⟨env,Fr,_,rs,q,fun ts env1 vs H1 ⟨z,q1⟩ l rs1=>⟨by rw[<-l];exact z,fun p H2 hp g e=>c _ _ _ _ q1 ?_⟩⟩;exact Rs.chg (Δ:=zz ts vs) (Δ':=[(.tup ts,some (.ref p))]) rs1 fun Γ r=>fu r l g e
theorem bh(h:GA X es fr):GE X (.List es pos) (K5 fr):=by refine PE.imp (DJ h) ?_;rintro σ H Q ⟨env,Fr,k,rs,q,c⟩;refine⟨env,Fr,_,rs,q,fun ts env1 vs H1 ⟨z,q1⟩ l rs1=>⟨by rw[<-l];exact z,fun p H2 hp g e=>c _ _ _ _ q1 ?_⟩⟩;exact Rs.chg (Δ:=zz ts vs) (Δ':=[(.lst true ts,some (.ref p))]) rs1 fun Γ r=>fk r l hp g e
end
open PySem PySem.Spec PyProof.Rows L2
mutual
def dt:T->Dt
 | .int i=>.int i
 | .bl b=>.bl b
 | .str x=>.str x
 | .tup ts=>.tup (dtL ts)
 | .cst ts=>.tup (dtL ts)
 | .lst _ ts=>.lst (dtL ts)
 | _=>.non
def dtL:List T->List Dt
 | []=>[]
 |t::r=>dt t::dtL r
end
mutual
def isD:T->Bool
 | .tup ts=>uK ts
 | .cst ts=>uK ts
 | .lst _ ts=>uK ts
 | .int _=>true
 | .bl _=>true
 | .str _=>true
 | .non=>true
 | _=>false
def uK:List T->Bool
 | []=>true
 |t::r=>isD t&&uK r
end
section
variable{K:Qg}
theorem F0{Hz H:Hp}(g:Gr Hz H):(∀{t v L},RepT K Hz H t v L->isD t=true->Has K H (dt t) v)/\(∀{t v L},RepTs K Hz H t v L->uK t=true->bY K H (dtL t) v)/\(∀{t v L},RepKs K Hz H t v L->True)/\(∀{t v L},RepXs K Hz H t v L->True):=
 jz (P:=fun t v L=>isD t=true->Has K H (dt t) v) (Ps:=fun t v L=>uK t=true->bY K H (dtL t) v) (Pk:=fun t v L=>True) (Px:=fun t v L=>True)
  (fun n=>nomatch n) (fun n=>nomatch n) (fun _ _ n=>nomatch n) (fun _ n=>nomatch n) (fun _=>by show Has K H .non .non;rw[Has]) (fun _=>by rw[dt,Has]) (fun _=>by rw[dt,Has]) (fun _=>by rw[dt,Has]) (fun n=>nomatch n)
  (fun h c n=>by rw[dt,Has];exact⟨_,_,rfl,SqT.of h,c (by rw[isD]at n;exact n)⟩) (fun h c n=>by rw[dt,Has];exact⟨_,_,rfl,zt h H,c (by rw[isD]at n;exact n)⟩)
  (fun h c n=>by rw[dt,Has];exact⟨_,_,rfl,SqL.of h,c (by rw[isD]at n;exact n)⟩) (fun h c n=>by rw[dt,Has];exact⟨_,_,rfl,.inl (g _ _ h),c (by rw[isD]at n;exact n)⟩)
  (fun _ _ n=>nomatch n) (fun _ _ n=>nomatch n) (fun _ _ n=>nomatch n) (fun _ _ n=>nomatch n)
  (fun _=>by rw[dtL];exact vW) (fun i j n=>by rw[uK,Lz]at n;rw[dtL];exact rq (i n.1) (j n.2)) trivial (fun _ _=>trivial) trivial (fun _ _=>trivial)
theorem RepT.has {Hz H:Hp}(g:Gr Hz H){t:T}{v:V}{L:List Qh}(n:isD t=true)(h:RepT K Hz H t v L):Has K H (dt t) v:=(F0 g).1 h n
theorem Eu{t:T}(h:isD t=true):isAny t=false:=by cases t <;> first|rfl|cases h
theorem tH{H:Hp}{Γ:Fm}{t:T}{y:V}(h:Rp K H ((t,some y)::Γ))(n:isD t=true):Has K H (dt t) y:=by obtain⟨Hz,L,r,g⟩:=fq h (Eu n);exact r.has g n
end
noncomputable def Hs:P2
 | .int i,.int j,k=>k (.int (i+j))
 | .str x,.str y,k=>x.length+y.length<=sizeLine/\k (.str (x++y))
 | .lst _ ts,.lst _ us,k=>ts.length+us.length<=sizeLine/\k (.lst true (ts++us))
 | .tup ts,.tup us,k=>ts.length+us.length<=sizeLine/\k (.tup (ts++us))
 | _,_,_=>False
noncomputable def JO:P2
 | .int i,.int j,k=>k (.int (i-j))
 | _,_,_=>False
noncomputable def J9:P2
 | .int i,.int j,k=>vB i j/\k (.int (i*j))
 | _,_,_=>False
noncomputable def K9:P2
 | .int i,.int j,k=>E6 i j/\k (.int (i/j))
 | _,_,_=>False
noncomputable def EA(p:Int->Int->Bool):P2
 | .int i,.int j,k=>k (.bl (p i j))
 | _,_,_=>False
noncomputable def ltT:P2:=EA fun i j=>decide (i<j)
noncomputable def leT:P2:=EA fun i j=>decide (i<=j)
noncomputable def gtT:P2:=EA fun i j=>decide (j<i)
noncomputable def geT:P2:=EA fun i j=>decide (j<=i)
noncomputable def isV:T->Bool
 | .any=>false
 | .hole _=>false
 | .bare=>false
 | .kp _=>false
 | _=>true
noncomputable def og:T->Bool
 | .non=>true
 | _=>false
noncomputable def Kd:P2
 |t,.non,k=>isV t=true/\k (.bl (og t))
 | _,_,_=>False
noncomputable def Gf:P2
 |t,.non,k=>isV t=true/\k (.bl (!og t))
 | _,_,_=>False
noncomputable def eqT:P2:=fun t u k=>isD t=true/\isD u=true/\dpt (dt t)<190/\k (.bl (eqD (dt t) (dt u)))
noncomputable def neT:P2:=fun t u k=>isD t=true/\isD u=true/\dpt (dt t)<190/\k (.bl (!eqD (dt t) (dt u)))
section
variable{X:Cx}
theorem zR{f:Qf->Qf->Sem Qf}{C:Int->Int->Prop}{r:Int->Int->T}{r':Int->Int->V}(h:OpR X f (rI C r'))(hr:∀i j K Hz H,RepT K Hz H (r i j) (r' i j) []):OpP X f (fun t u k=>match t,u with | .int i,.int j=>C i j/\k (r i j) | _,_=>False):=by
 refine .of h ?_;intro tx ty x y H Γ k Q rp g c;cases tx <;> cases ty <;> first|exact g.elim|skip
 rename_i i j;rw[aK rp,aK rp.tail];exact⟨i,j,rfl,rfl,g.1,c _ _ _ g.2 (bN rp.tail.tail fun Hz=>hr i j _ _ _)⟩
theorem iY{f:Qf->Qf->Sem Qf}{r:Int->Int->T}{r':Int->Int->V}(h:OpR X f (rI0 r'))(hr:∀i j K Hz H,RepT K Hz H (r i j) (r' i j) []):OpP X f (fun t u k=>match t,u with | .int i,.int j=>k (r i j) | _,_=>False):=by
 refine .of h ?_;intro tx ty x y H Γ k Q rp g c;cases tx <;> cases ty <;> first|exact g.elim|skip
 rename_i i j;rw[aK rp,aK rp.tail];exact⟨i,j,rfl,rfl,c _ _ _ g (bN rp.tail.tail fun Hz=>hr i j _ _ _)⟩
theorem OpP.imp {f:Qf->Qf->Sem Qf}{g g':P2}(h:OpP X f g)(k:∀tx ty k,g' tx ty k->g tx ty k):OpP X f g':=OpR.imp h fun x y H Q ⟨tx,ty,Γ,kk,rp,gg,c⟩=>⟨tx,ty,Γ,kk,rp,k _ _ _ gg,c⟩
theorem Inv.Ke {pins:List (Qh×Obj)}{σ:L2.St}{H:Hp}{s:Qi}{l:Qh}{xs:List V}(I:Inv X pins σ H s)(hH:Rd H l (.lst xs)):xs.length<=sizeLine/\∃(its:List Qf) (n:Nat),Vals xs its/\xs.length=its.length/\s.heap.get? l=some { cls:=.type "list",data:=.seq its.toArray n}:=by obtain⟨z,its,n,r,e⟩:=hH.ok I.hok;exact⟨z,its,n,r,r.length,e⟩
theorem Em:OpR X (Ro .Add) (fun x y H Q=>∃l b xs zs,x=.ref l/\y=.ref b/\Rd H l (.lst xs)/\Rd H b (.lst zs)/\xs.length+zs.length<=sizeLine/\New (.lst (xs++zs)) H Q):=by
 intro pins s σ H x y v u Q I rx ry h;obtain⟨l,b,xs,zs,rfl,rfl,hH,hB,hz,q⟩:=h;cases rx;cases ry;obtain⟨z,its,n,r,hl,e⟩:=Inv.Ke I hH;obtain⟨z2,its2,n2,r2,hl2,e2⟩:=Inv.Ke I hB;refine PySem.P.add_list e e2 ?_ (by rw[r_,r_];lia);have ea:its.toArray++its2.toArray=(its++its2).toArray:=by simp
 rw[ea];exact⟨.ref _,_,I.Lh (t':=s.toks) (r.append r2) (by rw[f'];omega),rfl,q.at I.fresh⟩
theorem oY{K:Qg}{H:Hp}{Γ:Fm}{o:Bool}{ts:List T}{y:V}(h:Rp K H ((.lst o ts,some y)::Γ)):∃a vs,y=.ref a/\Rd H a (.lst vs)/\ts.length=vs.length/\Rp K H (zz ts vs++Γ):=by
 obtain⟨Hz,N,h,nd,g,d⟩:=h;cases h with
 |cons e1 h c=>
  rcases h with⟨z,_⟩|⟨v,e2,h⟩
  ·cases z
  cases e2;cases h
  ·rename_i a vs L h c1;rw[e1,LN,F']at nd;exact⟨a,vs,rfl,.inl h,c1.len,Hz,_,c1.toL.app c,nd.2,g,fun b m=>d b (by rw[e1,LN];exact l_ _ m)⟩
  rename_i a vs h c1;exact⟨a,vs,rfl,g _ _ h,c1.len,Hz,_,c1.toL.app c,by rw[<-e1];exact nd,g,fun b m=>d b (by rw[e1];exact m)⟩
theorem oV{K:Qg}{H:Hp}{Γ:Fm}{ts:List T}{y:V}(h:Rp K H ((.tup ts,some y)::Γ)):∃a vs,y=.ref a/\H a=some (.tup vs)/\ts.length=vs.length/\Rp K H (zz ts vs++Γ):=by
 obtain⟨Hz,N,h,nd,g,d⟩:=h;cases h with
 |cons e1 h c=>
  rcases h with⟨z,_⟩|⟨v,e2,h⟩
  ·cases z
  cases e2;cases h with
  |tup h c1=>exact⟨_,_,rfl,h,c1.len,Hz,_,c1.toL.app c,by rw[<-e1];exact nd,g,fun b m=>d b (by rw[e1];exact m)⟩
theorem lh{ts us:List T}{vs ws:List V}(l:ts.length=vs.length):zz (ts++us) (vs++ws)=zz ts vs++zz us ws:=by show(ts++us).zip ((vs++ws).map some)=_;rw[q_,PC (by rw[a_];exact l)]
theorem Fl:OpR X (Ro .Add) (fun x y H Q=>∃a b ys,x=.ref a/\y=.ref b/\SqT X.K H a []/\SqT X.K H b ys/\Q (.ref b) H):=by
 intro pins s σ H x y v u Q I rx ry h;obtain⟨a,b,ys,rfl,rfl,ha,hb,q⟩:=h;cases rx;cases ry;obtain⟨its,r1,p1,_⟩:=I.tuple ha;obtain⟨its2,r2,p2,_⟩:=I.tuple hb;cases r1;obtain⟨⟨cls,dd,data,sl⟩,ho,hc,n,hd⟩:=id p1;obtain⟨⟨cls2,dd2,data2,sl2⟩,ho2,hc2,n2,hd2⟩:=id p2;simp only at hc hd hc2 hd2;subst hc hd hc2 hd2;exact U5 ⟨_,ho,rfl⟩ ⟨_,ho2,rfl⟩ T6 UT SX SO (SF _ _)
  (tuple_addW0 a b _ its2.toArray n n2 dd dd2 sl sl2 (by simp)) ⟨ho,ho2,⟨.ref b,H,I,rfl,q⟩⟩
theorem az:OpP X (Ro .Add) Hs:=by
 rintro pins s σ H x y v u Q I rx ry ⟨tx,ty,Γ,k,rp,g,c⟩;cases tx <;> cases ty <;> first|exact QC g|skip
 ·rename_i i j;rw[aK rp]at ry;rw[aK rp.tail]at rx;exact pS pins s σ H _ _ v u Q I rx ry ⟨i,j,rfl,rfl,c _ _ _ g (bN rp.tail.tail fun _=>.int)⟩
 ·rename_i i j;rw[kL rp]at ry;rw[kL rp.tail]at rx;exact xa pins s σ H _ _ v u Q I rx ry ⟨i,j,rfl,rfl,g.1,c _ _ _ g.2 (bN rp.tail.tail fun _=>.str)⟩
 ·rename_i ts us;obtain⟨b,ws,rfl,hb,lb,rp2⟩:=oV rp;obtain⟨a,vs,rfl,ha,la,rp3⟩:=oV (rp2.perm j_);have lz:vs.length+ws.length<=sizeLine:=by rw[<-la,<-lb];exact g.1
  have rp4:Rp X.K H (zz (ts++us) (vs++ws)++Γ):=by rw[lh la,k_];exact rp3
  by_cases hx:vs=[]
  ·subst hx;refine Fl pins s σ H _ _ v u Q I rx ry ⟨a,b,ws,rfl,rfl,SqT.of ha,SqT.of hb,?_⟩;refine c _ _ _ g.2 (fu rp4 (by rw[f',f',la,lb]) .ck ?_);rw[NX];exact hb
  refine EV pins s σ H _ _ v u Q I rx ry ⟨a,b,vs,ws,rfl,rfl,SqT.of ha,SqT.of hb,hx,lz,fun e=>?_,fun _ p hp=>c _ _ _ g.2 (fu rp4 (by rw[f',f',la,lb]) (bF hp _) aN)⟩;refine c _ _ _ g.2 (fu rp4 (by rw[f',f',la,lb]) .ck ?_);rw[e,E_];exact ha
 rename_i o ts o' us;obtain⟨b,ws,rfl,hb,lb,rp2⟩:=oY rp;obtain⟨a,vs,rfl,ha,la,rp3⟩:=oY (rp2.perm j_);have lz:vs.length+ws.length<=sizeLine:=by rw[<-la,<-lb];exact g.1
 have rp4:Rp X.K H (zz (ts++us) (vs++ws)++Γ):=by rw[lh la,k_];exact rp3
 exact Em pins s σ H _ _ v u Q I rx ry ⟨a,b,vs,ws,rfl,rfl,ha,hb,lz,fun p H' hp g' e=>c _ _ _ g.2 (fk rp4 (by rw[f',f',la,lb]) hp g' e)⟩
theorem bJ:OpP X (Ro .Sub) JO:=(iY (r:=fun i j=>.int (i-j)) Gm fun _ _ _ _ _=>.int).imp fun tx ty k g=>by cases tx <;> cases ty <;> exact g
theorem aU:OpP X (Ro .Mult) J9:=(zR (r:=fun i j=>.int (i*j)) lQ fun _ _ _ _ _=>.int).imp fun tx ty k g=>by cases tx <;> cases ty <;> exact g
theorem E9:OpP X (Ro .FloorDiv) K9:=(zR (r:=fun i j=>.int (i/j)) yP fun _ _ _ _ _=>.int).imp fun tx ty k g=>by cases tx <;> cases ty <;> exact g
theorem Ha:OpP X (Q0 .Lt) ltT:=(iY (r:=fun i j=>.bl (decide (i<j))) Jn fun _ _ _ _ _=>.bl).imp fun tx ty k g=>by cases tx <;> cases ty <;> exact g
theorem nW:OpP X (Q0 .LtE) leT:=(iY (r:=fun i j=>.bl (decide (i<=j))) K7 fun _ _ _ _ _=>.bl).imp fun tx ty k g=>by cases tx <;> cases ty <;> exact g
theorem tP:OpP X (Q0 .Gt) gtT:=(iY (r:=fun i j=>.bl (decide (j<i))) Ku fun _ _ _ _ _=>.bl).imp fun tx ty k g=>by cases tx <;> cases ty <;> exact g
theorem Gv:OpP X (Q0 .GtE) geT:=(iY (r:=fun i j=>.bl (decide (j<=i))) Gg fun _ _ _ _ _=>.bl).imp fun tx ty k g=>by cases tx <;> cases ty <;> exact g
theorem FD{k:Nat}{A:QE}(r:Room k A){n:Nat}(h:n<190):A.units+n<cLine:=by have:=r.un;lia
theorem bV{k:Nat}(hr:Room k X.A):OpP X (Q0 .Eq) eqT:=.of C4 fun tx ty x y H Γ k Q rp ⟨d1,d2,z,g⟩ c=>
 ⟨dt tx,dt ty,tH rp.tail d1,tH rp d2,FD hr z,c _ _ _ g (bN rp.tail.tail fun _=>.bl)⟩
theorem Dj{k:Nat}(hr:Room k X.A):OpP X (Q0 .NotEq) neT:=.of He fun tx ty x y H Γ k Q rp ⟨d1,d2,z,g⟩ c=>
 ⟨dt tx,dt ty,tH rp.tail d1,tH rp d2,FD hr z,c _ _ _ g (bN rp.tail.tail fun _=>.bl)⟩
theorem yW{K:Qg}{H:Hp}{Γ:Fm}{t:T}{x:V}(rp:Rp K H ((t,some x)::Γ))(n:isV t=true):decide (x=.non)=og t:=by obtain⟨Hz,L,r,g⟩:=fq rp (by cases t <;> first|rfl|cases n);cases r <;> first|rfl|cases n
theorem uf:OpP X (Q0 .Is) Kd:=.of Gu fun tx ty x y H Γ k Q rp g c=>by
 cases ty <;> first|exact QC g|skip
 refine⟨qo rp,?_⟩;rw[yW rp.tail g.1];exact c _ _ _ g.2 (bN rp.tail.tail fun _=>.bl)
theorem BJ:OpP X (Q0 .IsNot) Gf:=.of DU fun tx ty x y H Γ k Q rp g c=>by
 cases ty <;> first|exact QC g|skip
 refine⟨qo rp,?_⟩;rw[yW rp.tail g.1];exact c _ _ _ g.2 (bN rp.tail.tail fun _=>.bl)
end
open PySem PySem.Spec PyProof.Rows L2
noncomputable def xT:T->Option Key
 | .int i=>some (.inl i)
 | .str x=>some (.inr x)
 | .non=>some (.inr none)
 | _=>none
noncomputable def oO:List T->Option (List Key)
 | []=>some []
 |t::r=>match xT t,oO r with
  |some k,some ks=>some (k::ks)
  | _,_=>none
section
variable{κ:Type}[DecidableEq κ]
noncomputable def Cs(kvs:List (κ×T))(k:κ):Option T:=(kvs.find? fun kv=>decide (kv.1=k)).map (·.2)
noncomputable def nu(kvs:List (κ×T))(k:κ)(v:T):List (κ×T):=
 if(kvs.any fun kv=>decide (kv.1=k))=true then kvs.map (fun kv=>if kv.1=k then(kv.1,v)else kv)else kvs++[(k,v)]
theorem nY:∀{ts:List (κ×T)}{vs:List (κ×V)}{q:κ}{u:T},ts.map (·.1)=vs.map (·.1)->Cs ts q=some u->∃(w:V) (i:Nat),eO vs q=some w/\(ts.map (·.2))[i]?=some u/\(vs.map (·.2))[i]?=some w
 | [],vs,q,u,e,h=>by cases h
 | (k,t)::ts,[],q,u,e,h=>by cases e
 | (k,t)::ts,(k',v)::vs,q,u,e,h=>by
  rw[g_,g_,Mw]at e;have e0:k=k':=e.1;subst e0;unfold Cs at h;rw[Mc]at h;unfold eO;rw[Mc];by_cases hk:k=q
  ·have hk':decide (k=q)=true:=decide_eq_true hk;rw[show decide ((k,t).1=q)=true from hk']at h;rw[show decide ((k,v).1=q)=true from hk'];cases h;exact⟨v,0,rfl,rfl,rfl⟩
  have hk':decide (k=q)=false:=decide_eq_false hk;rw[show decide ((k,t).1=q)=false from hk']at h;rw[show decide ((k,v).1=q)=false from hk'];obtain⟨w,i,h1,h2,h3⟩:=nY (ts:=ts) (vs:=vs) e.2 h;exact⟨w,i+1,h1,by simpa using h2,by simpa using h3⟩
end
section
variable{K:Qg}{H:Hp}{Γ:Fm}
theorem CD{o:Bool}{ts:List (Key×T)}{y:V}(h:Rp K H ((.dK o ts,some y)::Γ)):∃a vs,y=.ref a/\Rd H a (.dK vs)/\ts.map (·.1)=vs.map (·.1)/\Rp K H (zz (ts.map (·.2)) (vs.map (·.2))++Γ):=by
 obtain⟨Hz,N,h,nd,g,d⟩:=h;cases h with
 |cons e1 h c=>
  rcases h with⟨z,_⟩|⟨v,e2,h⟩
  ·cases z
  cases e2;cases h
  ·rename_i a vs L h c1;obtain⟨ek,c2⟩:=c1.toL;rw[e1,LN,F']at nd;exact⟨a,vs,rfl,.inl h,ek,Hz,_,c2.toL.app c,nd.2,g,fun b m=>d b (by rw[e1,LN];exact l_ _ m)⟩
  rename_i a vs h c1;obtain⟨ek,c2⟩:=c1.toL;exact⟨a,vs,rfl,g _ _ h,ek,Hz,_,c2.toL.app c,by rw[<-e1];exact nd,g,fun b m=>d b (by rw[e1];exact m)⟩
theorem tM{o:Bool}{ts:List (List Key×T)}{y:V}(h:Rp K H ((.dT o ts,some y)::Γ)):∃a vs,y=.ref a/\Rd H a (.dT vs)/\ts.map (·.1)=vs.map (·.1)/\Rp K H (zz (ts.map (·.2)) (vs.map (·.2))++Γ):=by
 obtain⟨Hz,N,h,nd,g,d⟩:=h;cases h with
 |cons e1 h c=>
  rcases h with⟨z,_⟩|⟨v,e2,h⟩
  ·cases z
  cases e2;cases h
  ·rename_i a vs L h c1;obtain⟨ek,c2⟩:=c1.toL;rw[e1,LN,F']at nd;exact⟨a,vs,rfl,.inl h,ek,Hz,_,c2.toL.app c,nd.2,g,fun b m=>d b (by rw[e1,LN];exact l_ _ m)⟩
  rename_i a vs h c1;obtain⟨ek,c2⟩:=c1.toL;exact⟨a,vs,rfl,g _ _ h,ek,Hz,_,c2.toL.app c,by rw[<-e1];exact nd,g,fun b m=>d b (by rw[e1];exact m)⟩
theorem ya{t:T}{k:Key}{y:V}(e:xT t=some k)(h:Rp K H ((t,some y)::Γ)):y=kV k:=by
 cases t <;> cases e
 ·rw[qo h];rfl
 ·rw[aK h];rfl
 rw[kL h];rfl
theorem BU{Hz:Hp}{t:T}{k:Key}{v:V}{L:List Qh}(e:xT t=some k)(h:RepT K Hz H t v L):v=kV k:=by
 cases t <;> cases e
 ·cases h;rfl
 ·cases h;rfl
 cases h;rfl
theorem rD{Hz:Hp}:∀{ts:List T}{ks:List Key}{vs:List V}{L:List Qh},oO ts=some ks->RepTs K Hz H ts vs L->vs=ks.map kV
 | [],ks,_,_,e,r=>by cases r;cases e;rfl
 |t::ts,ks,_,_,e,r=>by
  cases r with
  |cons _ h c=>
   rw[oO]at e;split at e
   ·rename_i k r e1 e2;cases e;rw[BU e1 h,rD e2 c]
    rfl
   cases e
theorem yF{ts:List T}{ks:List Key}{y:V}(e:oO ts=some ks)(h:Rp K H ((.tup ts,some y)::Γ)):∃b,y=.ref b/\H b=some (.tup (ks.map kV)):=by
 obtain⟨Hz,L,r,g⟩:=fq h rfl;cases r with
 |tup h1 c1=>exact⟨_,rfl,by rw[h1,rD e c1]⟩
end
noncomputable def ixT:P2
 | .tup ts,.int i,k=>got (atI ts i) k
 | .cst ts,.int i,k=>got (atI ts i) k
 | .lst _ ts,.int i,k=>got (atI ts i) k
 | .str x,.int i,k=>x.length<=sizeLine/\got (atI x.cps.toList i) fun c=>k (.str ⟨#[c]⟩)
 | .dK _ kvs,y,k=>got (xT y) fun q=>got (Cs kvs q) k
 | .dT _ kvs,.tup ts,k=>got (oO ts) fun q=>got (Cs kvs q) k
 | _,_,_=>False
section
variable{X:Cx}
theorem zk(hu:X.A.units+1<cLine):IxR X (fun x y H Q=>∃a v,x=.ref a/\oP H a y (some v)/\Q v H):=by
 intro value slice pins s σ H x y v u Q I rx ry h hs;obtain⟨a,z,rfl,g,q⟩:=h;cases rx;have hT:=oz I g;unfold S4;refine Qe ?_;rw[Uz hT.not_modules];refine Qe (Uj hT TV.lookup ?_);have fin:Qn (Qs X.prog X.w) X.A (Tw slice false (.ref a) u) (fun r s₃=>Qn (Qs X.prog X.w) X.A (V8 value (.ref a) r >>= fun _=>pure r) (EP X pins σ Q) X.xe s₃) X.xe s:=by rw[hs];refine VM (rP hu I g ry fun w' s' I' r'=>Qe (UN (Qj ⟨z,H,I',r',q⟩)))
 first
  |exact Qj (Qe fin)
  |exact Qe (Qj (Qe fin))
  |exact Qe fin
theorem KP{kr:Nat}(hr:Room kr X.A):IxR X (w2 X.K ixT):=by
 rintro value slice pins s σ H x y v u Q I rx ry ⟨tx,ty,Γ,k,rp,g,c⟩ hs;have sq:∀ts i,items tx=some ts->ty=.int i->got (atI ts i) k->Qn (Qs X.prog X.w) X.A (S4 value slice v u) (EP X pins σ Q) X.xe s:=fun ts i e1 e2 g=>by obtain⟨t,et,kt⟩:=aF g;subst e2;rw[aK rp]at ry;obtain⟨a,vs,rfl,hq,l,rp2⟩:=aC e1 rp.tail;obtain⟨w,ew,rp3⟩:=BX l et rp2;exact L3 value slice pins s σ H _ _ v u Q I rx ry ⟨_,a,vs,i,w,rfl,rfl,hq,ew,c _ _ _ kt rp3⟩ hs
 cases tx with
 |tup ts=>cases ty <;> first|exact QC g|exact sq _ _ rfl rfl g
 |cst ts=>cases ty <;> first|exact QC g|exact sq _ _ rfl rfl g
 |lst o ts=>cases ty <;> first|exact QC g|exact sq _ _ rfl rfl g
 |str z=>
  cases ty <;> first|exact QC g|skip
  rename_i i;obtain⟨hz,g⟩:=g;obtain⟨t,et,kt⟩:=aF g;rw[aK rp]at ry;rw[kL rp.tail]at rx;exact CA value slice pins s σ H _ _ v u Q I rx ry ⟨z,i,t,rfl,rfl,hz,et,c _ _ _ kt (bN rp.tail.tail fun _=>.str)⟩ hs
 |dK o kvs=>
  have g:got (xT ty) fun q=>got (Cs kvs q) k:=by cases ty <;> exact g
  obtain⟨q,eq,g⟩:=aF g;obtain⟨t,et,kt⟩:=aF g;rw[ya eq rp]at ry;obtain⟨a,vs,rfl,hq,ek,rp2⟩:=CD rp.tail;obtain⟨w,i,ew,e1,e2⟩:=nY ek et;exact zk (rm hr) value slice pins s σ H _ _ v u Q I rx ry ⟨a,w,rfl,.inl ⟨vs,q,hq,rfl,ew.symm⟩,c _ _ _ kt (jC rp2 e1 e2)⟩ hs
 |dT o kvs=>
  cases ty <;> first|exact QC g|skip
  rename_i ts;obtain⟨q,eq,g⟩:=aF g;obtain⟨t,et,kt⟩:=aF g;obtain⟨b,rfl,hb⟩:=yF eq rp;obtain⟨a,vs,rfl,hq,ek,rp2⟩:=tM rp.tail;obtain⟨w,i,ew,e1,e2⟩:=nY ek et;exact zk (rm hr) value slice pins s σ H _ _ v u Q I rx ry ⟨a,w,rfl,.inr ⟨vs,q,b,hq,rfl,hb,ew.symm⟩,c _ _ _ kt (jC rp2 e1 e2)⟩ hs
 | _=>cases ty <;> exact QC g
theorem ay{kr:Nat}{a b:Qx}{fa fb:PF}{pos:Pos}(hr:Room kr X.A)(ha:GE X a fa)(hb:GE X b fb)(hs:yJ b:=by intro _ _;rfl):GE X (.Subscript a b pos) (Aa ixT fa fb):=PE.imp (G7 (KP hr) ha hb hs) y0
noncomputable def fUn(g:T->(T->Prop)->Prop)(fa:PF):PF:=fun env k=>fa env fun t env1=>g t fun u=>k u env1
noncomputable def Kv:T->(T->Prop)->Prop
 | .int i,k=>k (.int (-i))
 | _,_=>False
theorem cn{a:Qx}{fa:PF}{pos:Pos}(ha:GE X a fa):GE X (.UnaryOp .USub a pos) (fUn Kv fa):=by
 refine PE.imp (Ki HJ ha) ?_;rintro σ H Q ⟨env,Fr,k,rs,q,c⟩;refine⟨env,Fr,_,rs,q,fun t env1 v H1 q1 rs1=>?_⟩;cases t <;> first|exact QC q1|skip
 rename_i i;exact⟨i,aK rs1.head,c _ _ _ _ q1 (fm rs1.drop fun _=>.int)⟩
end
open PySem PySem.Spec PyProof.Rows L2
abbrev P1s:=List T->(T->Prop)->Prop
noncomputable def w1s(K:Qg)(g:P1s):List V->Hp->VK->Prop:=fun xs H Q=>∃ts Γ k,ts.length=xs.length/\Rp K H (zz ts xs++Γ)/\g ts k/\∀t v H',k t->Rp K H' ((t,some v)::Γ)->Q v H'
noncomputable def iO(X:Cx)(f:Qf)(g:P1s):Prop:=bE X f (w1s X.K g)
noncomputable def fCl(g:P1s)(fr:PFs):PF:=fun env k=>fr env fun ts env1=>g ts fun t=>k t env1
section
variable{X:Cx}{e:Qx}{es:List Qx}{fr:PFs}{pos p:Pos}{x:Str}{g:P1s}
theorem FI:∀ σ H Q,wE X.K (fCl g fr) σ H Q->tCB (w1s X.K g) (wA X.K fr) σ H Q:=by rintro σ H Q ⟨env,Fr,k,rs,q,c⟩;refine⟨env,Fr,_,rs,q,fun ts env1 vs H1 q1 l rs1=>?_⟩;refine⟨ts,env1.zip σ++Fr,_,l,?_,q1,fun t v H' kt rp=>c _ _ _ _ kt (.of rs1.1 rp)⟩;refine rs1.2.perm ?_;rw[<-k_,<-k_];exact Md.append_right _
theorem aA{id:String}(hc:iO X (.builtin id) g)(hg:Gl X x)(hm:X.mg x=none)(hv:RL x=some (.builtin id))(ha:GA X (e::es) fr)(hn:x≠"__name__":=by decide)(hdb:(x ==("__debug__":Str))=false:=by decide)
  (he:QA (e::es) X.env=(false,QO e X.env)::QA es X.env:=by rfl) (hpl:(Si pos (QA es X.env)).any (·.1)=false:=by rfl):GE X (.Call (.Name x p) (e::es) [] pos) (fCl g fr):=PE.imp (qm hc hg hm hv ha hn hdb he hpl) FI
theorem bH{id:String}(hc:iO X (.type id) g)(hg:Gl X x)(hm:X.mg x=none)(hv:RL x=some (.type id))(ha:GA X (e::es) fr)(hn:x≠"__name__":=by decide)(hdb:(x ==("__debug__":Str))=false:=by decide)
  (he:QA (e::es) X.env=(false,QO e X.env)::QA es X.env:=by rfl) (hpl:(Si pos (QA es X.env)).any (·.1)=false:=by rfl):GE X (.Call (.Name x p) (e::es) [] pos) (fCl g fr):=PE.imp (rF hc hg hm hv ha hn hdb he hpl) FI
end
section
variable{X:Cx}
theorem zz1{ts:List T}{xs:List V}{t:T}(l:ts.length=xs.length)(e:ts=[t]):∃x,xs=[x]:=by
 subst e;rcases xs with _|⟨x,_|⟨y,xs⟩⟩
 ·cases l
 ·exact⟨x,rfl⟩
 cases l
theorem zz2{ts:List T}{xs:List V}{t u:T}(l:ts.length=xs.length)(e:ts=[t,u]):∃x y,xs=[x,y]:=by
 subst e;rcases xs with _|⟨x,xs⟩
 ·cases l
 obtain⟨y,rfl⟩:=zz1 (ts:=[u]) (MQ l) rfl;exact⟨x,y,rfl⟩
theorem zz3{ts:List T}{xs:List V}{t u w:T}(l:ts.length=xs.length)(e:ts=[t,u,w]):∃x y z,xs=[x,y,z]:=by
 subst e;rcases xs with _|⟨x,xs⟩
 ·cases l
 obtain⟨y,z,rfl⟩:=zz2 (ts:=[u,w]) (MQ l) rfl;exact⟨x,y,z,rfl⟩
theorem xM{prog:Qv}{w:Qy}(d:Qh)(nd:(d == Q9)=false) :
  MeetsIn prog w (Rt.«dict.__len__» ⟨[.ref d],[]⟩) (fun _ R s=>∃o es ep,s.heap.get? d=some o/\o.data=.dict es ep/\R (.ok (.ret (.int es.size s.toks))) {s with toks:=s.toks+1}):=
 .of_wp fun A R s ⟨o,es,ep,ho,hdat,q⟩=>by show Qn _ _ (dictSize d >>= _) _ _ s;unfold dictSize;refine Qe (Qe (SR ho hdat (Qj ?_)));show Qn _ _ (WE d >>= _) _ _ s;exact Qe (wpAny_pendingCount_other nd (wpAny_ret_mkInt (by rw[NW];exact q)))
theorem ET{prog:Qv}{w:Qy}{A:QE}{E:Qf->Qi->Prop}{s:Qi}{d:Qh}{o:Obj}{es:Array R_}{ep:Nat}{Q:Qf->Qi->Prop}(nd:(d == Q9)=false)(ho:s.heap.get? d=some o)(hc:o.ExactDict)(hdat:o.data=.dict es ep)
  (fit:(es.size:Int)<2 ^ 63) (q:∀t tk,Q (.int es.size t) {s with toks:=tk}):Qn (Qs prog w) A (call (.builtin "len") [.ref d]) Q E s:=by
 have ty:s.TypeIs (.ref d) "dict":=⟨_,ho,hc.1⟩;refine SD kind_len plain_len entry_len (args_len1 _) ?_;unfold Rt.«len»;refine Qe (m:=oneArg "len" _) (Qj ?_);refine Qe (m:=callSpecial? (.ref d) (Ra "__len__")) (QW (name:=Ra "__len__") ty UE
  (call_meetsIn UE ty PySem.F.entry_dict_len (PySem.F.args_dict_len_1 _) (xM d nd) ⟨o,es,ep,ho,hdat,?_⟩))
 show Qn _ _ _ _ _ {s with toks:=s.toks+1};refine Qe (QK (Qj (Qe (Uv ?_))));show Qn _ _ (if((es.size:Nat):Int)<0 then _ else _) _ _ _;rw[if_neg (by lia)];show Qn _ _ (if((es.size:Nat):Int)>=2 ^ 63 then _ else _) _ _ _;rw[if_neg (by lia)];exact Qe (W9 (Qj ⟨_,rfl,q _ _⟩))
theorem Hu{pins:List (Qh×Obj)}{σ:L2.St}{H:Hp}{s:Qi}{a:Qh}{kvs:List (List Key×V)}{Q:Qf->Qi->Prop}{E:Qf->Qi->Prop}(I:Inv X pins σ H s)(e:Rd H a (.dT kvs))(q:∀t s',Inv X pins σ H s'->Q (.int kvs.length t) s'):Qn (Qs X.prog X.w) X.A (call (.builtin "len") [.ref a]) Q E s:=by
 obtain⟨z,hd,xs,rel,o,es,ep,h1,h2,h3,h4,_⟩:=yN I.hok e;have hs:es.size=kvs.length:=by have:=congrArg N9 h4;rw[a_]at this;rw[<-gV,this];exact(RE rel).symm
 refine ET hd h1 h2 h3 (by rw[sizeLine_eq]at z;lia) fun t tk=>?_
 rw[hs];exact q _ _ (I.tok _)
noncomputable def Dv:P1s
 | [t],k=>match t with
  | .str x=>x.length<=sizeLine/\k (.int x.length)
  | .dK _ kvs=>k (.int kvs.length)
  | .dT _ kvs=>k (.int kvs.length)
  |t=>got (items t) fun ts=>k (.int ts.length)
 | _,_=>False
theorem bG:iO X (.builtin "len") Dv:=by
 rintro pins s σ H xs us Q I r ⟨ts,Γ,k,l,rp,g,c⟩
 match ts,l,g with
 | [t],l,g=>
  obtain⟨x,rfl⟩:=zz1 l rfl;have rp:Rp X.K H ((t,some x)::Γ):=rp;have sq:(got (items t) fun ts=>k (.int ts.length))->Qn (Qs X.prog X.w) X.A (call (.builtin "len") us) (EP X pins σ Q) X.xe s:=fun g=>by obtain⟨us',e,kt⟩:=aF g;obtain⟨a,vs,rfl,hq,l2,rp2⟩:=aC e rp;rw[l2]at kt;exact Ap pins s σ H _ us Q I r ⟨_,a,vs,rfl,hq,c _ _ _ kt (bN rp.tail fun _=>.int)⟩
  cases t with
  |str z=>
   rw[kL rp]at r;exact tE pins s σ H _ us Q I r ⟨z,rfl,g.1,c _ _ _ g.2 (bN rp.tail fun _=>.int)⟩
  |dK o kvs=>
   obtain⟨a,vs,rfl,hq,ek,rp2⟩:=CD rp;obtain⟨u,rfl,ru⟩:=vals1 r;cases ru;have g:k (.int kvs.length):=g;rw[bX ek]at g;exact JW I hq fun t s' I'=>⟨.int vs.length,H,I',⟨t,rfl⟩,c _ _ _ g (bN rp.tail fun _=>.int)⟩
  |dT o kvs=>
   obtain⟨a,vs,rfl,hq,ek,rp2⟩:=tM rp;obtain⟨u,rfl,ru⟩:=vals1 r;cases ru;have g:k (.int kvs.length):=g;rw[bX ek]at g;exact Hu I hq fun t s' I'=>⟨.int vs.length,H,I',⟨t,rfl⟩,c _ _ _ g (bN rp.tail fun _=>.int)⟩
  | _=>exact sq g
 | [],_,g=>exact QC g
 | _::_::_,_,g=>exact QC g
noncomputable def IZ:P1s
 | [.int i],k=>k (.int i.natAbs)
 | _,_=>False
theorem jH:iO X (.builtin "abs") IZ:=by
 rintro pins s σ H xs us Q I r ⟨ts,Γ,k,l,rp,g,c⟩
 match ts,l,g with
 | [.int i],l,g=>
  obtain⟨x,rfl⟩:=zz1 l rfl;have rp:Rp X.K H ((.int i,some x)::Γ):=rp;rw[aK rp]at r;refine BA pins s σ H _ us Q I r ⟨i,rfl,?_⟩;have e:(if i<0 then -i else i)=(i.natAbs:Int):=by split <;> lia
  rw[e];exact c _ _ _ g (bN rp.tail fun _=>.int)
noncomputable def intsOf:List T->Option (List Int)
 | []=>some []
 | .int i::r=>match intsOf r with
  |some ns=>some (i::ns)
  |none=>none
 | _::_=>none
theorem wC(ns:List Int):intsOf (ns.map T.int)=some ns:=by
 induction ns with
 |nil=>rfl
 |cons n r ih=>rw[g_,intsOf,ih]
theorem fx:∀{ts:List T}{ns:List Int},intsOf ts=some ns->ts=ns.map T.int
 | [],ns,e=>by cases e;rfl
 |t::ts,ns,e=>by
  cases t <;> first|cases e|skip
  rename_i i;rw[intsOf]at e;split at e
  ·rename_i ms em;cases e;rw[g_,fx em]
  cases e
theorem gm{K:Qg}{H:Hp}{Γ:Fm}:∀{ns:List Int}{vs:List V},(ns.map T.int).length=vs.length->Rp K H (zz (ns.map T.int) vs++Γ)->vs=ns.map V.int
 | [],[],_,_=>rfl
 | [],_::_,l,_=>by simp at l
 | _::_,[],l,_=>by simp at l
 |n::ns,v::vs,l,h=>by
  have h:Rp K H ((.int n,some v)::(zz (ns.map T.int) vs++Γ)):=h;rw[aK h,gm (by simpa using l) h.tail]
  rfl
noncomputable def Cz:P1s
 | [.int i,.int j],k=>k (.int (max i j))
 | [.int i,.int j,.int l],k=>k (.int (max (max i j) l))
 | [t],k=>got (items t) fun ts=>got (intsOf ts) fun ns=>ns≠[]/\∀r,iR ns r->k (.int r)
 | _,_=>False
noncomputable def C8:P1s
 | [.int i,.int j],k=>k (.int (min i j))
 | [.int i,.int j,.int l],k=>k (.int (min (min i j) l))
 | [t],k=>got (items t) fun ts=>got (intsOf ts) fun ns=>ns≠[]/\∀r,iP ns r->k (.int r)
 | _,_=>False
theorem fF(hc:X.calm=true):iO X (.builtin "max") Cz:=by
 rintro pins s σ H xs us Q I r ⟨ts,Γ,k,l,rp,g,c⟩;unfold Cz at g;split at g
 ·rename_i k i j;obtain⟨x,y,rfl⟩:=zz2 l rfl;have rp:Rp X.K H ((.int i,some x)::(.int j,some y)::Γ):=rp;rw[aK rp,aK rp.tail]at r;refine zW hc pins s σ H _ us Q I r ⟨i,j,rfl,?_⟩;have e:(if j > i then j else i)=max i j:=by split <;> lia
  rw[e];exact c _ _ _ g (bN rp.tail.tail fun _=>.int)
 ·rename_i k i j m;obtain⟨x,y,z,rfl⟩:=zz3 l rfl;have rp:Rp X.K H ((.int i,some x)::(.int j,some y)::(.int m,some z)::Γ):=rp;rw[aK rp,aK rp.tail,aK rp.tail.tail]at r;refine Aq hc pins s σ H _ us Q I r ⟨i,j,m,rfl,fun w h1 h2 h3 h4=>?_⟩;have e:w=max (max i j) m:=by lia
  rw[e];exact c _ _ _ g (bN rp.tail.tail.tail fun _=>.int)
 ·rename_i k t;obtain⟨x,rfl⟩:=zz1 l rfl;have rp:Rp X.K H ((t,some x)::Γ):=rp;obtain⟨us',e,g⟩:=aF g;obtain⟨ns,en,ne,kt⟩:=aF g;have:=fx en;subst this;obtain⟨a,vs,rfl,hq,l2,rp2⟩:=aC e rp;have:=gm l2 rp2;subst this;revert hq;cases qG t with
  |true=>exact fun hq=>AH hc pins s σ H _ us Q I r ⟨a,ns,rfl,hq,ne,fun w hw=>c _ _ _ (kt w hw) (bN rp.tail fun _=>.int)⟩
  |false=>exact fun hq=>Ai hc pins s σ H _ us Q I r ⟨a,ns,rfl,hq,ne,fun w hw=>c _ _ _ (kt w hw) (bN rp.tail fun _=>.int)⟩
 exact QC g
theorem jI(hc:X.calm=true):iO X (.builtin "min") C8:=by
 rintro pins s σ H xs us Q I r ⟨ts,Γ,k,l,rp,g,c⟩;unfold C8 at g;split at g
 ·rename_i k i j;obtain⟨x,y,rfl⟩:=zz2 l rfl;have rp:Rp X.K H ((.int i,some x)::(.int j,some y)::Γ):=rp;rw[aK rp,aK rp.tail]at r;refine Ay hc pins s σ H _ us Q I r ⟨i,j,rfl,?_⟩;have e:(if j<i then j else i)=min i j:=by split <;> lia
  rw[e];exact c _ _ _ g (bN rp.tail.tail fun _=>.int)
 ·rename_i k i j m;obtain⟨x,y,z,rfl⟩:=zz3 l rfl;have rp:Rp X.K H ((.int i,some x)::(.int j,some y)::(.int m,some z)::Γ):=rp;rw[aK rp,aK rp.tail,aK rp.tail.tail]at r;refine Ao hc pins s σ H _ us Q I r ⟨i,j,m,rfl,fun w h1 h2 h3 h4=>?_⟩;have e:w=min (min i j) m:=by lia
  rw[e];exact c _ _ _ g (bN rp.tail.tail.tail fun _=>.int)
 ·rename_i k t;obtain⟨x,rfl⟩:=zz1 l rfl;have rp:Rp X.K H ((t,some x)::Γ):=rp;obtain⟨us',e,g⟩:=aF g;obtain⟨ns,en,ne,kt⟩:=aF g;have:=fx en;subst this;obtain⟨a,vs,rfl,hq,l2,rp2⟩:=aC e rp;have:=gm l2 rp2;subst this;revert hq;cases qG t with
  |true=>exact fun hq=>A4 hc pins s σ H _ us Q I r ⟨a,ns,rfl,hq,ne,fun w hw=>c _ _ _ (kt w hw) (bN rp.tail fun _=>.int)⟩
  |false=>exact fun hq=>zX hc pins s σ H _ us Q I r ⟨a,ns,rfl,hq,ne,fun w hw=>c _ _ _ (kt w hw) (bN rp.tail fun _=>.int)⟩
 exact QC g
noncomputable def yU:P1s
 | [t],k=>got (items t) fun ts=>k (.lst true ts)
 | _,_=>False
theorem iN:iO X (.type "list") yU:=by
 rintro pins s σ H xs us Q I r ⟨ts,Γ,k,l,rp,g,c⟩;unfold yU at g;split at g
 ·rename_i k t;obtain⟨x,rfl⟩:=zz1 l rfl;have rp:Rp X.K H ((t,some x)::Γ):=rp;obtain⟨us',e,kt⟩:=aF g;obtain⟨a,vs,rfl,hq,l2,rp2⟩:=aC e rp;exact xV pins s σ H _ us Q I r ⟨_,a,vs,rfl,hq,fun p H' hp g' e'=>c _ _ _ kt (fk rp2 l2 hp g' e')⟩
 exact QC g
noncomputable def pD:P1s
 | [.tup ts],k=>k (.tup ts)
 | [.cst ts],k=>k (.cst ts)
 | [.lst _ ts],k=>k (.tup ts)
 | _,_=>False
theorem cF:iO X (.type "tuple") pD:=by
 rintro pins s σ H xs us Q I r ⟨ts,Γ,k,l,rp,g,c⟩;unfold pD at g;split at g
 ·rename_i k ts;obtain⟨x,rfl⟩:=zz1 l rfl;have rp:Rp X.K H ((.tup ts,some x)::Γ):=rp;obtain⟨a,vs,rfl,hq,l2,rp2⟩:=aC rfl rp;exact oH pins s σ H _ us Q I r ⟨a,vs,rfl,hq,c _ _ _ g rp⟩
 ·rename_i k ts;obtain⟨x,rfl⟩:=zz1 l rfl;have rp:Rp X.K H ((.cst ts,some x)::Γ):=rp;obtain⟨a,vs,rfl,hq,l2,rp2⟩:=aC rfl rp;exact oH pins s σ H _ us Q I r ⟨a,vs,rfl,hq,c _ _ _ g rp⟩
 ·rename_i k o ts;obtain⟨x,rfl⟩:=zz1 l rfl;have rp:Rp X.K H ((.lst o ts,some x)::Γ):=rp;obtain⟨a,vs,rfl,hq,l2,rp2⟩:=aC rfl rp;exact va pins s σ H _ us Q I r ⟨a,vs,rfl,hq,fun p H' hp g' e'=>c _ _ _ g (fu rp2 l2 g' e')⟩
 exact QC g
noncomputable def boolsOf:List T->Option (List Bool)
 | []=>some []
 | .bl i::r=>match boolsOf r with
  |some ns=>some (i::ns)
  |none=>none
 | _::_=>none
theorem oj(ns:List Bool):boolsOf (ns.map T.bl)=some ns:=by
 induction ns with
 |nil=>rfl
 |cons n r ih=>rw[g_,boolsOf,ih]
theorem qW:∀{ts:List T}{ns:List Bool},boolsOf ts=some ns->ts=ns.map T.bl
 | [],ns,e=>by cases e;rfl
 |t::ts,ns,e=>by
  cases t <;> first|cases e|skip
  rename_i i;rw[boolsOf]at e;split at e
  ·rename_i ms em;cases e;rw[g_,qW em]
  cases e
theorem vD{K:Qg}{H:Hp}{Γ:Fm}:∀{ns:List Bool}{vs:List V},(ns.map T.bl).length=vs.length->Rp K H (zz (ns.map T.bl) vs++Γ)->vs=bools ns
 | [],[],_,_=>rfl
 | [],_::_,l,_=>by simp at l
 | _::_,[],l,_=>by simp at l
 |n::ns,v::vs,l,h=>by
  have h:Rp K H ((.bl n,some v)::(zz (ns.map T.bl) vs++Γ)):=h;rw[oI h,vD (by simpa using l) h.tail]
  rfl
noncomputable def Iy:P1s
 | [.lst _ ts],k=>got (boolsOf ts) fun bs=>k (.bl (bs.all id))
 | _,_=>False
theorem Aw(hc:X.calm=true):iO X (.builtin "all") Iy:=by
 rintro pins s σ H xs us Q I r ⟨ts,Γ,k,l,rp,g,c⟩;unfold Iy at g;split at g
 ·rename_i k o ts;obtain⟨x,rfl⟩:=zz1 l rfl;have rp:Rp X.K H ((.lst o ts,some x)::Γ):=rp;obtain⟨bs,e,kt⟩:=aF g;have:=qW e;subst this;obtain⟨a,vs,rfl,hq,l2,rp2⟩:=aC rfl rp;have:=vD l2 rp2;subst this;exact Bl hc pins s σ H _ us Q I r ⟨a,bs,rfl,hq,c _ _ _ kt (bN rp.tail fun _=>.bl)⟩
 exact QC g
abbrev PO':=Ev->(Option Int->Ev->Prop)->Prop
noncomputable def wO(K:Qg)(f:PO'):TO:=fun σ H Q=>∃env Fr k,Rs K H env σ Fr/\f env k/\∀o env' H',k o env'->Rs K H' env' σ Fr->Q o H'
noncomputable def GO(X:Cx)(e:Option Qx)(f:PO'):Prop:=PO X e (wO X.K f)
noncomputable def Jd:PO':=fun env k=>k none env
noncomputable def Kx(f:PF):PO':=fun env k=>f env fun t env1=>match t with
 | .int i=>k (some i) env1
 | _=>False
theorem DW:GO X none Jd:=fun pins s σ H Q I ⟨env,Fr,k,rs,q,c⟩=>zl pins s σ H Q I (c _ _ _ q rs)
theorem Ee{e:Qx}{f:PF}(h:GE X e f):GO X (some e) (Kx f):=by
 rintro pins s σ H Q I ⟨env,Fr,k,rs,q,c⟩;refine yi h pins s σ H Q I ⟨env,Fr,_,rs,q,fun t env1 v H1 q1 rs1=>?_⟩;cases t <;> first|exact QC q1|skip
 exact⟨_,aK rs1.head,c _ _ _ q1 rs1.drop⟩
noncomputable def rg(ts:List T)(lo hi:Option Int):List T:=(ts.drop (HT.sIx ts.length 0 lo)).take (HT.sIx ts.length ts.length hi-HT.sIx ts.length 0 lo)
noncomputable def slT:T->Option Int->Option Int->(T->Prop)->Prop
 | .lst _ ts,lo,hi,k=>k (.lst true (rg ts lo hi))
 | .tup ts,lo,hi,k=>¬(HT.sIx ts.length 0 lo=0/\HT.sIx ts.length ts.length hi=ts.length)/\k (.tup (rg ts lo hi))
 | .cst ts,lo,hi,k=>¬(HT.sIx ts.length 0 lo=0/\HT.sIx ts.length ts.length hi=ts.length)/\k (.tup (rg ts lo hi))
 | _,_,_,_=>False
theorem zf:∀(ts:List T) (vs:List V) (n:Nat),zz (ts.drop n) (vs.drop n)=(zz ts vs).drop n
 |ts,vs,0=>rfl
 | [],vs,n+1=>by simp[zz]
 |t::ts,[],n+1=>by simp[zz]
 |t::ts,v::vs,n+1=>by show zz (ts.drop n) (vs.drop n)=(zz ts vs).drop n;exact zf ts vs n
theorem zg:∀(ts:List T) (vs:List V) (n:Nat),zz (ts.take n) (vs.take n)=(zz ts vs).take n
 |ts,vs,0=>by simp[zz]
 | [],vs,n+1=>by simp[zz]
 |t::ts,[],n+1=>by simp[zz]
 |t::ts,v::vs,n+1=>by show(t,some v)::zz (ts.take n) (vs.take n)=(t,some v)::(zz ts vs).take n;rw[zg ts vs n]
theorem xO{K:Qg}{H:Hp}{Γ:Fm}{ts:List T}{vs:List V}(l:ts.length=vs.length)(lo hi:Option Int)(h:Rp K H (zz ts vs++Γ)):Rp K H (zz (rg ts lo hi) (ju vs lo hi)++Γ)/\(rg ts lo hi).length=(ju vs lo hi).length:=by
 unfold rg ju;rw[<-l];refine⟨?_,?_⟩
 ·rw[zg,zf];have e1:=F_ (HT.sIx ts.length 0 lo) (zz ts vs);have e2:=F_ (HT.sIx ts.length ts.length hi-HT.sIx ts.length 0 lo) ((zz ts vs).drop (HT.sIx ts.length 0 lo));have h2:Rp K H ((zz ts vs).drop (HT.sIx ts.length 0 lo)++Γ):=by rw[<-e1,k_]at h;exact h.part
  rw[<-e2,k_]at h2;have h3:=h2.perm (A' _ _ _);exact h3.part
 rw[D',D',H_,H_,l]
noncomputable def fSl(fa:PF)(fl fh:PO'):PF:=fun env k=>fa env fun t env1=>fl env1 fun lo env2=>fh env2 fun hi env3=>slT t lo hi fun u=>k u env3
theorem BM{e:Qx}{lo hi:Option Qx}{fa:PF}{fl fh:PO'}{p2 pos:Pos}(he:GE X e fa)(hl:GO X lo fl)(hh:GO X hi fh):GE X (.Subscript e (.Slice lo hi none p2) pos) (fSl fa fl fh):=by
 have sl:SlR X (fun x lo hi H Q=>∃t Γ k,Rp X.K H ((t,some x)::Γ)/\slT t lo hi k/\∀u v H',k u->Rp X.K H' ((u,some v)::Γ)->Q v H'):=by
  rintro pins s σ H x v vl vu lo hi sl Q I rx hs pl pu ⟨t,Γ,k,rp,g,c⟩;cases t with
  |lst o ts=>
   obtain⟨a,vs,rfl,hq,l,rp2⟩:=aC rfl rp;obtain⟨rp3,l3⟩:=xO l lo hi rp2;exact AN pins s σ H _ v vl vu lo hi sl Q I rx hs pl pu ⟨a,vs,rfl,hq,fun p H' hp g' e=>c _ _ _ g (fk rp3 l3 hp g' e)⟩
  |tup ts=>
   obtain⟨a,vs,rfl,hq,l,rp2⟩:=aC rfl rp;obtain⟨rp3,l3⟩:=xO l lo hi rp2;exact zG pins s σ H _ v vl vu lo hi sl Q I rx hs pl pu ⟨a,vs,rfl,hq,by rw[<-l];exact g.1,fun p H' hp g' e=>c _ _ _ g.2 (fu rp3 l3 g' e)⟩
  |cst ts=>
   obtain⟨a,vs,rfl,hq,l,rp2⟩:=aC rfl rp;obtain⟨rp3,l3⟩:=xO l lo hi rp2;exact zG pins s σ H _ v vl vu lo hi sl Q I rx hs pl pu ⟨a,vs,rfl,hq,by rw[<-l];exact g.1,fun p H' hp g' e=>c _ _ _ g.2 (fu rp3 l3 g' e)⟩
  | _=>exact QC g
 refine PE.imp (vt sl he hl hh) ?_;rintro σ H Q ⟨env,Fr,k,rs,q,c⟩;refine⟨env,Fr,_,rs,q,fun t env1 v H1 q1 rs1=>⟨env1,_,_,rs1,q1,fun lo env2 H2 q2 rs2=>⟨env2,_,_,rs2,q2,fun hi env3 H3 q3 rs3=>?_⟩⟩⟩;exact⟨t,_,_,rs3.head,q3,fun u w H' ku rp=>c _ _ _ _ ku (.of rs3.1 rp)⟩
end
open PySem PySem.Spec PyProof.Rows L2
inductive Arg where
 |val (t:T)|bor (i:Nat)
noncomputable def qw:Arg->T
 | .val t=>t
 | .bor _=>.any
noncomputable def lend:List Arg->Ev->List T×Ev
 | [],env=>([],env)
 | .val t::r,env=>(t::(lend r env).1,(lend r env).2)
 | .bor i::r,env=>match env[i]? with
  |some t=>(t::(lend r (env.set i .any)).1,(lend r (env.set i .any)).2)
  |none=>(.any::(lend r env).1,(lend r env).2)
noncomputable def back:List Arg->List T->Ev->Ev
 | .bor i::r,t::ts,env=>back r ts (env.set i t)
 | .val _::r,_::ts,env=>back r ts env
 | _,_,env=>env
noncomputable def mS:List Arg->List (Option V)->L2.St->Prop
 | [],[],_=>True
 | .val _::r,_::xs,σ=>mS r xs σ
 | .bor i::r,x::xs,σ=>(σ[i]?=some x\/σ.length<=i)/\mS r xs σ
 | _,_,_=>False
section
variable{K:Qg}{H:Hp}{σ:L2.St}
theorem m8:∀{as:List Arg}{xs:List (Option V)}{env:Ev}{Fr:Fm},mS as xs σ->Rs K H env σ ((as.map qw).zip xs++Fr)->Rs K H (lend as env).2 σ ((lend as env).1.zip xs++Fr)
 | [],[],env,Fr,_,h=>h
 | [],_::_,env,Fr,o,_=>o.elim
 | .val t::r,[],env,Fr,o,_=>o.elim
 | .bor i::r,[],env,Fr,o,_=>o.elim
 | .val t::r,x::xs,env,Fr,o,h=>by have h:Rs K H env σ ((t,x)::((r.map qw).zip xs++Fr)):=h;have h2:Rs K H env σ ((r.map qw).zip xs++((t,x)::Fr)):=h.perm j_.symm;exact(m8 (as:=r) o h2).perm j_
 | .bor i::r,x::xs,env,Fr,o,h=>by
  have h:Rs K H env σ ((.any,x)::((r.map qw).zip xs++Fr)):=h;have h:=h.drop;rw[lend];split
  ·rename_i t e;obtain⟨y,ey,h2⟩:=h.slot e;have o1:σ[i]?=some x:=by
    rcases o.1 with z|z
    ·exact z
    have:=(d_.mp ey).1;lia
   rw[o1]at ey;cases ey;have h3:Rs K H (env.set i .any) σ ((r.map qw).zip xs++((t,x)::Fr)):=h2.perm j_.symm;exact(m8 (as:=r) o.2 h3).perm j_
  have h3:Rs K H env σ ((r.map qw).zip xs++((.any,x)::Fr)):=(Rs.of h.1 (jk (x:=x) h.2)).perm j_.symm;exact(m8 (as:=r) o.2 h3).perm j_
theorem mE:∀{as:List Arg}{xs:List (Option V)}{ts:List T}{env:Ev}{Fr:Fm},mS as xs σ->Rs K H env σ (ts.zip xs++Fr)->Rs K H (back as ts env) σ Fr
 | [],xs,ts,env,Fr,_,h=>by
  have:back [] ts env=env:=by cases ts <;> rfl
  rw[this];exact⟨h.1,(h.2.perm (A' _ _ _)).part⟩
 |a::r,xs,[],env,Fr,_,h=>by
  have:back (a::r) [] env=env:=by cases a <;> rfl
  rw[this];exact h
 | .val t::r,[],u::ts,env,Fr,o,_=>o.elim
 | .bor i::r,[],u::ts,env,Fr,o,_=>o.elim
 | .val t::r,x::xs,u::ts,env,Fr,o,h=>by have h:Rs K H env σ ((u,x)::(ts.zip xs++Fr)):=h;exact mE (as:=r) o h.drop
 | .bor i::r,x::xs,u::ts,env,Fr,o,h=>by
  have h:Rs K H env σ ((u,x)::(ts.zip xs++Fr)):=h;rw[back];by_cases hi:i<env.length
  ·have o1:σ[i]?=some x:=by
    rcases o.1 with z|z
    ·exact z
    have:=h.1;lia
   exact mE (as:=r) o.2 (h.nK hi o1)
  have e:env.set i u=env:=Ny (by lia);rw[e];exact mE (as:=r) o.2 h.drop
theorem Rs.put {env:Ev}{Fr:Fm}{i:Nat}{t:T}{v:V}(h:Rs K H env σ ((t,some v)::Fr)):Rs K H (env.set i t) (σ.set i (some v)) Fr:=by
 by_cases hi:i<env.length
 ·exact h.store hi
 rw[Ny (by lia),Ny (by rw[<-h.1];lia)];exact h.drop
end
abbrev PAs:=Ev->(List Arg->Ev->Prop)->Prop
noncomputable def wR(K:Qg)(f:PAs):TA:=fun σ H Q=>∃env Fr k,Rs K H env σ Fr/\f env k/\∀as env' vs H',k as env'->as.length=vs.length->mS as (vs.map some) σ->Rs K H' env' σ ((as.map qw).zip (vs.map some)++Fr)->Q vs H'
noncomputable def GR(X:Cx)(es:List Qx)(f:PAs):Prop:=PA X es (wR X.K f)
noncomputable def JE:PAs:=fun env k=>k [] env
noncomputable def JG(f:PF)(r:PAs):PAs:=fun env k=>f env fun t env1=>r env1 fun as env2=>k (.val t::as) env2
noncomputable def Gp(i:Nat)(r:PAs):PAs:=fun env k=>(match env[i]? with
 |some t=>isAny t=false
 |none=>False)/\r env fun as env2=>k (.bor i::as) env2
section
variable{X:Cx}{e:Qx}{es:List Qx}{f:PF}{fr:PAs}
theorem aq:GR X [] JE:=PA.imp lK fun σ H Q ⟨env,Fr,k,rs,q,c⟩=>c [] env [] H q rfl trivial rs
theorem ah(he:GE X e f)(hr:GR X es fr)(hs:QA (e::es) X.env=(false,QO e X.env)::QA es X.env:=by rfl):GR X (e::es) (JG f fr):=by refine PA.imp (f9 he hr hs) ?_;rintro σ H Q ⟨env,Fr,k,rs,q,c⟩;refine⟨env,Fr,_,rs,q,fun t env1 v H1 q1 rs1=>⟨env1,_,_,rs1,q1,fun as env2 vs H2 q2 l ao rs2=>c _ _ _ _ q2 (by rw[h_,h_,l]) ao ?_⟩⟩;exact rs2.perm j_
theorem aO(i:Nat){x:Str}{pos:Pos}(hr:GR X es fr)(hN:X.N[i]?=some x:=by rfl)(hv:Vis X.env.scope x:=by first|exact e_ rfl|exact s_ (e_ rfl)|exact s_ (s_ rfl))(hd:(x ==("__debug__":Str))=false:=by decide)(hcd:(x ==("__classdict__":Str))=false:=by decide)
  (hs:QA (.Name x pos::es) X.env=(false,QO (.Name x pos) X.env)::QA es X.env:=by rfl):GR X (.Name x pos::es) (Gp i fr):=by
 refine PA.imp (f9 (jr hN hv hd hcd) hr hs) ?_;rintro σ H Q ⟨env,Fr,k,rs,⟨na,q⟩,c⟩;split at na
 ·rename_i t e;obtain⟨y,ey,rs2⟩:=rs.slot e;obtain⟨v,rfl⟩:=eI rs2 na;refine⟨v,ey,env,Fr,_,rs,q,fun as env2 vs H2 q2 l ao rs2=>c _ _ _ _ q2 (by rw[h_,h_,l]) ⟨.inl ey,ao⟩ ?_⟩;exact .of rs2.1 (jk rs2.2)
 exact na.elim
end
abbrev FP:=List T->(T->List T->Prop)->Prop
noncomputable def aS(K:Qg)(n:Nat)(P:FP):Sp:=fun vs H Q _=>∃ts Fr k,ts.length=vs.length/\vs.length=n/\Rp K H (zz ts vs++Fr)/\P ts k/\∀t ts' v H',k t ts'->Rp K H' ((t,some v)::(zz ts' vs++Fr))->Q v H'
noncomputable def Ks(P:FP)(ts:List T)(k:T->List T->Prop):Prop:=P ts k
noncomputable def Hn(n:Nat)(P:FP)(fr:PAs):PF:=fun env k=>fr env fun as env1=>as.length=n/\Ks P (lend as env1).1 fun t ts'=>k t (back as ts' (lend as env1).2)
section
variable{X:Cx}
theorem j9:∀(as:List Arg) (env:Ev),(lend as env).1.length=as.length
 | [],env=>rfl
 | .val t::r,env=>by rw[lend,h_,h_,j9 r]
 | .bor i::r,env=>by
  rw[lend];split
  ·rw[h_,h_,j9 r]
  rw[h_,h_,j9 r]
theorem E1{n:Nat}{P:FP}{fr:PAs}:∀ σ H Q,wE X.K (Hn n P fr) σ H Q->CK (aS X.K n P) [] E0 (wR X.K fr) σ H Q:=by
 rintro σ H Q ⟨env,Fr,k,rs,q,c⟩;refine⟨env,Fr,_,rs,q,fun as env1 vs H1 ⟨hn,q1⟩ l ao rs1=>?_⟩;show aS X.K n P (vs++[]) H1 Q E0;rw[E_];have rs2:=m8 ao rs1;refine⟨(lend as env1).1,(lend as env1).2.zip σ++Fr,_,by rw[j9,l],by rw[<-l];exact hn,?_,q1,fun t ts' v H' kt rp=>c _ _ _ _ kt ?_⟩
 ·exact rs2.2.perm (A' _ _ _)
 have h3:Rs X.K H' (lend as env1).2 σ (zz ts' vs++((t,some v)::Fr)):=⟨rs2.1,rp.perm (by refine C' ?_ (A' _ _ _);refine C' j_.symm ?_;exact LJ _ j_.symm)⟩
 exact mE ao h3
theorem au{j k n:Nat}{x:Str}{ps:List Str}{P:FP}{e:Qx}{es:List Qx}{fr:PAs}{p pos:Pos}(D:Cal X.prog X.w X.K X.mg X.base j x ps (aS X.K n P))(hr:Room k X.A)(hg:Gl X x)(ha:GR X (e::es) fr)(hjk:j<=k:=by omega)(hdb:(x ==("__debug__":Str))=false:=by decide)
  (he:QA (e::es) X.env=(false,QO e X.env)::QA es X.env:=by rfl) (hpl:(Si pos (QA es X.env)).any (·.1)=false:=by rfl):GE X (.Call (.Name x p) (e::es) [] pos) (Hn n P fr):=PE.imp (Hr D hr hg ha hjk hdb he hpl) E1
end
structure PEn where
 nx:Ev->Prop
 rt:T->Ev->Prop
 bk:Ev->Prop:=fun _=>False
 ct:Ev->Prop:=fun _=>False
abbrev PSt:=PEn->Ev->Prop
noncomputable def Kept(κ:Nat->Bool)(σ σ':L2.St):Prop:=σ'.length=σ.length/\∀j,κ j=true->σ'[j]?=σ[j]?
theorem Kept.refl {κ:Nat->Bool}{σ:L2.St}:Kept κ σ σ:=⟨rfl,fun _ _=>rfl⟩
theorem Kept.trans {κ:Nat->Bool}{σ σ' σ'':L2.St}(a:Kept κ σ σ')(b:Kept κ σ' σ''):Kept κ σ σ'':=⟨b.1.trans a.1,fun j h=>(b.2 j h).trans (a.2 j h)⟩
theorem Kept.set {κ:Nat->Bool}{σ:L2.St}{i:Nat}{x:Option V}(h:κ i=false):Kept κ σ (σ.set i x):=⟨Lv,fun j hj=>by
 by_cases e:i=j
 ·subst e;rw[h]at hj;cases hj
 rw[NT e]⟩
structure EndOk (K:Qg) (κ:Nat->Bool) (σ:L2.St) (Fr:Fm) (pe:PEn) (D:Ends):Prop where
 nx:∀env' σ' H',pe.nx env'->Rs K H' env' σ' Fr->Kept κ σ σ'->D.nx σ' H'
 rt:∀t env' v σ' H',pe.rt t env'->Rs K H' env' σ' ((t,some v)::Fr)->Kept κ σ σ'->D.rt v H'
 bk:∀env' σ' H',pe.bk env'->Rs K H' env' σ' Fr->Kept κ σ σ'->D.bk σ' H'
 ct:∀env' σ' H',pe.ct env'->Rs K H' env' σ' Fr->Kept κ σ σ'->D.ct σ' H'
theorem EndOk.later {K:Qg}{κ:Nat->Bool}{σ σ':L2.St}{Fr:Fm}{pe:PEn}{D:Ends}(h:EndOk K κ σ Fr pe D)(k:Kept κ σ σ'):EndOk K κ σ' Fr pe D:=
 ⟨fun a b c p q r=>h.nx a b c p q (k.trans r),fun a b c d e p q r=>h.rt a b c d e p q (k.trans r),fun a b c p q r=>h.bk a b c p q (k.trans r),fun a b c p q r=>h.ct a b c p q (k.trans r)⟩
noncomputable def wS(K:Qg)(κ:Nat->Bool)(f:PSt):TS:=fun D σ H=>∃env Fr pe,Rs K H env σ Fr/\f pe env/\EndOk K κ σ Fr pe D
noncomputable def GS(κ:Nat->Bool)(X:Cx)(st:QR)(f:PSt):Prop:=PS X st (wS X.K κ f)
noncomputable def GSs(κ:Nat->Bool)(X:Cx)(sts:List QR)(f:PSt):Prop:=PSs X sts (wS X.K κ f)
theorem PS.imp {X:Cx}{st:QR}{t t':TS}(h:PS X st t)(k:∀D σ H,t' D σ H->t D σ H):PS X st t':=fun pins s σ H D I q=>h pins s σ H D I (k _ _ _ q)
theorem PSs.imp {X:Cx}{st:List QR}{t t':TS}(h:PSs X st t)(k:∀D σ H,t' D σ H->t D σ H):PSs X st t':=fun pins s σ H D I q=>h pins s σ H D I (k _ _ _ q)
noncomputable def G2:PSt:=fun pe env=>pe.nx env
noncomputable def Jx(f g:PSt):PSt:=fun pe env=>f {pe with nx:=g pe} env
section
variable{X:Cx}{κ:Nat->Bool}{pos:Pos}{st:QR}{rest:List QR}{f g:PSt}{e:Qx}{fe:PF}
theorem aT:GSs κ X [] G2:=PSs.imp um fun D σ H ⟨env,Fr,pe,rs,q,c⟩=>c.nx _ _ _ q rs .refl
theorem af(h1:GS κ X st f)(h2:GSs κ X rest g):GSs κ X (st::rest) (Jx f g):=by refine PSs.imp (bL h1 h2) ?_;rintro D σ H ⟨env,Fr,pe,rs,q,c⟩;refine⟨env,Fr,_,rs,q,⟨fun env' σ' H' q1 rs1 k1=>⟨env',Fr,pe,rs1,q1,c.later k1⟩,c.rt,c.bk,c.ct⟩⟩
theorem ai(h1:GS κ X st f):GSs κ X [st] f:=ng h1
noncomputable def FN(fe:PF):PSt:=fun pe env=>fe env fun _ env1=>pe.nx env1
theorem bP(he:GE X e fe)(hs:S8 e none pos.line X.env=pure false:=by rfl):GS κ X (.Expr e pos) (FN fe):=by refine PS.imp (Ec he hs) ?_;rintro D σ H ⟨env,Fr,pe,rs,q,c⟩;exact⟨env,Fr,_,rs,q,fun t env' v H' q1 rs1=>c.nx _ _ _ q1 rs1.drop .refl⟩
noncomputable def JP(fe:PF):PSt:=fun pe env=>fe env fun t env1=>pe.rt t env1
theorem aL(he:GE X e fe):GS κ X (.Return (some e) pos) (JP fe):=by refine PS.imp (tI he) ?_;rintro D σ H ⟨env,Fr,pe,rs,q,c⟩;exact⟨env,Fr,_,rs,q,fun t env' v H' q1 rs1=>c.rt _ _ _ _ _ q1 rs1 .refl⟩
noncomputable def sIf(tc:PB)(f g:PSt):PSt:=fun pe env=>tc env fun b env1=>cnd b (f pe env1) (g pe env1)
theorem bA{c:Qx}{a b:List QR}{tc:PB}(hc:GT X c tc)(ha:GSs κ X a f)(hb:GSs κ X b g):GS κ X (.If c a b pos) (sIf tc f g):=by refine PS.imp (BW hc ha hb) ?_;rintro D σ H ⟨env,Fr,pe,rs,q,c⟩;refine⟨env,Fr,_,rs,q,fun b env' H' q1 rs1=>ff ⟨fun h=>⟨env',Fr,pe,rs1,q1.1 h,c⟩,fun h=>⟨env',Fr,pe,rs1,q1.2 h,c⟩⟩⟩
noncomputable def HM(i:Nat)(fe:PF):PSt:=fun pe env=>fe env fun t env1=>pe.nx (env1.set i t)
theorem av{i:Nat}{x:Str}{pos':Pos}(hN:X.N.Nodup)(hi:X.N[i]?=some x)(hx:Loc X.env.scope x)(hκ:κ i=false)(he:GE X e fe)(hs:S8 e (some (.Name x pos')) pos.line X.env=pure false:=by rfl)(hf:X.fn x=true\/X.env.scope.names.lookup x=some .local:=by first|exact .inl rfl|exact .inr rfl|assumption) :
  GS κ X (.Assign [.Name x pos'] e pos) (HM i fe):=by
 refine PS.imp (j7 hN hi hx he hs hf) ?_;rintro D σ H ⟨env,Fr,pe,rs,q,c⟩;exact⟨env,Fr,_,rs,q,fun t env' v H' q1 rs1=>c.nx _ _ _ q1 rs1.put (.set hκ)⟩
abbrev PG':=T->Ev->(Ev->Prop)->Prop
abbrev sV:=List T->Ev->(Ev->Prop)->Prop
noncomputable def wG(K:Qg)(κ:Nat->Bool)(f:PG'):TG:=fun v σ H Q=>∃t env Fr k,Rs K H env σ ((t,some v)::Fr)/\f t env k/\∀env' σ' H',k env'->Rs K H' env' σ' Fr->Kept κ σ σ'->Q σ' H'
noncomputable def wGs(K:Qg)(κ:Nat->Bool)(f:sV):TGs:=fun vs σ H Q=>∃ts env Fr k,ts.length=vs.length/\Rs K H env σ (zz ts vs++Fr)/\f ts env k/\∀env' σ' H',k env'->Rs K H' env' σ' Fr->Kept κ σ σ'->Q σ' H'
noncomputable def GG(κ:Nat->Bool)(X:Cx)(tg:Qx)(f:PG'):Prop:=PG X tg (wG X.K κ f)
noncomputable def GGs(κ:Nat->Bool)(X:Cx)(tgs:List Qx)(f:sV):Prop:=PGs X tgs (wGs X.K κ f)
noncomputable def gN(i:Nat):PG':=fun t env k=>k (env.set i t)
theorem ak{i:Nat}{x:Str}(hN:X.N.Nodup)(hi:X.N[i]?=some x)(hx:Loc X.env.scope x)(hκ:κ i=false)(hf:X.fn x=true\/X.env.scope.names.lookup x=some .local:=by first|exact .inl rfl|exact .inr rfl|assumption):GG κ X (.Name x pos) (gN i):=
 fun pins s σ H v u Q I r ⟨t,env,Fr,k,rs,q,c⟩=>yG hN hi hx hf pins s σ H v u Q I r (c _ _ _ q rs.put (.set hκ))
noncomputable def G4:sV:=fun ts env k=>ts=[]/\k env
noncomputable def CM(f:PG')(r:sV):sV:=fun ts env k=>match ts with
 |t::ts=>f t env fun env1=>r ts env1 k
 | []=>False
noncomputable def gTp(n:Nat)(f:sV):PG':=fun t env k=>match t with
 | .tup ts=>ts.length=n/\f ts env k
 | .cst ts=>ts.length=n/\f ts env k
 | _=>False
end
open PySem PySem.Spec PyProof.Rows L2
section
variable{X:Cx}{κ:Nat->Bool}{pos:Pos}{e tg:Qx}{es:List Qx}{fe:PF}{g:PG'}{gs:sV}
theorem cw:GGs κ X [] G4:=by
 rintro pins s σ H vs us Q I r ⟨ts,env,Fr,k,l,rs,⟨e,q⟩,c⟩;subst e;have:vs=[]:=by cases vs with|nil=>rfl|cons _ _=>cases l
 subst this;exact zA pins s σ H [] us Q I r ⟨rfl,c _ _ _ q rs .refl⟩
theorem aE(h1:GG κ X e g)(h2:GGs κ X es gs)(hs:(RJ (e::es) X.env).map (·.2)=SW e X.env::(RJ es X.env).map (·.2):=by rfl):GGs κ X (e::es) (CM g gs):=by
 rintro pins s σ H vs us Q I r ⟨ts,env,Fr,k,l,rs,q,c⟩;cases ts with
 |nil=>exact QC q
 |cons t ts=>
  cases vs with
  |nil=>cases l
  |cons v vs=>
   have q:g t env fun env1=>gs ts env1 k:=q;refine pE h1 h2 hs pins s σ H (v::vs) us Q I r ⟨v,vs,rfl,t,env,zz ts vs++Fr,_,rs,q,fun env1 σ1 H1 q1 rs1 k1=>?_⟩;exact⟨ts,env1,Fr,k,by simpa using l,rs1,q1,fun env2 σ2 H2 q2 rs2 k2=>c _ _ _ q2 rs2 (k1.trans k2)⟩
theorem dJ{x1 n:Nat}(hc:X.calm=true)(h:GGs κ X es gs)(hn:(RJ es X.env).length=n:=by rfl)(hst:(RJ es X.env).findIdx? (·.1)=none:=by rfl):GG κ X (.Tuple es x1 pos) (gTp n gs):=by
 rintro pins s σ H v u Q I r ⟨t,env,Fr,k,rs,q,c⟩;have go:∀ts,items t=some ts->qG t=true->ts.length=n->gs ts env k->Qn (Qs X.prog X.w) X.A (SW (.Tuple es x1 pos) X.env u) (fun _ s'=>∃ σ' H',Inv X pins σ' H' s'/\Q σ' H') X.xe s:=fun ts e1 e2 e3 q=>by obtain⟨a,vs,rfl,hq,l,rp⟩:=aC e1 rs.head;rw[e2]at hq;refine AZ hc h hn hst pins s σ H _ u Q I r ⟨a,vs,rfl,hq,by rw[<-l];exact e3,ts,env,Fr,k,l,⟨rs.1,?_⟩,q,c⟩;exact rp.perm (A' _ _ _)
 cases t with
 |tup ts=>exact go ts rfl rfl q.1 q.2
 |cst ts=>exact go ts rfl rfl q.1 q.2
 | _=>exact QC q
noncomputable def Kf(fe:PF)(g:PG'):PSt:=fun pe env=>fe env fun t env1=>g t env1 pe.nx
theorem kE(he:GE X e fe)(hg:GG κ X tg g)(hs:Wn [tg] e pos.line X.env=pure false:=by rfl)(hw:Wo [tg] e X.env=pure none:=by rfl)(h1:(RJ [tg] X.env).map (·.2)=[SW tg X.env]:=by rfl) :
  GS κ X (.Assign [tg] e pos) (Kf fe g):=by
 refine PS.imp (BY he hg hs hw h1) ?_;rintro D σ H ⟨env,Fr,pe,rs,q,c⟩;exact⟨env,Fr,_,rs,q,fun t env' v H' q1 rs1=>⟨t,env',Fr,_,rs1,q1,fun env2 σ2 H2 q2 rs2 k2=>c.nx _ _ _ q2 rs2 k2⟩⟩
noncomputable def Hi(i:Nat)(fe:PF)(g:P2):PSt:=fun pe env=>(match env[i]? with
 |some t=>isAny t=false/\aP t=true
 |none=>False)/\fe env fun u env1=>match env[i]? with
 |some t=>g t u fun w=>pe.nx (env1.set i w)
 |none=>False
noncomputable def IpP(X:Cx)(op:T5)(g:P2):Prop:=PIp X op (w2 X.K g)
theorem BI{i:Nat}{x:Str}{op:T5}{g:P2}{pos':Pos}(hN:X.N.Nodup)(hi:X.N[i]?=some x)(hx:Loc X.env.scope x)(hκ:κ i=false)(he:GE X e fe)(ho:IpP X op g)(hf:X.fn x=true\/X.env.scope.names.lookup x=some .local:=by first|exact .inl rfl|exact .inr rfl|assumption) :
  GS κ X (.AugAssign (.Name x pos') op e pos) (Hi i fe g):=by
 refine PS.imp (GZ hN hi hx he ho hf) ?_;rintro D σ H ⟨env,Fr,pe,rs,⟨q0,q⟩,c⟩;cases e0:env[i]? with
 |none=>rw[e0]at q0;exact q0.elim
 |some t=>
  simp only[e0]at q0 q;obtain⟨y,ey,rs2⟩:=rs.slot e0;obtain⟨v,rfl⟩:=eI rs2 q0.1;have hi':i<env.length:=(d_.mp e0).1;have r3:Rs X.K H (env.set i .any) σ ((t,some v)::(t,some v)::Fr):=.of rs2.1 ((lJ rs2.head q0.2).perm (N8 _ j_.symm));have r4:=Rs.nK (i:=i) r3 (by rw[Lv];exact hi') ey;rw[mZ e0]at r4;refine⟨v,ey,env,(t,some v)::Fr,_,r4,q,fun u env1 w H1 q1 rs1=>?_⟩;refine⟨t,u,env1.zip σ++Fr,_,rs1.head.perm (.cons _ j_),q1,fun z b H2 kz rp=>?_⟩;exact c.nx _ _ _ kz (Rs.put (.of rs1.1 rp)) (.set hκ)
noncomputable def FA:P2
 | .int i,.int j,k=>k (.int (i+j))
 | _,_,_=>False
theorem yS:IpP X .Add FA:=by
 rintro pins s σ H x y v u Q I rx ry ⟨tx,ty,Γ,k,rp,g,c⟩;cases tx <;> cases ty <;> first|exact QC g|skip
 rename_i i j;rw[aK rp]at ry;rw[aK rp.tail]at rx;exact HV pins s σ H _ _ v u Q I rx ry ⟨i,j,rfl,rfl,c _ _ _ g (bN rp.tail.tail fun _=>.int)⟩
noncomputable def xD(tc:PB)(fb:PSt)(pe:PEn)(env:Ev):Prop:=∃W:Nat->Ev->Prop,(∃m,W m env)/\∀m env,W m env->tc env fun b env1=>cnd b (fb {pe with nx:=fun e=>∃m',m'<m/\W m' e,ct:=fun e=>∃m',m'<m/\W m' e,bk:=pe.nx} env1) (pe.nx env1)
noncomputable def AW(tc:PB)(fb:PSt):PSt:=fun pe env=>xD tc fb pe env
theorem B3{c:Qx}{body:List QR}{tc:PB}{fb:PSt}(hp:U2 (Qs X.prog X.w) X.A X.env X.xe)(hc:GT X c tc)(hb:GSs κ X body fb):GS κ X (.While c body [] pos) (AW tc fb):=by
 refine PS.imp (C3 hp hc hb) ?_;rintro D σ H ⟨env,Fr,pe,rs,⟨W,⟨m0,w0⟩,wt⟩,c⟩;refine⟨fun m σ' H'=>∃env',W m env'/\Rs X.K H' env' σ' Fr/\Kept κ σ σ',⟨m0,env,w0,rs,.refl⟩,?_⟩;rintro m σ1 H1 ⟨env1,w1,rs1,k1⟩;refine⟨env1,Fr,_,rs1,wt m env1 w1,fun b env2 H2 q2 rs2=>ff ⟨fun h=>?_,fun h=>c.nx _ _ _ (q2.2 h) rs2 k1⟩⟩;refine⟨fun σ' H'=>∃m' env',m'<m/\W m' env'/\Rs X.K H' env' σ' Fr/\Kept κ σ σ',fun σ' H' ⟨m',env',hm,w',r',k'⟩=>⟨m',hm,env',w',r',k'⟩,env2,Fr,_,rs2,q2.1 h,⟨?_,?_,?_,?_⟩⟩
 ·exact fun env' σ' H' ⟨m',hm,w'⟩ r' k'=>⟨m',env',hm,w',r',k1.trans k'⟩
 ·exact fun t env' v σ' H' p r' k'=>c.rt _ _ _ _ _ p r' (k1.trans k')
 ·exact fun env' σ' H' p r' k'=>c.nx _ _ _ p r' (k1.trans k')
 exact fun env' σ' H' ⟨m',hm,w'⟩ r' k'=>⟨m',env',hm,w',r',k1.trans k'⟩
structure ItOk (K:Qg) (J:It) (its:List T) (Fg:Fm):Prop where
 turn:∀i t H Γ,its[i]?=some t->Rp K H (Fg++Γ)->J.go i H/\∀x H',J.yld i H x H'->Rp K H' ((t,some x)::(Fg++Γ))
 stop:∀H Γ,Rp K H (Fg++Γ)->J.stop its.length H
abbrev PIt:=Ev->(List T->Ev->Prop)->Prop
noncomputable def wI(K:Qg)(f:PIt):TI:=fun σ H R=>∃env Fr k,Rs K H env σ Fr/\f env k/\∀its env' J Fg H',k its env'->Rs K H' env' σ (Fg++Fr)->ItOk K J its Fg->R J H'
noncomputable def GI(X:Cx)(tg iter:Qx)(f:PIt):Prop:=PI X tg iter (wI X.K f)
noncomputable def forL(its:List T)(g:PG')(fb:PSt)(pe:PEn)(env1:Ev):Prop:=∃W:Nat->Ev->Prop,W 0 env1/\(∀i t env,W i env->its[i]?=some t->g t env fun env2=>fb {pe with nx:=W (i+1),ct:=W (i+1),bk:=pe.nx} env2)/\∀env,W its.length env->pe.nx env
noncomputable def Ju(fi:PIt)(g:PG')(fb:PSt):PSt:=fun pe env=>fi env fun its env1=>forL its g fb pe env1
theorem ql{K:Qg}{H:Hp}{env:Ev}{σ:L2.St}{Fg Fr:Fm}(h:Rs K H env σ (Fg++Fr)):Rs K H env σ Fr:=⟨h.1,(h.2.perm (A' _ _ _)).part⟩
theorem bB{iter:Qx}{body:List QR}{fi:PIt}{g:PG'}{fb:PSt}(hp:U2 (Qs X.prog X.w) X.A X.env X.xe)(hc:X.calm=true)(hi:GI X tg iter fi)(hg:GG κ X tg g)(hb:GSs κ X body fb)(hs:∀x,Q_ iter X.env x=pure x:=by intro _;rfl):GS κ X (.For tg iter body [] pos) (Ju fi g fb):=by
 refine PS.imp (IM hp hc hi hg hb hs) ?_;rintro D σ H ⟨env,Fr,pe,rs,q,c⟩;refine⟨env,Fr,_,rs,q,?_⟩;rintro its env1 J Fg H1 ⟨W,w0,wt,we⟩ rs1 ok;refine⟨fun i m σ' H'=>∃env',W i env'/\Rs X.K H' env' σ' (Fg++Fr)/\Kept κ σ σ'/\m+i=its.length,⟨its.length,env1,w0,rs1,.refl,rfl⟩,?_⟩;rintro i m σ1 H2 ⟨env2,w2,rs2,k2,hm⟩;have rp2:Rp X.K H2 (Fg++(env2.zip σ1++Fr)):=rs2.2.perm (A' _ _ _);by_cases hlt:i<its.length
 ·have ei:its[i]?=some its[i]:=c_ hlt;obtain⟨hgo,hy⟩:=ok.turn i its[i] H2 _ ei rp2;refine .inr ⟨hgo,fun σ' H'=>∃env',W (i+1) env'/\Rs X.K H' env' σ' (Fg++Fr)/\Kept κ σ σ',fun σ' H' ⟨env',w',r',k'⟩=>⟨m-1,by lia,env',w',r',k',by lia⟩,fun x H' hx=>?_⟩;have rp3:=hy x H' hx;have rs3:Rs X.K H' env2 σ1 ((its[i],some x)::(Fg++Fr)):=.of rs2.1 (rp3.perm (.cons _ (A' _ _ _)));refine⟨its[i],env2,Fg++Fr,_,rs3,wt i its[i] env2 w2 ei,fun env3 σ3 H3 q3 rs4 k4=>?_⟩;refine⟨env3,Fg++Fr,_,rs4,q3,⟨?_,?_,?_,?_⟩⟩
  ·exact fun env' σ' H' w' r' k'=>⟨env',w',r',k2.trans (k4.trans k')⟩
  ·exact fun t env' v σ' H' p r' k'=>c.rt _ _ _ _ _ p (ql (Fg:=Fg) (r'.perm j_.symm)) (k2.trans (k4.trans k'))
  ·exact fun env' σ' H' p r' k'=>c.nx _ _ _ p (ql r') (k2.trans (k4.trans k'))
  exact fun env' σ' H' w' r' k'=>⟨env',w',r',k2.trans (k4.trans k')⟩
 have:i=its.length:=by lia
 subst this;exact .inl ⟨ok.stop H2 _ rp2,c.nx _ _ _ (we env2 w2) (ql rs2) k2⟩
end
section
variable{X:Cx}{pos:Pos}{e tg:Qx}{fe:PF}
noncomputable def JY(fe:PF):PIt:=fun env k=>fe env fun t env1=>got (items t) fun ts=>k (erL ts) env1
theorem GJ{K:Qg}{t:T}{ts:List T}{a:Qh}(e:items t=some ts)(n:aP t=true):ItOk K (Its K (qG t) a) ts [(t,some (.ref a))] where
 turn:=fun i u H Γ ei rp=>by obtain⟨a',vs,ea,hq,l,rp2⟩:=aC e (lJ rp n);cases ea;obtain⟨w,ew⟩:=qy l ei;refine⟨Gy hq rfl i H .ck (by have:=(d_.mp ew).1;exact this),fun x H' hy=>?_⟩;obtain⟨rfl,hx⟩:=DQ hq .ck hy;rw[ew]at hx;cases hx;exact jC rp2 ei ew
 stop:=fun H Γ rp=>by obtain⟨a',vs,ea,hq,l,rp2⟩:=aC e rp;cases ea;exact Bh hq l.symm H .ck
theorem qc{t:T}{ts:List T}(e:items t=some ts):items (er t)=some (erL ts)/\qG (er t)=qG t:=by cases t <;> cases e <;> exact⟨rfl,rfl⟩
theorem aQ(h:GE X e fe):GI X tg e (JY fe):=by rintro pins s σ H R I ⟨env,Fr,k,rs,q,c⟩;refine GK h pins s σ H R I ⟨env,Fr,_,rs,q,fun t env1 v H1 q1 rs1=>?_⟩;obtain⟨ts,e1,kt⟩:=aF q1;have rf:Rp X.K H1 ((er t,some v)::(env1.zip σ++Fr)):=pZ rs1.head;obtain⟨e2,e3⟩:=qc e1;obtain⟨a,vs,rfl,hq,l,rp2⟩:=aC e2 rf;exact⟨qG (er t),a,vs,rfl,hq,c _ _ _ _ _ kt (Rs.of (Fr:=Fr) rs1.1 rf) (GJ e2 (bj t))⟩
noncomputable def jQ(lo:Int)(n:Nat):List T:=(A_ n).map fun(i:Nat)=>.int (lo+(i:Int))
theorem B1{K:Qg}(lo:Int)(n:Nat):ItOk K (Itr lo n) (jQ lo n) [] where
 turn:=fun i t H Γ ei rp=>by
  unfold jQ at ei;rw[D_]at ei;have hi:i<n:=by
   cases h:(A_ n)[i]? with
   |none=>rw[h]at ei;cases ei
   |some j=>
    have:=(d_.mp h).1;simpa using this
  rw[N6 hi]at ei;cases ei;refine⟨hi,fun x H' ⟨e1,e2⟩=>?_⟩;subst e1;subst e2;exact bN rp fun _=>.int
 stop:=fun H Γ rp=>by show n<=_;unfold jQ;rw[a_,LP];exact b_ _
noncomputable def iR1(fr:PFs):PIt:=fun env k=>fr env fun ts env1=>match ts with
 | [.int j]=>(-(2 ^ 62)<=j/\j<2 ^ 62)/\k (jQ 0 j.toNat) env1
 | _=>False
noncomputable def iR2(fr:PFs):PIt:=fun env k=>fr env fun ts env1=>match ts with
 | [.int i,.int j]=>(-(2 ^ 62)<=i/\i<2 ^ 62/\-(2 ^ 62)<=j/\j<2 ^ 62)/\k (jQ i (j-i).toNat) env1
 | _=>False
variable{a b c:Qx}{fr:PFs}{p:Pos}
theorem cW(hg:Gl X "range")(hm:X.mg "range"=none)(ha:GA X [a] fr)(hs:QA [a] X.env=[(false,QO a X.env)]:=by rfl):GI X tg (.Call (.Name "range" p) [a] [] pos) (iR1 fr):=by
 rintro pins s σ H R I ⟨env,Fr,k,rs,q,c⟩;refine Ac hg hm ha hs pins s σ H R I ⟨env,Fr,_,rs,q,fun ts env1 vs H1 q1 l rs1=>?_⟩;rcases ts with _|⟨t,_|⟨t2,ts⟩⟩
 ·exact q1.elim
 ·cases t <;> first|exact q1.elim|skip
  rename_i j;rcases vs with _|⟨v,_|⟨v2,vs⟩⟩
  ·cases l
  ·have rs1:Rs X.K H1 env1 σ ((.int j,some v)::Fr):=rs1;rw[aK rs1.head];exact⟨j,rfl,q1.1.1,q1.1.2,c _ _ _ [] _ q1.2 rs1.drop (B1 0 _)⟩
  cases l
 cases t <;> exact q1.elim
theorem sf(hg:Gl X "range")(hm:X.mg "range"=none)(ha:GA X [a,b] fr)(hs:QA [a,b] X.env=[(false,QO a X.env),(false,QO b X.env)]:=by rfl)(hs2:QA [b] X.env=[(false,QO b X.env)]:=by rfl):GI X tg (.Call (.Name "range" p) [a,b] [] pos) (iR2 fr):=by
 rintro pins s σ H R I ⟨env,Fr,k,rs,q,c⟩;refine zS hg hm ha hs hs2 pins s σ H R I ⟨env,Fr,_,rs,q,fun ts env1 vs H1 q1 l rs1=>?_⟩
 match ts,vs,l,q1 with
 | [.int i,.int j],[v,w],l,q1=>
  have rs1:Rs X.K H1 env1 σ ((.int i,some v)::(.int j,some w)::Fr):=rs1;rw[aK rs1.head,aK rs1.drop.head];exact⟨i,j,rfl,q1.1,c _ _ _ [] _ q1.2 rs1.drop.drop (B1 i _)⟩
noncomputable def iZp(fr:PFs):PIt:=fun env k=>fr env fun ts env1=>match ts with
 | [t,u]=>got (items t) fun as=>got (items u) fun bs=>k (((erL as).zip (erL bs)).map fun p=>.tup [p.1,p.2]) env1
 | _=>False
theorem Im{K:Qg}{H H':Hp}{Γ:Fm}{t u:T}{x y:V}{p:Qh}(h:Rp K H ((t,some x)::(u,some y)::Γ))(s:bI H H')(e:H' p=some (.tup [x,y])):Rp K H' ((.tup [t,u],some (.ref p))::Γ):=
 fu (ts:=[t,u]) (vs:=[x,y]) h rfl s e
theorem Hb{K:Qg}{t u:T}{as bs:List T}{a b:Qh}(e1:items t=some as)(e2:items u=some bs)(n1:aP t=true)(n2:aP u=true) :
  ItOk K (Itz K (qG t) a (qG u) b) ((as.zip bs).map fun p=>.tup [p.1,p.2]) [(t,some (.ref a)),(u,some (.ref b))] where
 turn:=fun i w H Γ ei rp=>by
  rw[D_]at ei;cases hz:(as.zip bs)[i]? with
  |none=>rw[hz]at ei;cases ei
  |some q=>
   rw[hz]at ei;cases ei;obtain⟨q1,q2⟩:=q;rw[Oo]at hz;have rp0:Rp K H ((t,some (.ref a))::(u,some (.ref b))::Γ):=rp;have rpd:=lJ rp0 n1;have rpe:Rp K H ((u,some (.ref b))::(t,some (.ref a))::(t,some (.ref a))::Γ):=rpd.perm (by refine C' ?_ (MC _ _ _);exact .cons _ (.swap _ _ _))
   have rpf:=lJ rpe n2;obtain⟨b',ws,eb,hb,lb,rpg⟩:=aC e2 rpf;cases eb;obtain⟨y,ey⟩:=qy lb hz.2;have rph:=jC rpg hz.2 ey;have rpi:Rp K H ((t,some (.ref a))::(q2,some y)::(t,some (.ref a))::(u,some (.ref b))::Γ):=rph.perm (by refine C' ?_ (MC _ _ _);refine .cons _ ?_;refine C' (MC _ _ _) ?_;exact .cons _ (MC _ _ _))
   obtain⟨a',vs,ea,ha,la,rpj⟩:=aC e1 rpi;cases ea;obtain⟨x,ex⟩:=qy la hz.1;have rpk:=jC rpj hz.1 ex;refine⟨⟨vs,ws,x,y,ha,hb,ex,ey⟩,fun v H' hy=>?_⟩;obtain⟨p,x',y',hp,ev,eH,h1,h2⟩:=hy;have ex':=h1 vs ha;have ey':=h2 ws hb;rw[ex]at ex';rw[ey]at ey';cases ex';cases ey';subst ev;subst eH;exact Im rpk (bF hp _) aN
 stop:=fun H Γ rp=>by have rp0:Rp K H ((t,some (.ref a))::(u,some (.ref b))::Γ):=rp;obtain⟨a',vs,ea,ha,la,_⟩:=aC e1 rp0;obtain⟨b',ws,eb,hb,lb,_⟩:=aC e2 rp0.tail;cases ea;cases eb;refine⟨vs,ws,ha,hb,?_⟩;rw[a_,PD,la,lb];lia
theorem CP{es:List Qx}{x1:Nat}{tp:Pos}(hg:Gl X "zip")(hm:X.mg "zip"=none)(ha:GA X [a,b] fr)(hs:QA [a,b] X.env=[(false,QO a X.env),(false,QO b X.env)]:=by rfl)(hs2:QA [b] X.env=[(false,QO b X.env)]:=by rfl) :
  GI X (.Tuple es x1 tp) (.Call (.Name "zip" p) [a,b] [] pos) (iZp fr):=by
 rintro pins s σ H R I ⟨env,Fr,k,rs,q,c⟩;refine Hd hg hm ha hs hs2 pins s σ H R I ⟨env,Fr,_,rs,q,fun ts env1 vs H1 q1 l rs1=>?_⟩
 match ts,vs,l,q1 with
 | [t,u],[v,w],l,q1=>
  obtain⟨as,ea,q2⟩:=aF q1;obtain⟨bs,eb,kt⟩:=aF q2;have rs1:Rs X.K H1 env1 σ ((t,some v)::(u,some w)::Fr):=rs1;have r2:Rs X.K H1 env1 σ ((er t,some v)::(u,some w)::Fr):=.of rs1.1 (pZ rs1.head);have r3:Rs X.K H1 env1 σ ((er u,some w)::(er t,some v)::Fr):=.of rs1.1 (pZ (r2.perm (.swap _ _ _)).head);have r4:=r3.perm (.swap _ _ _);obtain⟨e1,_⟩:=qc ea;obtain⟨e2,_⟩:=qc eb;obtain⟨a',xs,rfl,hq,l1,_⟩:=aC e1 r4.head;obtain⟨b',ys,rfl,hq2,l2,_⟩:=aC e2 r3.head;exact⟨_,a',_,b',rfl,⟨xs,hq⟩,⟨ys,hq2⟩,c _ _ _ [(er t,_),(er u,_)] _ kt r4 (Hb e1 e2 (bj t) (bj u))⟩
end
open PySem PySem.Spec PyProof.Rows L2
noncomputable def frA(fr:List (Option Nat)):List Arg:=fr.map fun o=>match o with
 |some j=>.bor j
 |none=>.val .any
noncomputable def κc(fr:List (Option Nat))(j:Nat):Bool:=match fr[j]? with
 |some (some _)=>true
 | _=>false
theorem gC:∀(fr:List (Option Nat)) (σ:L2.St),mS (frA fr) (cx fr σ) σ
 | [],σ=>trivial
 |none::r,σ=>gC r σ
 |some j::r,σ=>by
  refine⟨?_,gC r σ⟩;by_cases h:j<σ.length
  ·refine .inl ?_;show σ[j]?=some ((σ[j]?).join);rw[c_ h]
   rfl
  exact .inr (by lia)
theorem lR:∀(fr:List (Option Nat)) (τ τ':List (Option V)) (σ:L2.St),τ'.length=τ.length->(∀j,κc fr j=true->τ'[j]?=τ[j]?)->mS (frA fr) τ σ->mS (frA fr) τ' σ
 | [],[],τ',σ,l,_,_=>by
  have:τ'=[]:=by cases τ' with|nil=>rfl|cons _ _=>cases l
  subst this
  trivial
 | [],_::_,_,_,_,_,o=>o.elim
 |none::r,[],_,_,_,_,o=>o.elim
 |some j::r,[],_,_,_,_,o=>o.elim
 |none::r,x::τ,[],σ,l,_,_=>by cases l
 |some j::r,x::τ,[],σ,l,_,_=>by cases l
 |none::r,x::τ,y::τ',σ,l,k,o=>lR r τ τ' σ (by simpa using l) (fun j hj=>by simpa using k (j+1) hj) o
 |some i::r,x::τ,y::τ',σ,l,k,o=>by
  have e:y=x:=by have:=k 0 rfl;simpa using this
  subst e;exact⟨o.1,lR r τ τ' σ (by simpa using l) (fun j hj=>by simpa using k (j+1) hj) o.2⟩
noncomputable def FX(fr:List (Option Nat))(its:List T)(g:PG')(ft:PB)(fe:PF)(env1:Ev)(k:T->Ev->Prop):Prop:=its.length<sizeLine/\∃W:Nat->List T->Ev->Prop,W 0 [] (lend (frA fr) env1).1/\
 (∀i t acc ie,W i acc ie->its[i]?=some t->g t ie fun ie2=>ft ie2 fun b ie3=>cnd b (fe ie3 fun u ie4=>W (i+1) (acc++[u]) ie4) (W (i+1) acc ie3))/\
 ∀acc ie,W its.length acc ie->k (.lst true acc) (back (frA fr) ie (lend (frA fr) env1).2)
noncomputable def uR(fr:List (Option Nat))(fi:PIt)(g:PG')(ft:PB)(fe:PF):PF:=fun env k=>fi env fun its env1=>FX fr its g ft fe env1 k
theorem uJ:∀fr:List (Option Nat),(frA fr).map qw=fr.map fun _=>T.any
 | []=>rfl
 |none::r=>by show T.any::(frA r).map qw=T.any::r.map fun _=>T.any;rw[uJ r]
 |some j::r=>by show T.any::(frA r).map qw=T.any::r.map fun _=>T.any;rw[uJ r]
theorem yH{K:Qg}{H:Hp}{Γ:Fm}:∀(fr:List (Option Nat)) (xs:List (Option V)),Rp K H Γ->Rp K H ((fr.map fun _=>T.any).zip xs++Γ)
 | [],xs,h=>h
 | _::r,[],h=>h
 | _::r,x::xs,h=>jk (yH r xs h)
theorem EM(fr:List (Option Nat)):(frA fr).length=fr.length:=by unfold frA;rw[a_]
theorem xB(fr:List (Option Nat))(σ:L2.St):(cx fr σ).length=fr.length:=by unfold cx;rw[a_]
theorem wW{K:Qg}{fr:List (Option Nat)}{fi:PIt}{g:PG'}{ft:PB}{fe:PF}:∀ σ H Q,wE K (uR fr fi g ft fe) σ H Q->yw (wI K fi) fr (fun _ _ _=>wG K (κc fr) g) (fun _ _ _=>wB K ft) (fun _ _ _=>wE K fe) σ H Q:=by
 rintro σ H Q ⟨env,Fr,k,rs,q,c⟩;refine⟨env,Fr,_,rs,q,?_⟩;rintro its env1 J Fg H1 ⟨hz,W,w0,wt,we⟩ rs1 ok;intro p hp s3 H3' fp;have l0:Rs K H1 env1 σ (((frA fr).map qw).zip (cx fr σ)++(Fg++Fr)):=⟨rs1.1,by refine Rp.perm ?_ (A' _ _ _);rw[uJ];exact yH fr _ rs1.2⟩
 have l1:=m8 (gC fr σ) l0;obtain⟨ie0,ou,e0⟩:∃ie0 ou,lend (frA fr) env1=(ie0,ou):=⟨_,_,rfl⟩;have lie:ie0.length=(cx fr σ).length:=by have:=j9 (frA fr) env1;rw[e0,EM]at this;rw[xB];exact this
 rw[e0]at l1 w0;have rp0:Rp K (upd H1 p (.lst [])) ((.lst true [],some (.ref p))::(ie0.zip (cx fr σ)++(Fg++(ou.zip σ++Fr)))):=by refine fk (ts:=[]) (vs:=[]) (l1.2.perm ?_) rfl hp (bF hp _) aN;show PN (ou.zip σ++(ie0.zip (cx fr σ)++(Fg++Fr))) (ie0.zip (cx fr σ)++(Fg++(ou.zip σ++Fr)));exact(A' _ _ _).trans ((A' _ _ _).append_left _)
 refine⟨fun i m σ' H'=>∃acc ie,W i acc ie/\Rs K H' ie σ' ((.lst true acc,some (.ref p))::(Fg++(ou.zip σ++Fr)))/\Kept (κc fr) (cx fr σ) σ'/\m+i=its.length/\acc.length<=i,⟨its.length,[],ie0,w0,.of lie rp0,.refl,rfl,b_ _⟩,?_⟩;rintro i m σ1 H2 ⟨acc,ie,w2,rs2,k2,hm,ha⟩;have rp2:Rp K H2 (Fg++((.lst true acc,some (.ref p))::(ie.zip σ1++(ou.zip σ++Fr)))):=by refine rs2.head.perm ?_;refine C' ?_ j_.symm;exact .cons _ (A' _ _ _)
 by_cases hlt:i<its.length
 ·have ei:its[i]?=some its[i]:=c_ hlt;obtain⟨hgo,hy⟩:=ok.turn i its[i] H2 _ ei rp2;refine .inr ⟨hgo,fun x H' hx=>?_⟩;have rp3:=hy x H' hx;have rs3:Rs K H' ie σ1 ((its[i],some x)::((.lst true acc,some (.ref p))::(Fg++(ou.zip σ++Fr)))):=.of rs2.1 (rp3.perm (.cons _ (by refine j_.trans ?_;refine C' ?_ j_.symm;exact .cons _ (A' _ _ _))))
  refine⟨its[i],ie,_,_,rs3,wt i its[i] acc ie w2 ei,fun ie3 σ3 H3 q3 rs4 k4=>?_⟩;refine⟨ie3,_,_,rs4,q3,fun b ie4 H4 q4 rs5=>ff ⟨fun hb=>?_,fun hb=>?_⟩⟩
  ·refine⟨ie4,_,_,rs5,q4.1 hb,fun u ie5 v H5 q5 rs6=>?_⟩;have r7:=rs6.perm (.swap _ _ _);obtain⟨a',ys,ea,hys,ly,r8⟩:=gM r7.head;cases ea;refine⟨ys,hys,by rw[<-ly];exact Mg ha (NU hlt hz),m-1,by lia,acc++[u],ie5,q5,.of r7.1 ?_,k2.trans k4,by lia,by rw[f'];simp;omega⟩;refine fE (ts:=acc++[u]) (vs:=ys++[v]) (r8.perm (.cons _ ?_)) (by rw[f',f',ly];rfl) Put.up;rw[lh ly,k_];refine LJ _ ?_;exact j_
  exact⟨m-1,by lia,acc,ie4,q4.2 hb,rs5,k2.trans k4,by lia,by lia⟩
 have:i=its.length:=by lia
 subst this;refine .inl ⟨ok.stop H2 _ rp2,c _ _ _ _ (we acc ie w2) ?_⟩;rw[e0];have ao:mS (frA fr) σ1 σ:=lR fr (cx fr σ) σ1 σ k2.1 k2.2 (gC fr σ);refine mE ao (env:=ou) ⟨l1.1,?_⟩;refine rp2.part.perm ?_;refine C' ?_ (A' _ _ _);refine C' j_.symm ?_;exact LJ _ j_.symm
noncomputable def GTs(X:Cx)(ifs:List Qx)(f:PB):Prop:=PTs X ifs (wB X.K f)
noncomputable def vv:PB:=fun env k=>k true env
theorem b8{X:Cx}:GTs X [] vv:=fun pins s σ H Q I ⟨env,Fr,k,rs,q,c⟩=>DI pins s σ H Q I (c _ _ _ q rs)
theorem ug{X:Cx}{c:Qx}{f:PB}(h:GT X c f):GTs X [c] f:=EO h
theorem bz{X:Cx}{N ps:List Str}{esc:Rc}(S:FnScope N ps esc)(N':List Str)(fr:List (Option Nat))(nd:N'.Nodup){elt target iter:Qx}{ifs:List Qx}{sc:Rc}{pos:Pos}{fi:PIt}{g:PG'}{ft:PB}{fe:PF}(C:jj N esc sc N' fr=true)
  (hi:GI X target iter fi) (hg:∀s3 H3 fp,GG (κc fr) (aV X N' sc s3 H3 fp) target g) (ht:∀s3 H3 fp,GTs (aV X N' sc s3 H3 fp) ifs ft) (he:∀s3 H3 fp,GE (aV X N' sc s3 H3 fp) elt fe)
  (hc:X.calm=true:=by rfl) (hN:X.N=N:=by rfl) (hS:X.env.scope=esc:=by rfl) (hs:∀x,Q_ iter X.env x=pure x:=by intro _;rfl):GE X (.ListComp elt [⟨target,iter,ifs,0⟩] sc pos) (uR fr fi g ft fe):=
 PE.imp (CJ S N' fr nd C hi hg ht he hc hN hS hs) wW
abbrev PM:=T->List T->(T->T->Prop)->Prop
noncomputable def MtP(X:Cx)(id:String)(m:PM):Prop:=MtM X id (fun x xs H Q=>∃t ts Γ k,ts.length=xs.length/\Rp X.K H ((t,some x)::(zz ts xs++Γ))/\m t ts k/\∀t' r v H',k t' r->Rp X.K H' ((r,some v)::(t',some x)::Γ)->Q v H')
noncomputable def isL:T->Bool
 | .lst _ _=>true
 | _=>false
noncomputable def yV(i:Nat)(m:PM)(fr:PFs):PF:=fun env k=>got (env[i]?) fun t0=>isL t0=true/\fr env fun ts env1=>got (env1[i]?) fun t=>m t ts fun t' r=>k r (env1.set i t')
section
variable{X:Cx}{e o:Qx}{es:List Qx}{fr:PFs}{fe:PF}{m:PM}{name:Str}{id:String}{apos cpos pos:Pos}
theorem Ft{H:Hp}{Γ:Fm}{t:T}{v:V}(h:isL t=true)(rp:Rp X.K H ((t,some v)::Γ)):tyV X.K "list" v H:=by
 cases t <;> first|cases h|skip
 obtain⟨a,vs,rfl,hq,l,_⟩:=oY rp;exact .inl ⟨rfl,vs,.inl hq⟩
theorem E7{t:T}(h:isL t=true):isAny t=false:=by cases t <;> first|rfl|cases h
theorem FG{i:Nat}:∀ σ H Q,wE X.K (yV i m fr) σ H Q->tBM X.K "list" (fun x xs H Q=>∃t ts Γ k,ts.length=xs.length/\Rp X.K H ((t,some x)::(zz ts xs++Γ))/\m t ts k/\∀t' r v H',k t' r->Rp X.K H' ((r,some v)::(t',some x)::Γ)->Q v H') (GC i) (wA X.K fr) σ H Q:=by
 rintro σ H Q ⟨env,Fr,k,rs,q,c⟩;obtain⟨t0,e0,hl,q⟩:=aF q;obtain⟨y,ey,rs2⟩:=rs.slot e0;obtain⟨v,rfl⟩:=eI rs2 (E7 hl);refine⟨v,ey,Ft hl rs2.head,env,Fr,_,rs,q,fun ts env1 vs H1 q1 l rs1=>?_⟩;obtain⟨t,et,q1⟩:=aF q1;obtain⟨y',ey',rs3⟩:=rs1.slot et;rw[ey]at ey';cases ey';have hi:i<env1.length:=(d_.mp et).1;refine⟨t,ts,(env1.set i .any).zip σ++Fr,_,l,?_,q1,fun t' r w H' kt rp=>c _ _ _ _ kt ?_⟩
 ·refine rs3.head.perm (.cons _ ?_);exact A' _ _ _
 have r4:Rs X.K H' (env1.set i .any) σ ((t',some v)::(r,some w)::Fr):=.of rs3.1 (rp.perm (by refine C' (.swap _ _ _) ?_;exact .cons _ j_.symm))
 have r5:=Rs.nK (i:=i) r4 (by rw[Lv];exact hi) ey;rw[OA]at r5;exact r5
theorem bQ(i:Nat){x:Str}{xp:Pos}(slot:WK "list" name id)(hty:WL (.builtin id)=pure (.type "method_descriptor"))(hm:MtP X id m)(ha:GA X (e::es) fr)(hN:X.N[i]?=some x:=by rfl)(hv:Vis X.env.scope x:=by first|exact e_ rfl|exact s_ (e_ rfl)|exact s_ (s_ rfl))(hd:(x ==("__debug__":Str))=false:=by decide)(hcd:(x ==("__classdict__":Str))=false:=by decide)
  (hbase:TH (.Name x xp) name X.env (QO (.Name x xp) X.env)=QO (.Name x xp) X.env:=by rfl)
  (hfew:((Si cpos (QA (e::es) X.env)).all (fun x=>!x.1)&&(backToKw cpos (Xd [] X.env)).all (fun x=>x.1.isSome)&&decide ((e::es).length+([]:List V7).length+(if([]:List V7).isEmpty then 0 else 1)<30))=true:=by rfl)
  (hline:(apos.endLine == cpos.line)=true:=by rfl) (hs:QA (e::es) X.env=(false,QO e X.env)::QA es X.env:=by rfl) (hplain:(Si cpos (QA es X.env)).any (·.1)=false:=by rfl) :
  GE X (.Call (.Attribute (.Name x xp) name apos) (e::es) [] cpos) (yV i m fr):=PE.imp (IV Ug slot hty hm (jr hN hv hd hcd) ha hbase hfew hline hs hplain) FG
theorem Ct(i:Nat){x:Str}{xp:Pos}(slot:WK "list" name id)(hty:WL (.builtin id)=pure (.type "method_descriptor"))(hm:MtP X id m)(hN:X.N[i]?=some x:=by rfl)(hv:Vis X.env.scope x:=by first|exact e_ rfl|exact s_ (e_ rfl)|exact s_ (s_ rfl))(hd:(x ==("__debug__":Str))=false:=by decide)(hcd:(x ==("__classdict__":Str))=false:=by decide)
  (hbase:TH (.Name x xp) name X.env (QO (.Name x xp) X.env)=QO (.Name x xp) X.env:=by rfl) (hline:(apos.endLine == cpos.line)=true:=by rfl) :
  GE X (.Call (.Attribute (.Name x xp) name apos) [] [] cpos) (yV i m HU):=by
 refine PE.imp (Ib Ug slot hty hm (jr hN hv hd hcd) hbase hline) fun σ H Q h=>?_;obtain⟨v,ev,ty,env,Fr,k,rs,q,c⟩:=FG σ H Q h;exact⟨v,ev,ty,c [] env [] H q rfl rs⟩
noncomputable def ur:PM
 | .lst true ts,[t],k=>ts.length<sizeLine/\k (.lst true (ts++[t])) .non
 | _,_,_=>False
noncomputable def sW:PM
 | .lst true ts,[.lst true us],k=>ts.length+us.length<=sizeLine/\k (.lst true (ts++us)) .non
 | _,_,_=>False
noncomputable def GL:PM
 | .lst true ts,[],k=>got (ts[ts.length-1]?) fun t=>k (.lst true ts.dropLast) t
 | _,_,_=>False
theorem bu:MtP X "list.append" ur:=by
 rintro pins s σ H x xs v us Q I rx r ⟨t,ts,Γ,k,l,rp,g,c⟩;unfold ur at g;split at g
 ·rename_i k ts t;obtain⟨y,rfl⟩:=zz1 l rfl;obtain⟨a,vs,ea,ha,la,rp2⟩:=gM rp;cases ea;refine wQ pins s σ H _ _ v us Q I rx r ⟨a,vs,y,rfl,rfl,ha,by rw[<-la];exact g.1,fun H' hp=>c _ _ _ _ g.2 (bN ?_ fun _=>.non)⟩;refine fE (ts:=ts++[t]) (vs:=vs++[y]) ?_ (by rw[f',f',la];rfl) hp;rw[lh la,k_];exact rp2
 exact QC g
theorem lx:MtP X "list.extend" sW:=by
 rintro pins s σ H x xs v us Q I rx r ⟨t,ts,Γ,k,l,rp,g,c⟩;unfold sW at g;split at g
 ·rename_i k ts us';obtain⟨y,rfl⟩:=zz1 l rfl;obtain⟨a,vs,ea,ha,la,rp2⟩:=gM rp;cases ea;have rp3:Rp X.K H ((.lst true us',some y)::(.bare,some (.ref a))::(zz ts vs++Γ)):=rp2.perm (by refine C' (.cons _ j_) ?_;exact .swap _ _ _)
  obtain⟨b,ws,eb,hb,lb,rp4⟩:=gM rp3;cases eb;have rp5:Rp X.K H ((.bare,some (.ref a))::(zz (ts++us') (vs++ws)++Γ)):=by rw[lh la,k_];refine rp4.tail.perm ?_;refine j_.trans (.cons _ ?_);exact A' _ _ _
  exact wD pins s σ H _ _ v us Q I rx r ⟨a,b,vs,ws,rfl,rfl,ha,hb,by rw[<-la,<-lb];exact g.1,fun H' hp=>c _ _ _ _ g.2 (bN (fE rp5 (by rw[f',f',la,lb]) hp) fun _=>.non)⟩
 exact QC g
theorem Fn:∀{ts:List T}{vs:List V}{t:T}{w:V},ts.length=vs.length->ts[ts.length-1]?=some t->vs[vs.length-1]?=some w->(zz ts vs).Perm ((t,some w)::zz ts.dropLast vs.dropLast):=by
 intro ts vs t w l e f;have hts:ts=ts.dropLast++[t]:=by rw[<-Oq]at e;obtain⟨ys,rfl⟩:=Ot.mp e;rw[NY]
 have hvs:vs=vs.dropLast++[w]:=by rw[<-Oq]at f;obtain⟨ys,rfl⟩:=Ot.mp f;rw[NY]
 have:zz ts vs=zz (ts.dropLast++[t]) (vs.dropLast++[w]):=by rw[<-hts,<-hvs]
 rw[this,lh (by rw[MK,MK,l])];exact Md
theorem DT:MtP X "list.pop" GL:=by
 rintro pins s σ H x xs v us Q I rx r ⟨t,ts,Γ,k,l,rp,g,c⟩;unfold GL at g;split at g
 ·rename_i k ts;have:xs=[]:=by cases xs with|nil=>rfl|cons _ _=>cases l
  subst this;obtain⟨t,et,kt⟩:=aF g;obtain⟨a,vs,ea,ha,la,rp2⟩:=gM rp;cases ea;obtain⟨w,ew⟩:=qy la et;rw[la]at ew;refine HD pins s σ H _ _ v us Q I rx r ⟨a,vs,w,rfl,rfl,ha,ew,c _ _ _ _ kt ?_⟩;have rp3:Rp X.K H ((.bare,some (.ref a))::(zz ts.dropLast vs.dropLast++((t,some w)::Γ))):=rp2.perm (.cons _ (((Fn la et ew).append_right Γ).trans j_.symm));exact(fE rp3 (by rw[MK,MK,la]) Put.up).perm (.swap _ _ _)
 exact QC g
end
noncomputable def outs(ms:List Bool)(env:Ev):List T:=ms.zipWith (fun b t=>if b then t else .any) env
noncomputable def κm(ms:List Bool)(j:Nat):Bool:=match ms[j]? with
 |some b=>b
 |none=>false
theorem mJ{K:Qg}{H:Hp}{Γ:Fm}:∀{ms:List Bool}{env:Ev}{σ:L2.St}{vs:List V},ms.length=vs.length->(∀j,κm ms j=true->σ[j]?=(vs[j]?).map some)->Rp K H (env.zip σ++Γ)->Rp K H (zz (outs ms env) vs++Γ)
 | [],env,σ,vs,l,k,h=>h.part
 | _::_,_,_,[],l,_,_=>by cases l
 |m::ms,[],σ,v::vs,l,k,h=>h
 |m::ms,t::env,[],v::vs,l,k,h=>by
  have ih:=mJ (ms:=ms) (env:=env) (σ:=[]) (vs:=vs) (by simpa using l) (fun j hj=>by have:=k (j+1) hj;simpa using this) (by simpa using h)
  cases m with
  |true=>have:=k 0 rfl;simp at this
  |false=>exact jk ih
 |m::ms,t::env,x::σ,v::vs,l,k,h=>by
  have h:Rp K H ((t,x)::(env.zip σ++Γ)):=h;have ks:∀j,κm ms j=true->σ[j]?=(vs[j]?).map some:=fun j hj=>by have:=k (j+1) hj;simpa using this
  cases m with
  |true=>
   have e:x=some v:=by have:=k 0 rfl;simpa using this
   subst e;have h2:Rp K H (env.zip σ++((t,some v)::Γ)):=h.perm j_.symm;exact(mJ (ms:=ms) (by simpa using l) ks h2).perm j_
  |false=>exact jk (mJ (ms:=ms) (by simpa using l) ks h.tail)
theorem BN{K:Qg}{H:Hp}{Γ:Fm}{ts:List T}{vs:List V}(l:ts.length=vs.length)(n:Nat)(h:Rp K H (zz ts vs++Γ)):Rp K H ((ts++MB n T.any).zip (vs.map some++MB n none)++Γ):=by
 rw[PC (by rw[a_];exact l),k_];have:∀n,Rp K H (zz ts vs++((MB n T.any).zip (MB n (none:Option V))++Γ)):=by
  intro n;induction n with
  |zero=>exact h
  |succ n ih=>
   rw[O2,O2];exact(jk (x:=none) ih).perm j_.symm
 exact this n
theorem bS{P:Qv}{w:Qy}{K:Qg}{mg:Str->Option Qf}{base:Qz}{x qual:Str}{st:QR}{f:Qh}{fd:QF}{N ps:List Str}{k:Nat}{Pr:FP}(F:Fun K x qual st f fd)(S:FnScope N ps (ax st))(ms:List Bool)(hms:ms.length=ps.length)
  (body:∀(cdv:Qf) (A:QE) (outer:List Env) (s:Qi) (H:Hp) (E:XK),Room k (A.deeper (Td qual (ax st) s.heap.objs.size f cdv))->
   ∃fb,GSs (κm ms) (wJ CX0 P w K mg base N qual (ax st) f cdv A outer s H E).nox (dA st) fb/\∀ts kk,ts.length=ps.length->Pr ts kk->fb { nx:=fun env=>kk .non (outs ms env),rt:=fun t env=>kk t (outs ms env) } (ts++MB (N.length-ps.length) .any)) :
  FnOk P w K mg base CX0 (k+1) f fd ps (aS K ps.length Pr):=by
 refine F.ok S (fun vs H Q E ⟨ts,Fr,kk,h1,h2,_⟩=>h2) (fun cdv A outer s H vs Q E hr ⟨ts,Fr,kk,h1,h2,rp,pr,c⟩=>?_);obtain⟨fb,hb,q⟩:=body cdv A outer s H E hr;refine⟨_,hb,ts++MB (N.length-ps.length) .any,Fr,_,?_,q ts kk (by rw[h1,h2]) pr,?_⟩
 ·unfold L2.start;rw[h2];refine⟨by simp[h1],BN h1 _ rp⟩
 have kv:∀{σ'},Kept (κm ms) (L2.start N vs) σ'->∀j,κm ms j=true->σ'[j]?=(vs[j]?).map some:=fun{σ'} kp j hj=>by
  rw[kp.2 j hj];unfold L2.start;have hj2:j<vs.length:=by
   rw[h2,<-hms];unfold κm at hj;split at hj
   ·rename_i b e;exact(d_.mp e).1
   cases hj
  rw[Mv (by rw[a_];exact hj2),D_]
 refine⟨fun env' σ' H' q' rs' k'=>c _ _ _ _ q' ?_,fun t env' v σ' H' q' rs' k'=>c _ _ _ _ q' ?_,fun _ _ _ z=>z.elim,fun _ _ _ z=>z.elim⟩
 ·exact bN (mJ (by rw[hms,h2]) (kv k') rs'.2) fun _=>.non
 exact(mJ (Γ:=(t,some v)::Fr) (by rw[hms,h2]) (kv k') rs'.2).perm j_
open PySem PySem.Spec PyProof.Rows L2
section
variable{X:Cx}{pos:Pos}
theorem Cp{st:QR}{te:TE}{i:Nat}(h:PS X st (DR te (yz i))):PS X st (fun D σ H=>te σ H fun v H'=>Gr H H'/\D.nx (σ.set i (some v)) (over H H')):=by
 intro pins s σ H D I q;have key:=h pins s σ H { nx:=fun σ' H'=>Gr H H'/\D.nx σ' (over H H'),rt:=fun _ _=>False} I q;refine thn key fun f s' hs=>?_;cases f with
 |next=>
  obtain⟨σ',H',I',g,q'⟩:=hs;exact⟨σ',over H H',qi I I' g,q'⟩
 |brk=>obtain⟨_,_,_,z⟩:=hs;exact z.elim
 |cont=>obtain⟨_,_,_,z⟩:=hs;exact z.elim
 |ret u=>obtain⟨_,_,_,_,_,z⟩:=hs;exact z.elim
theorem Ek{K:Qg}{f:PF}{σ:L2.St}{H:Hp}{Q:VK}(h:wE K (fQ f) σ H Q):wE K f σ H fun v H'=>Gr H H'/\Q v (over H H'):=by
 obtain⟨env,Fr,k,rs,q,c⟩:=h;have rv:Rs K H (erL env) σ ((Fr.map fun p=>(er p.1,p.2))++[(.kp H,some .non)]):=by refine⟨by rw[t6];exact rs.1,?_⟩;have:=uA rs.2;rw[q_,ph,k_]at this;exact this
 refine⟨erL env,_,_,rv,q,?_⟩;rintro t env' v H' ⟨n,kt⟩ rs';obtain⟨g,r2⟩:=uM rs.2 (Δ:=env'.zip σ++(Fr.map fun p=>(er p.1,p.2))) (by rw[k_];exact rs'.head) n;exact⟨g,c t env v _ kt (.of rs.1 r2)⟩
theorem iV{κ:Nat->Bool}{N ps:List Str}{esc:Rc}(S:FnScope N ps esc){i:Nat}{x:Str}{pos pos':Pos}(N':List Str)(fr:List (Option Nat))(nd:N'.Nodup){elt target iter:Qx}{ifs:List Qx}{sc:Rc}{pos2:Pos}{fi:PIt}{g:PG'}{ft:PB}{fe:PF}(C:jj N esc sc N' fr=true)
  (hi:X.N[i]?=some x) (hx:Loc X.env.scope x) (hκ:κ i=false) (hit:GI X target iter fi) (hg:∀s3 H3 fp,GG (κc fr) (aV X N' sc s3 H3 fp) target g) (ht:∀s3 H3 fp,GTs (aV X N' sc s3 H3 fp) ifs ft) (he:∀s3 H3 fp,GE (aV X N' sc s3 H3 fp) elt fe)
  (hsw:S8 (.ListComp elt [⟨target,iter,ifs,0⟩] sc pos2) (some (.Name x pos')) pos.line X.env=pure true) (hf:X.fn x=true:=by rfl)
  (hc:X.calm=true:=by rfl) (hN:X.N=N:=by rfl) (hS:X.env.scope=esc:=by rfl) (hs:∀x,Q_ iter X.env x=pure x:=by intro _;rfl):GS κ X (.Assign [.Name x pos'] (.ListComp elt [⟨target,iter,ifs,0⟩] sc pos2) pos) (HM i (fQ (uR fr fi g ft fe))):=by
 refine PS.imp (Cp (ED S N' fr nd C hi hx hit hg ht he hsw hf hc hN hS hs)) ?_;rintro D σ H ⟨env,Fr,pe,rs,q,c⟩;exact wW σ H _ (Ek (Q:=fun v H'=>D.nx (σ.set i (some v)) H') ⟨env,Fr,_,rs,q,fun t env' v H' q1 rs1=>c.nx _ _ _ q1 rs1.put (.set hκ)⟩)
theorem qT{x:Str}{n:String}(hg:Gl X x)(hm:X.mg x=none)(hv:RL x=some (.type n))(hn:x≠"__name__":=by decide)(hd:(x ==("__debug__":Str))=false:=by decide):GE X (.Name x pos) (fK (.ty n)):=
 PE.imp (EW (v:=.ty n) hg hm hv rfl hn hd) fun σ H Q ⟨env,Fr,k,rs,q,c⟩=>c _ _ _ _ q (fm rs fun _=>.ty)
noncomputable def Glb(K:Qg)(mg:Str->Option Qf)(x:Str)(t:T):Prop:=∃v u,mg x=some u/\RelV v u/\∀Hz H,RepT K Hz H t v []
theorem IS{x:Str}{t:T}(G:Glb X.K X.mg x t)(hg:Gl X x)(hd:(x ==("__debug__":Str))=false:=by decide):GE X (.Name x pos) (fK t):=by obtain⟨v,u,hm,r,ht⟩:=G;exact Eb hg hm r ht hd
theorem t5:GE X (.Dict [] [] pos) (fK (.dT true [])):=PE.imp CT fun σ H Q ⟨env,Fr,k,rs,q,c⟩=>fun p hp=>c _ _ _ _ q (.of rs.1 (ER rs.2 hp (bF hp _) aN))
noncomputable def HG:T->Option Ty
 | .non=>some .non
 | .bl _=>some .bl
 | .int _=>some .int
 | .str _=>some .str
 | .tup _=>some .tup
 | .cst _=>some .tup
 | .lst _ _=>some .lst
 | .dK _ _=>some .dct
 | _=>none
noncomputable def Fi:String->Option Ty
 | "NoneType"=>some .non
 | "bool"=>some .bl
 | "int"=>some .int
 | "str"=>some .str
 | "list"=>some .lst
 | "tuple"=>some .tup
 | "dict"=>some .dct
 | _=>none
theorem zC{n:String}{c:Ty}(h:Fi n=some c):n=c.nm:=by unfold Fi at h;split at h <;> cases h <;> rfl
noncomputable def zM:List T->Option (List Ty)
 | []=>some []
 | .ty n::r=>match Fi n,zM r with
  |some c,some cs=>some (c::cs)
  | _,_=>none
 | _::_=>none
noncomputable def jU:P1s
 | [x,.ty n],k=>got (HG x) fun t=>got (Fi n) fun c=>k (.bl (isA t c))
 | [x,.tup ts],k=>got (HG x) fun t=>got (zM ts) fun cs=>k (.bl (cs.any (isA t)))
 | _,_=>False
theorem Gh{K:Qg}{H:Hp}{Γ:Fm}{n:String}{y:V}(h:Rp K H ((.ty n,some y)::Γ)):y=.ty n:=by obtain⟨_,_,r,_⟩:=fq h rfl;cases r;rfl
theorem Dg{K:Qg}{H:Hp}{Γ:Fm}:∀{ts:List T}{cs:List Ty}{vs:List V},zM ts=some cs->ts.length=vs.length->Rp K H (zz ts vs++Γ)->vs=cs.map fun c=>V.ty c.nm
 | [],cs,[],e,_,_=>by cases e;rfl
 | [],_,_::_,_,l,_=>by cases l
 | _::_,_,[],_,l,_=>by cases l
 |t::ts,cs,v::vs,e,l,h=>by
  cases t <;> first|cases e|skip
  rename_i n;rw[zM]at e;split at e
  ·rename_i c r e1 e2;cases e;have h:Rp K H ((.ty n,some v)::(zz ts vs++Γ)):=h;rw[Gh h,zC e1,Dg e2 (by simpa using l) h.tail]
   rfl
  cases e
theorem CC{K:Qg}{H:Hp}{Γ:Fm}{t:T}{c:Ty}{y:V}(e:HG t=some c)(h:Rp K H ((t,some y)::Γ)):TyG K H y c:=by
 cases t with
 |non=>cases e;rw[qo h];exact .non
 |bl b=>cases e;rw[oI h];exact .bl b
 |int i=>cases e;rw[aK h];exact .int i
 |str x=>cases e;rw[kL h];exact .str x
 |tup ts=>cases e;obtain⟨a,vs,rfl,hq,_⟩:=aC rfl h;exact .tup hq
 |cst ts=>cases e;obtain⟨a,vs,rfl,hq,_⟩:=aC rfl h;exact .tup hq
 |lst o ts=>cases e;obtain⟨a,vs,rfl,hq,_⟩:=aC rfl h;exact .lst hq
 |dK o kvs=>
  cases o with
  |true=>cases e;obtain⟨a,vs,ea,hq,_⟩:=qg h;cases ea;exact .dct (.inl hq)
  |false=>
   cases e;obtain⟨Hz,L,r,g⟩:=fq h rfl;cases r;rename_i a vs hq _;exact .dct (g _ _ hq)
 | _=>cases e
theorem cy:iO X (.builtin "isinstance") jU:=by
 rintro pins s σ H xs us Q I r ⟨ts,Γ,k,l,rp,g,c⟩;unfold jU at g;split at g
 ·rename_i k x n;obtain⟨y,z,rfl⟩:=zz2 l rfl;have rp:Rp X.K H ((x,some y)::(.ty n,some z)::Γ):=rp;obtain⟨t,et,g⟩:=aF g;obtain⟨ct,ec,kt⟩:=aF g;rw[Gh rp.tail,zC ec]at r;have e1:[ct].any (isA t)=isA t ct:=by simp
  refine o9 pins s σ H _ us Q I r ⟨y,_,t,[ct],rfl,CC et rp,.inl ⟨ct,rfl,rfl⟩,?_⟩;rw[e1];exact c _ _ _ kt (bN rp.tail.tail fun _=>.bl)
 ·rename_i k x us';obtain⟨y,z,rfl⟩:=zz2 l rfl;have rp:Rp X.K H ((x,some y)::(.tup us',some z)::Γ):=rp;obtain⟨t,et,g⟩:=aF g;obtain⟨cs,ec,kt⟩:=aF g;obtain⟨a,vs,rfl,ha,la,rp2⟩:=oV rp.tail;have hv:=Dg ec la rp2;subst hv;exact o9 pins s σ H _ us Q I r ⟨y,_,t,cs,rfl,CC et rp,.inr ⟨a,rfl,ha⟩,c _ _ _ kt (bN rp.tail.tail fun _=>.bl)⟩
 exact QC g
end
section
variable{κ':Type}[DecidableEq κ']
theorem vF:∀{ts:List (κ'×T)}{vs:List (κ'×V)} (q:κ') (t:T) (w:V),ts.map (·.1)=vs.map (·.1)->(nu ts q t).map (·.1)=(putK vs q w).map (·.1):=by
 intro ts vs q t w e;have ha:(ts.any fun kv=>decide (kv.1=q))=(vs.any fun kv=>decide (kv.1=q)):=by
  have e1:(ts.any fun kv=>decide (kv.1=q))=(ts.map (·.1)).any fun k=>decide (k=q):=by rw[PU];rfl
  have e2:(vs.any fun kv=>decide (kv.1=q))=(vs.map (·.1)).any fun k=>decide (k=q):=by rw[PU];rfl
  rw[e1,e2,e]
 unfold nu putK;rw[ha];split
 ·rw[B',B'];have f1:((fun x:κ'×T=>x.1) ∘ fun kv=>if kv.1=q then(kv.1,t)else kv)=fun x=>x.1:=by funext kv;show(if kv.1=q then(kv.1,t)else kv).1=kv.1;split <;> rfl
  have f2:((fun x:κ'×V=>x.1) ∘ fun kv=>if kv.1=q then(kv.1,w)else kv)=fun x=>x.1:=by funext kv;show(if kv.1=q then(kv.1,w)else kv).1=kv.1;split <;> rfl
  rw[f1,f2,e]
 rw[q_,q_,e]
 rfl
theorem rJ:∀{ts:List (κ'×T)}{vs:List (κ'×V)} (q:κ') (t:T) (w:V),ts.map (·.1)=vs.map (·.1)->(vs.map (·.1)).Nodup->∃r,((t,some w)::zz (ts.map (·.2)) (vs.map (·.2))).Perm (r++zz ((nu ts q t).map (·.2)) ((putK vs q w).map (·.2))):=by
 intro ts vs q t w e nd;by_cases hm:q∈vs.map (·.1)
 ·
  have ha:(vs.any fun kv=>decide (kv.1=q))=true:=by obtain⟨kv,h1,h2⟩:=t_.mp hm;exact MR.mpr ⟨kv,h1,decide_eq_true h2⟩
  have hb:(ts.any fun kv=>decide (kv.1=q))=true:=by rw[<-e]at hm;obtain⟨kv,h1,h2⟩:=t_.mp hm;exact MR.mpr ⟨kv,h1,decide_eq_true h2⟩
  unfold nu putK;rw[if_pos ha,if_pos hb];clear ha hb;induction ts generalizing vs with
  |nil=>
   have:vs=[]:=by cases vs with|nil=>rfl|cons _ _=>cases e
   subst this;cases hm
  |cons a ts ih=>
   cases vs with
   |nil=>cases e
   |cons b vs=>
    obtain⟨k1,t1⟩:=a;obtain⟨k2,v1⟩:=b;rw[g_,g_,Mw]at e;have ek:k1=k2:=e.1;subst ek;rw[g_,F']at nd;by_cases hk:k1=q
    ·subst hk;have n1:∀kv∈ts,kv.1≠k1:=fun kv hkv z=>nd.1 (by rw[<-e.2];exact t_.mpr ⟨kv,hkv,z⟩)
     have n2:∀kv∈vs,kv.1≠k1:=fun kv hkv z=>nd.1 (t_.mpr ⟨kv,hkv,z⟩);have m1:ts.map (fun kv=>if kv.1=k1 then(kv.1,t)else kv)=ts:=by
      conv=>rhs;rw[<-N_ ts]
      exact Mo fun kv hkv=>if_neg (n1 kv hkv)
     have m2:vs.map (fun kv=>if kv.1=k1 then(kv.1,w)else kv)=vs:=by
      conv=>rhs;rw[<-N_ vs]
      exact Mo fun kv hkv=>if_neg (n2 kv hkv)
     refine⟨[(t1,some v1)],?_⟩;simp only[g_,if_true,m1,m2];exact .swap _ _ _
    have hm':q∈vs.map (·.1):=by
     rcases n_.mp hm with z|z
     ·exact absurd z.symm hk
     exact z
    obtain⟨r,p⟩:=ih e.2 nd.2 hm';refine⟨r,?_⟩;simp only[g_,if_neg hk];show PN ((t,some w)::(t1,some v1)::zz (ts.map (·.2)) (vs.map (·.2))) (r++((t1,some v1)::zz ((ts.map fun kv=>if kv.1=q then(kv.1,t)else kv).map (·.2)) ((vs.map fun kv=>if kv.1=q then(kv.1,w)else kv).map (·.2))));exact(MC _ _ _).trans ((p.cons _).trans j_.symm)
 have ha:(vs.any fun kv=>decide (kv.1=q))=false:=by rw[M3];intro z;obtain⟨kv,h1,h2⟩:=MR.mp z;exact hm (t_.mpr ⟨kv,h1,of_decide_eq_true h2⟩)
 have hb:(ts.any fun kv=>decide (kv.1=q))=false:=by rw[M3];intro z;obtain⟨kv,h1,h2⟩:=MR.mp z;exact hm (by rw[<-e];exact t_.mpr ⟨kv,h1,of_decide_eq_true h2⟩)
 unfold nu putK;rw[ha,hb];refine⟨[],?_⟩;simp only[Kk,if_false,NX];rw[q_,q_,lh (by rw[a_,a_];exact bX e)];exact(Md (l₁:=[(t,some w)]))
end
noncomputable def uX:T->T->T->(T->Prop)->Prop
 | .lst true ts,.int i,v,k=>got (ixN ts.length i) fun j=>k (.lst true (ts.set j v))
 | .dK true kvs,y,v,k=>got (xT y) fun q=>kvs.length<sizeLine/\k (.dK true (nu kvs q v))
 | .dT true kvs,.tup ks,v,k=>got (oO ks) fun q=>kvs.length<sizeLine/\k (.dT true (nu kvs q v))
 | _,_,_,_=>False
section
variable{X:Cx}{κ:Nat->Bool}{pos:Pos}
theorem D5{P:Qv}{w:Qy}{H:Hp}{h:Qz}{a:Qh}{kvs:List (List Key×V)}(ok:HOk P w H h)(e:H a=some (.dT kvs)):(kvs.map (·.1)).Nodup:=by
 obtain⟨z,y,xs,r,o,es,ep,h1,h2,h3,h4,h5⟩:=ok a _ e;have:kvs.map (·.1)=xs.map (·.1):=by
  clear h4 h5 h1 z e;induction r with
  |nil=>rfl
  |cons q _ ih=>rw[g_,g_,ih,q.1]
 rw[this];exact h5
theorem BE{P:Qv}{w:Qy}{H:Hp}{h:Qz}{a:Qh}{kvs:List (Key×V)}(ok:HOk P w H h)(e:H a=some (.dK kvs)):(kvs.map (·.1)).Nodup:=by
 obtain⟨z,y,vs,r,o,es,ep,h1,h2,h3,h4,h5,h6⟩:=ok a _ e;have:kvs.map (·.1)=vs.map (·.1):=by
  clear h6 h5 h4 h1 z e;induction r with
  |nil=>rfl
  |cons q _ ih=>rw[g_,g_,ih,q.1]
 rw[this];exact h6
theorem BL:∀{ts:List T}{vs:List V}{j:Nat}{t:T}{w:V},ts.length=vs.length->j<ts.length->∃r,((t,some w)::zz ts vs).Perm (r::zz (ts.set j t) (vs.set j w))
 | [],vs,j,t,w,l,h=>by cases h
 |a::ts,[],j,t,w,l,h=>by cases l
 |a::ts,b::vs,0,t,w,l,h=>⟨(a,some b),.swap _ _ _⟩
 |a::ts,b::vs,j+1,t,w,l,h=>by obtain⟨r,p⟩:=BL (ts:=ts) (vs:=vs) (j:=j) (t:=t) (w:=w) (by simpa using l) (by simpa using h);exact⟨r,(MC _ _ _).trans ((p.cons _).trans (.swap _ _ _))⟩
theorem Kq{kr:Nat}(hr:Room kr X.A):xn X (fun o i v H Q=>∃t ti tv Γ k,Rp X.K H ((t,some o)::(ti,some i)::(tv,some v)::Γ)/\uX t ti tv k/\∀t' H',k t'->Rp X.K H' ((t',some o)::Γ)->Q H'):=by
 rintro pins s σ H o i v ov iv u Q I ro ri rv ⟨t,ti,tv,Γ,k,rp,g,c⟩;cases t with
 |lst own ts=>
  cases own <;> cases ti <;> first|exact QC g|skip
  rename_i j;obtain⟨m,em,kt⟩:=aF g;rw[aK rp.tail]at ri;obtain⟨a,vs,ea,ha,la,rp2⟩:=gM rp;cases ea;have hm:m<ts.length:=by have:=(tj em).2.1;exact this
  rw[la]at em;refine Ag pins s σ H _ _ v ov iv u Q I ro ri rv ⟨a,vs,j,m,rfl,rfl,ha,em,fun H' hp=>c _ _ kt ?_⟩;obtain⟨r,p⟩:=BL (t:=tv) (w:=v) la hm;have rp3:Rp X.K H ((.bare,some (.ref a))::(zz ts vs++((tv,some v)::Γ))):=by
   have:Rp X.K H ((.int j,some i)::((.bare,some (.ref a))::(zz ts vs++((tv,some v)::Γ)))):=rp2.perm (by refine C' (.cons _ j_) ?_;exact .swap _ _ _)
   exact this.tail
  have rp4:Rp X.K H (r::((.bare,some (.ref a))::(zz (ts.set m tv) (vs.set m v)++Γ))):=rp3.perm (by refine C' (.cons _ (j_.trans (p.append_right Γ))) ?_;exact .swap _ _ _)
  exact fE rp4.tail (by rw[Lv,Lv,la]) hp
 |dK own kvs=>
  cases own <;> first|exact QC g|skip
  have g:got (xT ti) fun q=>kvs.length<sizeLine/\k (.dK true (nu kvs q tv)):=by cases ti <;> exact g
  obtain⟨q,eq,hz,kt⟩:=aF g;rw[ya eq rp.tail]at ri;obtain⟨a,vs,ea,ha,la,rp2⟩:=qg rp;cases ea;cases ro;have hl:vs.length<sizeLine:=by rw[<-bX la];exact hz
  refine nH (rm hr) I (.inl ⟨vs,q,ha,rfl,hl,rfl⟩) ri rv fun s' I'=>⟨_,I',c _ _ kt ?_⟩;obtain⟨r,p⟩:=rJ q tv v la (BE I.hok ha);have rp3:Rp X.K H ((.bare,some (.ref a))::(zz (kvs.map (·.2)) (vs.map (·.2))++((tv,some v)::Γ))):=by
   have:Rp X.K H ((ti,some i)::((.bare,some (.ref a))::(zz (kvs.map (·.2)) (vs.map (·.2))++((tv,some v)::Γ)))):=rp2.perm (by refine C' (.cons _ j_) ?_;exact .swap _ _ _)
   exact this.tail
  have rp4:Rp X.K H (r++((.bare,some (.ref a))::(zz ((nu kvs q tv).map (·.2)) ((putK vs q v).map (·.2))++Γ))):=rp3.perm (by refine C' (.cons _ (j_.trans (p.append_right Γ))) ?_;rw[k_];exact j_.symm)
  exact rC rp4.part (vF q tv v la) Put.up
 |dT own kvs=>
  cases own <;> cases ti <;> first|exact QC g|skip
  rename_i ks;obtain⟨q,eq,hz,kt⟩:=aF g;obtain⟨b,rfl,hb⟩:=yF eq rp.tail;obtain⟨a,vs,ea,ha,la,rp2⟩:=CH rp;cases ea;cases ro;have hl:vs.length<sizeLine:=by rw[<-bX la];exact hz
  refine nH (rm hr) I (.inr ⟨vs,q,b,ha,rfl,hb,hl,rfl⟩) ri rv fun s' I'=>⟨_,I',c _ _ kt ?_⟩;obtain⟨r,p⟩:=rJ q tv v la (D5 I.hok ha);have rp3:Rp X.K H ((.bare,some (.ref a))::(zz (kvs.map (·.2)) (vs.map (·.2))++((tv,some v)::Γ))):=by
   have:Rp X.K H ((.tup ks,some (.ref b))::((.bare,some (.ref a))::(zz (kvs.map (·.2)) (vs.map (·.2))++((tv,some v)::Γ)))):=rp2.perm (by refine C' (.cons _ j_) ?_;exact .swap _ _ _)
   exact this.tail
  have rp4:Rp X.K H (r++((.bare,some (.ref a))::(zz ((nu kvs q tv).map (·.2)) ((putK vs q v).map (·.2))++Γ))):=rp3.perm (by refine C' (.cons _ (j_.trans (p.append_right Γ))) ?_;rw[k_];exact j_.symm)
  exact Ad rp4.part (vF q tv v la) Put.up
 | _=>cases ti <;> exact QC g
noncomputable def Ge(i:Nat)(fi:PF):PG':=fun v env k=>got (env[i]?) fun t0=>isAny t0=false/\fi env fun ti env1=>got (env1[i]?) fun t=>uX t ti v fun t'=>k (env1.set i t')
theorem qC{kr i:Nat}{x:Str}{xp:Pos}{ix:Qx}{fi:PF}(hr:Room kr X.A)(hi:GE X ix fi)(hN:X.N[i]?=some x:=by rfl)(hv:Vis X.env.scope x:=by first|exact e_ rfl|exact s_ (e_ rfl)|exact s_ (s_ rfl))(hd:(x ==("__debug__":Str))=false:=by decide)(hcd:(x ==("__classdict__":Str))=false:=by decide)
  (ha:∀v,SW (.Subscript (.Name x xp) ix pos) X.env v=(do
   let ov <-S9 [v] (QO (.Name x xp) X.env)
   let iv <-S9 [v,ov] (QO ix X.env)
   V4 pos
   S9 [v,ov,iv] (V3 ov iv v)
   release [v,ov,iv] []):=by intro _;rfl):GG κ X (.Subscript (.Name x xp) ix pos) (Ge i fi):=by
 rintro pins s σ H v u Q I r ⟨tv,env,Fr,k,rs,q,c⟩;obtain⟨t0,e0,na,q⟩:=aF q;obtain⟨y,ey,rs2⟩:=rs.slot e0;obtain⟨w,rfl⟩:=eI rs2 na;refine Bw (jr hN hv hd hcd) hi (Kq hr) ha pins s σ H v u Q I r ⟨w,ey,env,(tv,some v)::Fr,_,rs,q,fun ti env1 iv H1 q1 rs1=>?_⟩;obtain⟨t,et,q1⟩:=aF q1;obtain⟨y',ey',rs3⟩:=rs1.slot et;rw[ey]at ey';cases ey';have hi':i<env1.length:=(d_.mp et).1;refine⟨t,ti,tv,(env1.set i .any).zip σ++Fr,_,?_,q1,fun t' H' kt rp=>c _ _ _ kt ?_ .refl⟩
 ·refine rs3.head.perm (.cons _ ?_);refine C' j_ (.cons _ ?_);exact j_
 have r4:Rs X.K H' (env1.set i .any) σ ((t',some w)::Fr):=.of rs3.1 rp;have r5:=Rs.nK (i:=i) r4 (by rw[Lv];exact hi') ey;rw[OA]at r5;exact r5
end
open PySem PySem.Spec PyProof.Rows L2
class Th (α:Type) where
 v:α
noncomputable def JS(P:FP)(ts:List T)[k:Th (T->List T->Prop)]:Prop:=P ts k.v
noncomputable def jO(b:Bool)[A:Th Prop][B:Th Prop]:Prop:=cnd b A.v B.v
noncomputable def dg{α:Type}(o:Option α)[k:Th (α->Prop)]:Prop:=got o k.v
noncomputable def FK(fr:List (Option Nat))(its:List T)(g:PG')(ft:PB)(fe:PF)(env:Ev)[k:Th (T->Ev->Prop)]:Prop:=FX fr its g ft fe env k.v
theorem dh{α:Type}{u:α}{k:Th (α->Prop)}:dg (some u) (k:=k)=k.v u:=rfl
theorem b6{α:Type}{o:Option α}{u:α}{k:Th (α->Prop)}(e:o=some u)(h:k.v u):dg o (k:=k):=Hg e h
theorem dI{A B:Th Prop}:jO true (A:=A) (B:=B)=A.v:=propext ⟨fun h=>h.1 rfl,fun h=>Fy h⟩
theorem cE{A B:Th Prop}:jO false (A:=A) (B:=B)=B.v:=propext ⟨fun h=>h.2 rfl,fun h=>G6 h⟩
theorem gy{b:Bool}{A B:Th Prop}:jO (!b) (A:=A) (B:=B)=jO b (A:=B) (B:=A):=by cases b <;> simp only[OZ,N7,dI,cE]
theorem nS{b:Bool}{A B:Th Prop}(h1:b=true->A.v)(h2:b=false->B.v):jO b (A:=A) (B:=B):=⟨h1,h2⟩
theorem b9{p:Prop}{d:Decidable p}{A B:Th Prop}(h1:p->A.v)(h2:¬p->B.v):jO (decide p) (A:=A) (B:=B):=⟨fun h=>h1 (of_decide_eq_true h),fun h=>h2 (of_decide_eq_false h)⟩
theorem Ez{b:Bool}{A B:Th Prop}(e:b=true)(h:A.v):jO b (A:=A) (B:=B):=by rw[e];exact Fy h
theorem Ew{b:Bool}{A B:Th Prop}(e:b=false)(h:B.v):jO b (A:=A) (B:=B):=by rw[e];exact G6 h
section
variable{f g:PF}{env:Ev}{k:T->Ev->Prop}{kb:Bool->Ev->Prop}{tc td:PB}{pe:PEn}{u v:PSt}{fs:PFs}{fa:PAs}{ks:List T->Ev->Prop}{ka:List Arg->Ev->Prop}
theorem qH:fQ f env k=f (erL env) fun t _=>bO t=true/\k t env:=rfl
theorem kD:fQT tc env kb=tc (erL env) fun b _=>kb b env:=rfl
theorem qq{t:T}:fK t env k=k t env:=rfl
theorem fP{i:Nat}:Fs i env k=dg (env[i]?) (k:=⟨fun t=>isAny t=false/\aP t=true/\k t env⟩):=by unfold Fs;cases env[i]? <;> rfl
theorem lg{i:Nat}:fFz i env k=dg (env[i]?) (k:=⟨fun t=>isAny t=false/\k (er t) (env.set i (er t))⟩):=by unfold fFz;cases env[i]? <;> rfl
theorem lL{i:Nat}:fMv i env k=dg (env[i]?) (k:=⟨fun t=>isAny t=false/\k t (env.set i .any)⟩):=by unfold fMv;cases env[i]? <;> rfl
theorem hU{p:P2}:Aa p f g env k=f env fun x env1=>g env1 fun y env2=>p x y fun t=>k t env2:=rfl
theorem kC{p:T->(T->Prop)->Prop}:fUn p f env k=f env fun t env1=>p t fun u=>k u env1:=rfl
noncomputable def asB(t:T)[k:Th (Bool->Prop)]:Prop:=match t with
 | .bl b=>k.v b
 | _=>False
theorem kQ{b:Bool}{k:Th (Bool->Prop)}:asB (.bl b) (k:=k)=k.v b:=rfl
theorem gR:E3 f env kb=f env fun t env1=>asB t (k:=⟨fun b=>kb b env1⟩):=rfl
theorem hJ:K0 f env kb=f env fun t env1=>Ds t fun b=>kb b env1:=rfl
theorem cO{p q:P2}{h:PF}:wK p q f g h env k=f env fun x env1=>g env1 fun y env2=>aP y=true/\p x y fun z=>asB z (k:=⟨fun b=>jO b (A:=⟨h env2 fun u env3=>q y u fun t=>k t env3⟩) (B:=⟨k (.bl false) env2⟩)⟩):=rfl
theorem dZ:FW tc td env kb=tc env fun b env1=>jO b (A:=⟨td env1 kb⟩) (B:=⟨kb false env1⟩):=rfl
theorem iH:JB tc td env kb=tc env fun b env1=>jO b (A:=⟨kb true env1⟩) (B:=⟨td env1 kb⟩):=rfl
theorem eJ:FH tc env kb=tc env fun b env1=>kb (!b) env1:=rfl
theorem iu:IX f g env k=f env fun t env1=>asB t (k:=⟨fun b=>jO b (A:=⟨g env1 k⟩) (B:=⟨k (.bl false) env1⟩)⟩):=rfl
theorem i5:J8 f env k=f env fun t env1=>asB t (k:=⟨fun b=>k (.bl (!b)) env1⟩):=rfl
theorem kU:fIf tc f g env k=tc env fun b env1=>jO b (A:=⟨f env1 k⟩) (B:=⟨g env1 k⟩):=rfl
theorem gx:HU env ks=ks [] env:=rfl
theorem eG:Fz f fs env ks=f env fun t env1=>fs env1 fun ts env2=>ks (t::ts) env2:=rfl
theorem gp:JJ fs env k=fs env fun ts env1=>ts.length<=sizeLine/\k (.tup ts) env1:=rfl
theorem ip:K5 fs env k=fs env fun ts env1=>ts.length<=sizeLine/\k (.lst true ts) env1:=rfl
theorem kA{p:P1s}:fCl p fs env k=fs env fun ts env1=>p ts fun t=>k t env1:=rfl
theorem iD:JE env ka=ka [] env:=rfl
theorem iI:JG f fa env ka=f env fun t env1=>fa env1 fun as env2=>ka (.val t::as) env2:=rfl
theorem i7{i:Nat}:Gp i fa env ka=dg (env[i]?) (k:=⟨fun t=>isAny t=false/\fa env fun as env2=>ka (.bor i::as) env2⟩):=by
 unfold Gp;cases env[i]? with
 |none=>exact propext ⟨fun h=>h.1,fun h=>h.elim⟩
 |some t=>rfl
theorem gQ{n:Nat}{P:FP}:Hn n P fa env k=fa env fun as env1=>as.length=n/\JS P (lend as env1).1 (k:=⟨fun t ts'=>k t (back as ts' (lend as env1).2)⟩):=rfl
theorem eR{fr:List (Option Nat)}{fi:PIt}{gt:PG'}{ft:PB}{fe:PF}:uR fr fi gt ft fe env k=fi env fun its env1=>FK fr its gt ft fe env1 (k:=⟨k⟩):=rfl
theorem eV{i:Nat}{m:PM}:yV i m fs env k=dg (env[i]?) (k:=⟨fun t0=>isL t0=true/\fs env fun ts env1=>dg (env1[i]?) (k:=⟨fun t=>m t ts fun t' r=>k r (env1.set i t')⟩)⟩):=rfl
theorem kY{fl fh:PO'}:fSl f fl fh env k=f env fun t env1=>fl env1 fun lo env2=>fh env2 fun hi env3=>slT t lo hi fun u=>k u env3:=rfl
theorem iq{ko:Option Int->Ev->Prop}:Jd env ko=ko none env:=rfl
noncomputable def asI(t:T)[k:Th (Int->Prop)]:Prop:=match t with
 | .int b=>k.v b
 | _=>False
theorem fO{b:Int}{k:Th (Int->Prop)}:asI (.int b) (k:=k)=k.v b:=rfl
theorem gG{ko:Option Int->Ev->Prop}:Kx f env ko=f env fun t env1=>asI t (k:=⟨fun i=>ko (some i) env1⟩):=rfl
theorem dX:G2 pe env=pe.nx env:=rfl
theorem gL:Jx u v pe env=u {pe with nx:=v pe} env:=rfl
theorem dW:FN f pe env=f env fun _ env1=>pe.nx env1:=rfl
theorem iA:JP f pe env=f env fun t env1=>pe.rt t env1:=rfl
theorem lG:sIf tc u v pe env=tc env fun b env1=>jO b (A:=⟨u pe env1⟩) (B:=⟨v pe env1⟩):=rfl
theorem gI{i:Nat}:HM i f pe env=f env fun t env1=>pe.nx (env1.set i t):=rfl
theorem i6{gt:PG'}:Kf f gt pe env=f env fun t env1=>gt t env1 pe.nx:=rfl
noncomputable def asP(ts:List T)(k:T->T->Prop):Prop:=match ts with
 | [t,u]=>k t u
 | _=>False
theorem kc{t u:T}{k:T->T->Prop}:asP [t,u] k=k t u:=rfl
theorem fX{i:Nat}{p:P2}:Hi i f p pe env=dg (env[i]?) (k:=⟨fun t=>isAny t=false/\aP t=true/\f env fun u env1=>p t u fun w=>pe.nx (env1.set i w)⟩):=by
 unfold Hi;cases env[i]? with
 |none=>exact propext ⟨fun h=>h.1,fun h=>h.elim⟩
 |some t=>exact propext ⟨fun⟨⟨a,b⟩,c⟩=>⟨a,b,c⟩,fun⟨a,b,c⟩=>⟨⟨a,b⟩,c⟩⟩
theorem cT:AW tc u pe env=xD tc u pe env:=rfl
theorem fY{fi:PIt}{gt:PG'}:Ju fi gt u pe env=fi env fun its env1=>forL its gt u pe env1:=rfl
variable{t:T}{ke:Ev->Prop}{ts:List T}{gt:PG'}{gts:sV}
theorem qN{i:Nat}:gN i t env ke=ke (env.set i t):=rfl
theorem i8:G4 [] env ke=ke env:=propext ⟨fun h=>h.2,fun h=>⟨rfl,h⟩⟩
theorem eP:CM gt gts (t::ts) env ke=gt t env fun env1=>gts ts env1 ke:=rfl
theorem fZ{n:Nat}:gTp n gts (.tup ts) env ke=(ts.length=n/\gts ts env ke):=rfl
theorem dU{i:Nat}{fi:PF}:Ge i fi t env ke=dg (env[i]?) (k:=⟨fun t0=>isAny t0=false/\fi env fun ti env1=>dg (env1[i]?) (k:=⟨fun t1=>uX t1 ti t fun t'=>ke (env1.set i t')⟩)⟩):=rfl
variable{ki:List T->Ev->Prop}
theorem gY:JY f env ki=f env fun t env1=>dg (items t) (k:=⟨fun ts=>ki (erL ts) env1⟩):=rfl
noncomputable def as1(ts:List T)(k:Int->Prop):Prop:=match ts with
 | [.int j]=>k j
 | _=>False
noncomputable def as2(ts:List T)(k:Int->Int->Prop):Prop:=match ts with
 | [.int i,.int j]=>k i j
 | _=>False
theorem kW{j:Int}{k:Int->Prop}:as1 [.int j] k=k j:=rfl
theorem lD{i j:Int}{k:Int->Int->Prop}:as2 [.int i,.int j] k=k i j:=rfl
theorem jX:iR1 fs env ki=fs env fun ts env1=>as1 ts fun j=>(-(2 ^ 62)<=j/\j<2 ^ 62)/\ki (jQ 0 j.toNat) env1:=rfl
theorem lV:iR2 fs env ki=fs env fun ts env1=>as2 ts fun i j=>(-(2 ^ 62)<=i/\i<2 ^ 62/\-(2 ^ 62)<=j/\j<2 ^ 62)/\ki (jQ i (j-i).toNat) env1:=rfl
theorem kH:iZp fs env ki=fs env fun ts env1=>asP ts fun t u=>dg (items t) (k:=⟨fun as=>dg (items u) (k:=⟨fun bs=>ki (((erL as).zip (erL bs)).map fun p=>.tup [p.1,p.2]) env1⟩)⟩):=rfl
end
section
variable{k:T->Prop}{i j l:Int}{x y:Str}{ts us:List T}{o o' b c:Bool}{t:T}
theorem gF:Hs (.int i) (.int j) k=k (.int (i+j)):=rfl
theorem fL:Hs (.lst o ts) (.lst o' us) k=(ts.length+us.length<=sizeLine/\k (.lst true (ts++us))):=rfl
theorem fN:JO (.int i) (.int j) k=k (.int (i-j)):=rfl
theorem fI:J9 (.int i) (.int j) k=(vB i j/\k (.int (i*j))):=rfl
theorem ij:K9 (.int i) (.int j) k=(E6 i j/\k (.int (i/j))):=rfl
theorem eN:FA (.int i) (.int j) k=k (.int (i+j)):=rfl
theorem kh:ltT (.int i) (.int j) k=k (.bl (decide (i<j))):=rfl
theorem kF:leT (.int i) (.int j) k=k (.bl (decide (i<=j))):=rfl
theorem lN:gtT (.int i) (.int j) k=k (.bl (decide (j<i))):=rfl
theorem lu:geT (.int i) (.int j) k=k (.bl (decide (j<=i))):=rfl
theorem kG:Kv (.int i) k=k (.int (-i)):=rfl
theorem kB:eqT (.int i) (.int j) k=k (.bl (decide (i=j))):=by
 unfold eqT;refine propext ⟨fun h=>?_,fun h=>⟨rfl,rfl,show(0:Nat)<190 by decide,?_⟩⟩
 ·have:=h.2.2.2;rw[dt,dt,eqD]at this;rw[Me]at this;exact this
 rw[dt,dt,eqD,Me];exact h
theorem l9:eqT (.str x) (.str y) k=k (.bl (decide (x=y))):=by
 unfold eqT;refine propext ⟨fun h=>?_,fun h=>⟨rfl,rfl,show(0:Nat)<190 by decide,?_⟩⟩
 ·have:=h.2.2.2;rw[dt,dt,eqD,Me]at this;exact this
 rw[dt,dt,eqD,Me];exact h
theorem kT:neT (.str x) (.str y) k=k (.bl (!decide (x=y))):=by
 unfold neT;refine propext ⟨fun h=>?_,fun h=>⟨rfl,rfl,show(0:Nat)<190 by decide,?_⟩⟩
 ·have:=h.2.2.2;rw[dt,dt,eqD,Me]at this;exact this
 rw[dt,dt,eqD,Me];exact h
noncomputable def iT(ns:List Int):T:=.tup (ns.map T.int)
theorem ji{a b c d:Int}:eqT (.tup [.int a,.int b]) (.tup [.int c,.int d]) k=k (.bl (decide (a=c/\b=d))):=by
 have e:eqD (dt (.tup [.int a,.int b])) (dt (.tup [.int c,.int d]))=decide (a=c/\b=d):=by simp only[dt,dtL,eqD,eqL,Me,NM,Bool.decide_and]
 unfold eqT;rw[e];exact propext ⟨fun h=>h.2.2.2,fun h=>⟨rfl,rfl,(by simp[dt,dtL,dpt,iU]),h⟩⟩
theorem iJ:Kd t .non k=(isV t=true/\k (.bl (og t))):=by cases t <;> rfl
theorem eA:Gf t .non k=(isV t=true/\k (.bl (!og t))):=by cases t <;> rfl
theorem iF:ixT (.tup ts) (.int i) k=dg (atI ts i) (k:=⟨k⟩):=rfl
theorem gX:ixT (.cst ts) (.int i) k=dg (atI ts i) (k:=⟨k⟩):=rfl
theorem i9:ixT (.lst o ts) (.int i) k=dg (atI ts i) (k:=⟨k⟩):=rfl
theorem eF:oO []=some []:=rfl
theorem dS:oO (.int i::ts)=(oO ts).map fun ks=>T1 i::ks:=by rw[oO];cases oO ts <;> rfl
theorem pC{α:Type}(a:α)(l:List α):atI (a::l) 0=some a:=cK (j:=0) rfl
theorem qp{α:Type}(a b:α)(l:List α):atI (a::b::l) 1=some b:=cK (j:=1) rfl
theorem pX{α:Type}(a b c:α)(l:List α):atI (a::b::c::l) 2=some c:=cK (j:=2) rfl
theorem pK{α:Type}(a b c d:α)(l:List α):atI (a::b::c::d::l) 3=some d:=cK (j:=3) rfl
theorem pF{α:Type}(a b c d e:α)(l:List α):atI (a::b::c::d::e::l) 4=some e:=cK (j:=4) rfl
theorem qh{α:Type}(a b c d e f:α)(l:List α):atI (a::b::c::d::e::f::l) 5=some f:=cK (j:=5) rfl
theorem pP{α:Type}(a b c d e f g:α)(l:List α):atI (a::b::c::d::e::f::g::l) 6=some g:=cK (j:=6) rfl
theorem pA{α:Type}(a b c d e f g h:α)(l:List α):atI (a::b::c::d::e::f::g::h::l) 7=some h:=cK (j:=7) rfl
theorem dY:Dv [.lst o ts] k=k (.int ts.length):=rfl
theorem eC:Dv [.cst ts] k=k (.int ts.length):=rfl
theorem iw{kvs:List (List Key×T)}:Dv [.dT o kvs] k=k (.int kvs.length):=rfl
theorem kR:IZ [.int i] k=k (.int i.natAbs):=rfl
theorem kM:Cz [.int i,.int j] k=k (.int (max i j)):=rfl
theorem kS:Cz [.int i,.int j,.int l] k=k (.int (max (max i j) l)):=rfl
theorem lT:C8 [.int i,.int j] k=k (.int (min i j)):=rfl
theorem kJ:C8 [.int i,.int j,.int l] k=k (.int (min (min i j) l)):=rfl
theorem lA:Cz [.lst o ts] k=dg (intsOf ts) (k:=⟨fun ns=>ns≠[]/\∀r,iR ns r->k (.int r)⟩):=rfl
theorem lI:C8 [.lst o ts] k=dg (intsOf ts) (k:=⟨fun ns=>ns≠[]/\∀r,iP ns r->k (.int r)⟩):=rfl
theorem fU:yU [.lst o ts] k=k (.lst true ts):=rfl
theorem hZ:yU [.tup ts] k=k (.lst true ts):=rfl
theorem eK:pD [.lst o ts] k=k (.tup ts):=rfl
theorem lH:Iy [.lst o ts] k=dg (boolsOf ts) (k:=⟨fun bs=>k (.bl (bs.all id))⟩):=rfl
theorem qA{lo hi:Option Int}:slT (.lst o ts) lo hi k=k (.lst true (rg ts lo hi)):=rfl
theorem kN{kb:Bool->Prop}:Ds (.bl b) kb=kb b:=rfl
theorem jZ{kb:Bool->Prop}:Ds (.lst o ts) kb=kb (!ts.isEmpty):=rfl
variable{km:T->T->Prop}
theorem cA:ur (.lst true ts) [t] km=(ts.length<sizeLine/\km (.lst true (ts++[t])) .non):=rfl
theorem cB:sW (.lst true ts) [.lst true us] km=(ts.length+us.length<=sizeLine/\km (.lst true (ts++us)) .non):=rfl
theorem gc:GL (.lst true ts) [] km=dg (ts[ts.length-1]?) (k:=⟨fun t=>km (.lst true ts.dropLast) t⟩):=rfl
theorem kK{ti:T}:uX (.lst true ts) (.int i) t k=dg (ixN ts.length i) (k:=⟨fun j=>k (.lst true (ts.set j t))⟩):=rfl
theorem hC{kvs:List (List Key×T)}:uX (.dT true kvs) (.tup ts) t k=dg (oO ts) (k:=⟨fun q=>kvs.length<sizeLine/\k (.dT true (nu kvs q t))⟩):=rfl
end
theorem bT{α:Type}(g:α->T)(l:List α):bD (l.map g)=l.all fun x=>aP (g x):=by rw[qj,Nv];rfl
theorem bq{α:Type}(g:α->T)(l:List α):cp (l.map g)=l.all fun x=>bO (g x):=by rw[rY,Nv];rfl
theorem dM{α:Type}(l:List α):(l.all fun _=>true)=true:=by induction l with|nil=>rfl|cons _ _ ih=>rw[Og,ih];rfl
theorem dr:isAny (.non)=false:=rfl
theorem iC:isV (.non)=true:=rfl
theorem cZ:og (.non)=true:=rfl
theorem eE{b:Bool}:isAny (.bl b)=false:=rfl
theorem d0{i:Int}:isAny (.int i)=false:=rfl
theorem gD{i:Int}:isV (.int i)=true:=rfl
theorem d4{i:Int}:og (.int i)=false:=rfl
theorem d6{x:Str}:isAny (.str x)=false:=rfl
theorem dk{ts:List T}:isAny (.tup ts)=false:=rfl
theorem fJ{ts:List T}:isV (.tup ts)=true:=rfl
theorem cR{ts:List T}:og (.tup ts)=false:=rfl
theorem cV{ts:List T}:isAny (.cst ts)=false:=rfl
theorem d5{o:Bool}{ts:List T}:isAny (.lst o ts)=false:=rfl
theorem eQ{o:Bool}{kvs:List (List Key×T)}:isAny (.dT o kvs)=false:=rfl
theorem iy{o:Bool}{ts:List T}:isL (.lst o ts)=true:=rfl
theorem df{ts:List T}:items (.tup ts)=some ts:=rfl
theorem du{o:Bool}{ts:List T}:items (.lst o ts)=some ts:=rfl
theorem aZ{its:List T}{g:PG'}{fb:PSt}{pe:PEn}{env:Ev}(W:Nat->Ev->Prop)(h0:W 0 env)(ht:∀i t env,W i env->its[i]?=some t->g t env fun env2=>fb {pe with nx:=W (i+1),ct:=W (i+1),bk:=pe.nx} env2)(he:∀env,W its.length env->pe.nx env):forL its g fb pe env:=⟨W,h0,ht,he⟩
theorem As{tc:PB}{fb:PSt}{pe:PEn}{env:Ev}(W:Nat->Ev->Prop)(m:Nat)(h0:W m env)(ht:∀m env,W m env->tc env fun b env1=>jO b (A:=⟨fb {pe with nx:=fun e=>∃m',m'<m/\W m' e,ct:=fun e=>∃m',m'<m/\W m' e,bk:=pe.nx} env1⟩) (B:=⟨pe.nx env1⟩)):xD tc fb pe env:=⟨W,⟨m,h0⟩,ht⟩
theorem aH{fr:List (Option Nat)}{its:List T}{g:PG'}{ft:PB}{fe:PF}{env:Ev}{k:Th (T->Ev->Prop)}(hz:its.length<sizeLine)(W:Nat->List T->Ev->Prop)(h0:W 0 [] (lend (frA fr) env).1)(ht:∀i t acc ie,W i acc ie->its[i]?=some t->g t ie fun ie2=>ft ie2 fun b ie3=>jO b (A:=⟨fe ie3 fun u ie4=>W (i+1) (acc++[u]) ie4⟩) (B:=⟨W (i+1) acc ie3⟩))
  (he:∀acc ie,W its.length acc ie->k.v (.lst true acc) (back (frA fr) ie (lend (frA fr) env).2)):FK fr its g ft fe env (k:=k):=⟨hz,W,h0,ht,he⟩
noncomputable def sq(b:Bool)(ts:List T):T:=match b with
 |true=>.tup ts
 |false=>.lst false ts
abbrev pt(x y:Int):T:=.tup [.int x,.int y]
end PL
namespace ZG
open PySem
open Sem (wp)
theorem Ae{prog:Qv}{w:Qy}{A:QE}(hh:A.handled=none)(it d:Qh)(hne:d≠it)(o:Obj)(es:Array R_)(ep:Nat)(hd:o.data=.dict es ep) :
  Xo prog w A it [it,d] [it] es.size (fun i v=>∃e,es[i]?=some e/\v=e.key) (fun i h=>h.IsKeyIter it d i es.size ep/\h.get? d=some o) where
 sub:=fun b hb=>by simp at hb;simp[hb]
 frame:=fun _ _ _ st hk=>⟨st.1.at fun o e=>hk it (by simp) o e,hk d (by simp) o st.2⟩
 item:=fun i s Q E hi st hQ=>by have hx:es[i]?=some es[i]:=i_ hi;refine G5 st.1 st.2 hd hx fun h' hit' hs'=>?_;exact hQ _ h' s.toks ⟨_,hx,rfl⟩ ⟨hit',hs'.extBut d o hne st.2⟩ fun b o hb e=>hs'.extBut b o (fun z=>hb (by simp[z])) e
 done:=fun s Q E st hQ=>Ja hh st.1 st.2 hd (Mb (b_ _)) fun h' he'=>hQ h' s.toks fun b o hb e=>he' b o (fun z=>hb (by simp[z])) e
 self:=fun _ _ _ _ st hQ=>UR st.1 hQ
theorem DF{prog:Qv}{w:Qy}{d:Qh}{o:Obj}{es:Array R_}{ep:Nat}(lo:(d == Q9)=false)(hc:o.ExactDict)(hd:o.data=.dict es ep) :
  PySem.W.KdlSrc prog w "dict" d d es.size (fun i v=>∃e,es[i]?=some e/\v=e.key) (fun h=>h.get? d=some o) where
 type:=fun _ hm=>⟨o,hm,hc.1⟩
 there:=fun _ hm=>⟨Qr hm,Qr hm⟩
 keep:=fun _ _ hm hk=>hk d (.inl rfl) o hm
 notList:=by decide
 notTuple:=by decide
 hint:=fun _ _ _ _ hm hq=>PySem.W.kdl_hint_dict ⟨o,hm,hc.1⟩ hq
 iter:=fun _ _ hh hm=>⟨_,_,(fun _ _ hq=>Ga lo hm hc hd hq),Ae hh _ d (x_ (Qr hm)) o es ep hd,⟨⟨_,Qo _ rfl,rfl,rfl⟩,Qk _ hm⟩⟩
end ZG
namespace L2
open PySem PySem.Spec PyProof.Rows
section
variable{X:Cx}
theorem x5(hc:X.calm=true):bE X (.type "list") (fun xs H Q=>∃d kvs,xs=[.ref d]/\Rd H d (.dT kvs)/\∀bs:List Qh,So (fun(b:Qh) (p:List Key×V)=>H b=some (.tup (p.1.map kV))) bs kvs->(kvs.map (·.1)).Nodup->New (.lst (bs.map V.ref)) H Q):=by
 intro pins s σ H xs us Q I r h;obtain⟨d,kvs,rfl,hd,q⟩:=h;obtain⟨u,rfl,ru⟩:=vals1 r;cases ru;obtain⟨z,lo,xs,kt,o,es,ep,g1,g2,g3,g4,g5⟩:=(show ba X.prog X.w H s.heap d (.dT kvs)from hd.ok I.hok);have hes:es.size=kvs.length:=by rw[<-gV,g4,a_];exact(RE kt).symm
 refine PySem.W.kdl_call (ZG.DF lo g2 g3) (I.ok.hd hc) g1 (by lia) fun h' tk acc c kp e it=>?_
 have hacc:acc.toList=(xs.map fun x=>x.2.1).map QV:=by
  refine Pb fun j=>?_;rw[f_,D_,D_];by_cases hj:j<es.size
  ·have hx:j<xs.length:=by rw[<-gV,g4,a_]at hj;exact hj
   have hja:j<acc.size:=by rw[it.1];exact hj
   have ha:acc[j]?=some acc[j]:=i_ hja;obtain⟨en,e1,e2⟩:=it.2 j _ ha;rw[ha,e2,c_ hx];rw[<-f_,g4,D_,c_ hx]at e1;cases e1
   rfl
  have hx:¬j<xs.length:=by rw[<-gV,g4,a_]at hj;exact hj
  rw[Mb (by rw[it.1];lia),M9 (by lia)]
  rfl
 have rel:∀(l:List Qh),Vals (l.map V.ref) (l.map QV):=fun l=>by
  induction l with
  |nil=>exact .nil
  |cons a t ih=>exact .cons rfl ih
 have hq:∀{kvs':List (List Key×V)}{xs':List (List Key×Qh×Qf)},KT H kvs' xs'->So (fun(b:Qh) (p:List Key×V)=>H b=some (.tup (p.1.map kV))) (xs'.map fun x=>x.2.1) kvs':=fun{kvs' xs'} k=>by
  induction k with
  |nil=>exact .nil
  |cons h t ih=>exact .cons h.2.1 ih
 have ek:∀{kvs':List (List Key×V)}{xs':List (List Key×Qh×Qf)},KT H kvs' xs'->kvs'.map (·.1)=xs'.map fun x=>x.1:=fun{kvs' xs'} k=>by
  induction k with
  |nil=>rfl
  |cons h t ih=>rw[g_,g_,ih,h.1]
 have e':h'.get? s.heap.objs.size=some { cls:=.type "list",dict:=none,data:=.seq ((xs.map fun x=>x.2.1).map QV).toArray c,slots:=#[] }:=by rw[<-hacc];exact e
 exact⟨.ref s.heap.objs.size,_,I.laid (t':=tk) kp (b_ _) (show ba X.prog X.w _ h' _ (.lst ((xs.map fun x=>x.2.1).map V.ref))from⟨by rw[a_,a_,<-RE kt];omega,_,c,rel _,e'⟩),rfl,(q _ (hq kt) (by rw[ek kt];exact g5)).at (I.hok.fresh (b_ _))⟩
abbrev mN(K:Qg)(H:Hp):List V->List (List Int)->Prop:=So fun v k=>k≠[]/\∃b,v=.ref b/\SqT K H b (k.map V.int)
theorem pN{pins:List (Qh×Obj)}{σ:St}{H:Hp}{s:Qi}(I:Inv X pins σ H s):∀{ys:List V}{its:List Qf}{ks:List (List Int)},Vals ys its->mN X.K H ys ks->(∀v∈its,ZS.Fq s.heap v/\∃b,v=.ref b/\ZS.jP s.heap v≠[]/\SqT X.K H b ((ZS.jP s.heap v).map V.int))/\its.map (ZS.jP s.heap)=ks
 | _,_,_,.nil,.nil=>⟨fun v hv=>(nomatch hv),rfl⟩
 | _,_,_,@Xj _ _ _ _ v _ its hv tv,@Xj _ _ _ _ k _ ks hk tk=>by
  obtain⟨hne,b,rfl,hb⟩:=hk;cases hv;obtain⟨j1,j2⟩:=pN I tv tk;obtain⟨its',r',⟨o,ho,hc,n,hd⟩,hz⟩:=I.tuple hb;obtain⟨ps,e1,e2⟩:=dP r';have kv:ZS.jP s.heap (.ref b)=k:=by
   rw[ZS.sO ho hd];show its'.map ZS.fS=k;rw[e1,B',<-e2]
   rfl
  refine⟨fun w hw=>?_,by rw[g_,kv,j2]⟩;rcases n_.mp hw with e|e
  ·subst e;refine⟨⟨b,o,_,n,rfl,ho,hc,hd,fun v hv=>?_,?_⟩,b,rfl,by rw[kv];exact hne,by rw[kv];exact hb⟩
   ·have hv:v∈its':=hv;rw[e1]at hv;obtain⟨p,_,e⟩:=t_.mp hv;exact⟨p.1,p.2,e.symm⟩
   rw[r_,e1,a_,<-a_ (f:=(·.1)),e2];exact O1.mpr hne
  exact j1 w e
theorem nk:∀{ys:List V}{us:List Qf}{u:Qf}{b:Qh},Vals ys us->u∈us->u=.ref b->V.ref b∈ys
 | _,_,_,_,.nil,h,_=>(by cases h)
 | _,_,u,b,.cons (a:=y) r t,h,e=>by
  rcases n_.mp h with z|h
  ·subst z;subst e;have:y=.ref b:=RelV.inj r (show RelV (.ref b) (.ref b)from rfl);rw[this];exact p_
  exact l_ _ (nk t h e)
theorem uw:bE X (.builtin "sorted") (fun xs H Q=>∃p ys ks,xs=[.ref p]/\SqL X.K H p ys/\mN X.K H ys ks/\∀zs ls,mN X.K H zs ls->(∀v∈zs,v∈ys)->ls.Perm ks->ls.Pairwise (fun x y=>ZS.ltL y x=false)->New (.lst zs) H Q):=by
 intro pins s σ H xs us Q I r h;obtain⟨p,ys,ks,rfl,hq,hr,q⟩:=h;obtain⟨u,rfl,ru⟩:=vals1 r;cases ru;obtain⟨its,rv,pl,hz⟩:=I.list hq;have hlen:=rv.length;obtain⟨f1,f2⟩:=pN I rv hr;refine ZS.xu (kd:=Wa true) (rk:=fun x=>ZS.rnk ZS.ltL ks (ZS.jP s.heap x.1)) (S:=fun x=>x.1∈its) pl.isList (by lia) (fun v hv=>hv) (fun h' kp {Q}{E} hne q=>ZS.wa (h0:=s.heap) (fun v hv=>(f1 v hv).1) (fun b o e _=>kp b o e) hne q)
  (fun h' E kp=>ZS.wb (h0:=s.heap) (ks:=ks) (fun x hx=>⟨(f1 _ hx).1,by rw[<-f2];exact LG hx⟩) fun b o e _=>kp b o e) fun o a c h' op os ha kp e=>?_
 have mem:∀v∈o,v∈its:=fun v hv=>op.mem_iff.mp hv;have mk:∀(l:List Qf),(∀v∈l,v∈its)->∃zs,Vals zs l/\mN X.K H zs (l.map (ZS.jP s.heap))/\zs.length=l.length/\∀v∈zs,v∈ys:=by
  intro l;induction l with
  |nil=>exact fun _=>⟨[],.nil,.nil,rfl,fun v hv=>(by cases hv)⟩
  |cons v t ih=>
   intro hl;obtain⟨zs,k1,k2,k3,k6⟩:=ih fun v hv=>hl v (.tail _ hv);obtain⟨_,b,e,k4,k5⟩:=f1 v (hl v (.head _));refine⟨.ref b::zs,.cons e k1,.cons ⟨k4,b,rfl,k5⟩ k2,by rw[h_,h_,k3],fun w hw=>?_⟩;rcases n_.mp hw with rfl|hw
   ·exact nk rv (hl v (.head _)) e
   exact k6 w hw
 obtain⟨zs,k1,k2,k3,k6⟩:=mk o mem;refine⟨.ref a,_,I.laid (t':=s.toks) kp ha (show ba X.prog X.w _ h' _ (.lst zs)from⟨by rw[k3,op.length_eq];lia,o,c,k1,e⟩),rfl,(q zs _ k2 k6 ?_ ?_).at (I.hok.fresh ha)⟩
 ·rw[<-f2];exact op.map _
 rw[Lw];refine Mh (fun{x y} hx hy hxy=>?_) os;cases z:ZS.ltL (ZS.jP s.heap y) (ZS.jP s.heap x)
 ·rfl
 have:=ZS.ui ZS.Cf (ks:=ks) (by rw[<-f2];exact LG (mem y hy)) z;exact absurd this (OX.mpr hxy)
abbrev CL(H:Hp):List V->List (List Int)->Prop:=So fun v k=>k≠[]/\∃b,v=.ref b/\H b=some (.tup (k.map V.int))
end
end L2
namespace ZS
open PySem PyProof.Rows
noncomputable def ltI(a b:Int):Bool:=decide (a<b)
theorem J6:Tot ltI:=⟨fun a=>decide_eq_false (Int.lt_irrefl a),fun a b c h g=>decide_eq_true (Int.lt_trans (of_decide_eq_true h) (of_decide_eq_true g)),fun a b h g=>by have h:=of_decide_eq_false h;have g:=of_decide_eq_false g;lia⟩
section
variable{prog:Qv}{w:Qy}{A:QE}{E:Qf->Qi->Prop}{s:Qi}
theorem CV{ns:List Int}{S:Ql->Prop}(hS:∀x,S x->∃i t,x.1=.int i t/\i∈ns):cM (Qs prog w) A E s VB (fun x=>rnk ltI ns (fS x.1)) S:=by intro x y st Q sx sy kd q;obtain⟨i,t,ex,mi⟩:=hS x sx;obtain⟨j,u,ey,mj⟩:=hS y sy;rw[lt'_eq];refine Qp (Sy ?_);rw[kd,ex,ey,keyLt'_oneType];refine Qp (T' (Rw (oneLt_int ⟨rfl,?_⟩)));refine Qw ?_;dsimp only at q;rw[zH J6 (show fS x.1∈ns by rw[ex];exact mi),ex,ey]at q;exact q
theorem Ci{M:Se}{v1:Qf}{vs:List Qf}{ns:List Int}{Q:Rf->Qi->Prop}(hI:Rr (v1::vs) ns)(q:Q VB s):Qn M A (Tv (v1::vs).toArray) Q E s:=by
 have e:Tv (v1::vs).toArray=pure VB:=by
  rw[keyKind'_eq,Pc,mapM_first_ints hI];simp only[map_pure,pure_bind];rw[if_neg (by simp),if_neg (by simp),oneTypeOnly'_eq,Pc,mapM_typeOf_ints hI];simp only[map_pure,pure_bind];have hal:((I_ (fun _=>Rg "int") (v1::vs)).toArray.all fun x=>x == Rg "int")=true:=by simp only[List.all_toArray,Nv,Nb];exact fun _ _=>rfl
  have hz:(I_ (fun _=>Rg "int") (v1::vs)).toArray[0]?=some (Rg "int"):=by simp
  rw[hz];simp only[hal,if_true,pure_bind,O4]
 rw[e];exact Qj q
end
end ZS
namespace PL
open PySem PySem.Spec PyProof.Rows L2
section
variable{κ:Type}{lt:κ->κ->Bool}
noncomputable def zY(lt:κ->κ->Bool)(x:κ):List κ->List κ
 | []=>[x]
 |y::r=>if lt y x=true then y::zY lt x r else x::y::r
noncomputable def wq(lt:κ->κ->Bool):List κ->List κ
 | []=>[]
 |x::r=>zY lt x (wq lt r)
theorem nv(x:κ):∀l:List κ,(zY lt x l).Perm (x::l)
 | []=>.refl _
 |y::r=>by
  rw[zY];split
  ·exact((nv x r).cons y).trans (.swap _ _ _)
  exact .refl _
theorem nj:∀l:List κ,(wq lt l).Perm l
 | []=>.refl _
 |x::r=>(nv x _).trans ((nj r).cons x)
theorem oG(T:ZS.Tot lt)(x:κ):∀{l:List κ},l.Pairwise (fun a b=>lt b a=false)->(zY lt x l).Pairwise (fun a b=>lt b a=false)
 | [],_=>NF _ _
 |y::r,h=>by
  rw[LX]at h;rw[zY];split
  ·rename_i hy;rw[LX];refine⟨fun b hb=>?_,oG T x h.2⟩;rcases n_.mp ((nv x r).mem_iff.mp hb)with rfl|hb
   ·cases z:lt b y
    ·rfl
    have:=T.tr _ _ _ z hy;rw[T.irr]at this;cases this
   exact h.1 b hb
  rename_i hy;have hy:lt y x=false:=M3.mpr hy;rw[LX];refine⟨fun b hb=>?_,LX.mpr h⟩;rcases n_.mp hb with rfl|hb
  ·exact hy
  cases z:lt b x
  ·rfl
  have h1:=h.1 b hb;cases w:lt y b
  ·have:=T.tot _ _ h1 w;subst this;rw[z]at hy;cases hy
  have:=T.tr _ _ _ w z;rw[hy]at this;cases this
theorem jx(T:ZS.Tot lt):∀l:List κ,(wq lt l).Pairwise (fun a b=>lt b a=false)
 | []=>NG
 |x::r=>oG T x (jx T r)
theorem o8(T:ZS.Tot lt):∀{l m:List κ},l.Perm m->l.Pairwise (fun a b=>lt b a=false)->m.Pairwise (fun a b=>lt b a=false)->l=m
 | [],m,p,_,_=>(List.Perm.nil_eq p)
 |a::l,[],p,_,_=>(List.Perm.eq_nil p)
 |a::l,b::m,p,h,g=>by
  rw[LX]at h g;have e:a=b:=by
   have ha:a∈b::m:=p.mem_iff.mp p_;have hb:b∈a::l:=p.mem_iff.mpr p_;rcases n_.mp ha with e|ha
   ·exact e
   rcases n_.mp hb with e|hb
   ·exact e.symm
   exact T.tot _ _ (g.1 a ha) (h.1 b hb)
  subst e;rw[o8 T (List.Perm.cons_inv p) h.2 g.2]
theorem DY(T:ZS.Tot lt){l m:List κ}(p:l.Perm m)(h:l.Pairwise (fun a b=>lt b a=false)):l=wq lt m:=
 o8 T (p.trans (nj m).symm) h (jx T m)
end
abbrev sR(ks:List (List Int)):List (List Int):=wq ZS.ltL ks
abbrev Lq(ks:List Int):List Int:=wq ZS.ltI ks
noncomputable def rowOf:T->Option (List Int)
 | .tup ts=>match intsOf ts with
  |some (n::r)=>some (n::r)
  | _=>none
 | _=>none
noncomputable def rowsOf:List T->Option (List (List Int))
 | []=>some []
 |t::r=>match rowOf t,rowsOf r with
  |some k,some ks=>some (k::ks)
  | _,_=>none
theorem C5{t:T}{k:List Int}(h:rowOf t=some k):t=iT k/\k≠[]:=by
 cases t <;> first|cases h|skip
 rename_i ts;rw[rowOf]at h;split at h
 ·rename_i n r e;cases h;exact⟨by rw[fx e];rfl,by simp⟩
 cases h
theorem Bp{k:List Int}(h:k≠[]):rowOf (iT k)=some k:=by
 cases k with
 |nil=>exact absurd rfl h
 |cons n r=>
  show(match intsOf ((n::r).map T.int)with|some (n::r)=>some (n::r) | _=>none)=_;rw[wC]
theorem nL:∀{ts:List T}{ks:List (List Int)},rowsOf ts=some ks->ts=ks.map iT/\∀k∈ks,k≠[]
 | [],ks,h=>by cases h;exact⟨rfl,fun k hk=>by cases hk⟩
 |t::ts,ks,h=>by
  rw[rowsOf]at h;split at h
  ·rename_i k r e1 e2;cases h;obtain⟨h1,h2⟩:=C5 e1;obtain⟨h3,h4⟩:=nL e2;refine⟨by rw[h1,h3];rfl,fun q hq=>?_⟩;rcases n_.mp hq with rfl|hq
   ·exact h2
   exact h4 q hq
  cases h
theorem xr{ks:List (List Int)}(h:∀k∈ks,k≠[]):rowsOf (ks.map iT)=some ks:=by
 induction ks with
 |nil=>rfl
 |cons k r ih=>
  rw[g_,rowsOf,Bp (h k p_),ih fun q hq=>h q (l_ _ hq)]
theorem oC{α:Type}(g:α->T)(f:α->List Int)(h:∀x,g x=iT (f x))(n:∀x,f x≠[])(l:List α):rowsOf (l.map g)=some (l.map f):=by
 have:l.map g=(l.map f).map iT:=by rw[B'];exact Mo fun x _=>h x
 rw[this];exact xr fun k hk=>by obtain⟨x,_,rfl⟩:=t_.mp hk;exact n x
noncomputable def KD:P1s
 | [.lst _ ts],k=>match intsOf ts with
  |some ns=>k (.lst true ((Lq ns).map T.int))
  |none=>got (rowsOf ts) fun ks=>k (.lst true ((sR ks).map iT))
 | [.dT _ kvs],k=>∃ks,kvs.map (·.1)=ks.map kI/\(∀q∈ks,q≠[])/\(ks.Nodup->k (.lst true ((sR ks).map iT)))
 | _,_=>False
section
variable{X:Cx}
theorem qS{K:Qg}{H:Hp}{Γ:Fm}:∀{ks:List (List Int)}{vs:List V},(∀k∈ks,k≠[])->(ks.map iT).length=vs.length->Rp K H (zz (ks.map iT) vs++Γ)->mN K H vs ks/\∀v∈vs,∃(b:Qh) (k:List Int),v=.ref b/\H b=some (.tup (k.map V.int))
 | [],[],_,_,_=>⟨.nil,fun v hv=>by cases hv⟩
 | [],_::_,_,l,_=>by cases l
 | _::_,[],_,l,_=>by cases l
 |k::ks,v::vs,n,l,h=>by
  have h:Rp K H ((iT k,some v)::(zz (ks.map iT) vs++Γ)):=h;obtain⟨a,us,rfl,ha,la,h2⟩:=oV h;have eu:=gm la h2;subst eu;obtain⟨r1,r2⟩:=qS (fun q hq=>n q (l_ _ hq)) (by simpa using l) h.tail;refine⟨.cons ⟨n k p_,a,rfl,SqT.of ha⟩ r1,fun w hw=>?_⟩;rcases n_.mp hw with rfl|hw
  ·exact⟨a,k,rfl,ha⟩
  exact r2 w hw
theorem mO{K:Qg}{H:Hp}{Γ:Fm}:∀{ks:List (List Int)}{vs:List V},CL H vs ks->Rp K H Γ->Rp K H (zz (ks.map iT) vs++Γ)/\(ks.map iT).length=vs.length
 | [],_,r,h=>by cases r;exact⟨h,rfl⟩
 |k::ks,_,r,h=>by rcases r with _|⟨hd,t⟩;rename_i v vs;obtain⟨_,b,e,hb⟩:=hd;obtain⟨h1,l1⟩:=mO t h;subst e;refine⟨?_,by simp at l1 ⊢;exact l1⟩;show Rp K H ((iT k,some (.ref b))::(zz (ks.map iT) vs++Γ));exact fu (ts:=k.map T.int) (vs:=k.map V.int) (rp_intsP k h1) (by rw[a_,a_]) .ck hb
where
 rp_intsP {Γ:Fm}:∀(ns:List Int),Rp K H Γ->Rp K H (zz (ns.map T.int) (ns.map V.int)++Γ)
 | [],h=>h
 | _::r,h=>bN (rp_intsP r h) fun _=>.int
theorem uz{K:Qg}{H:Hp}{Γ:Fm}:∀(ns:List Int),Rp K H Γ->Rp K H (zz (ns.map T.int) (ns.map V.int)++Γ)
 | [],h=>h
 | _::r,h=>bN (uz r h) fun _=>.int
theorem uu{K:Qg}{H:Hp}:∀{zs:List V}{ls:List (List Int)},(∀v∈zs,∀b,v=.ref b->∀xs,SqT K H b xs->H b=some (.tup xs))->mN K H zs ls->CL H zs ls
 | _,_,_,.nil=>.nil
 | _,_,h,.cons ⟨n,b,e,hb⟩ t=>.cons ⟨n,b,e,h _ p_ b e _ hb⟩ (uu (fun v hv=>h v (l_ _ hv)) t)
theorem r9{acc:Array Qf}{lo:Int}{n:Nat}(h:Wc (fun(i:Nat) (v:Qf)=>∃t:Tok,v=RX (lo+i*1) t) acc n):Vals (((A_ n).map fun(i:Nat)=>lo+(i:Int)).map V.int) acc.toList:=by
 have gen:∀(m:Nat) (l:List Qf),l.length=m->(∀(j:Nat) (v:Qf),l[j]?=some v->∃t:Tok,v=RX (lo+(j:Int)) t)->Vals (((A_ m).map fun(i:Nat)=>lo+(i:Int)).map V.int) l:=by
  intro m;induction m with
  |zero=>intro l hl _;have:l=[]:=List.length_eq_zero_iff.mp hl;subst this;exact .nil
  |succ m ih=>
   intro l hl hv;have hne:l≠[]:=by intro z;subst z;simp at hl
   obtain⟨l',v,rfl⟩:∃l' v,l=l'++[v]:=⟨l.dropLast,l.getLast hne,(List.dropLast_concat_getLast hne).symm⟩;have hl':l'.length=m:=by simpa using hl
   rw[Nr,q_,q_];refine Vals.append (ih l' hl' fun j w e=>hv j w ?_) ?_
   ·rw[Mv (d_.mp e).1];exact e
   obtain⟨t,e⟩:=hv m v (by rw[Ly (by lia),hl',MP];rfl);exact .cons ⟨t,e⟩ .nil
 refine gen n _ (by rw[gV];exact h.1) fun j v e=>?_
 rw[f_]at e;obtain⟨t,q⟩:=h.2 j v e;exact⟨t,by rw[q,Pg]⟩
theorem oK{pins:List (Qh×Obj)}{σ:L2.St}{H:Hp}{s:Qi}{lo hi:Int}{t u v:Tok}{tk:Nat}{Q:VK}(I:Inv X pins σ H s)(hc:X.calm=true)(h1:-(2 ^ 62)<=lo)(h2:lo<2 ^ 62)(h3:-(2 ^ 62)<=hi)(h4:hi<2 ^ 62)(hz:(hi-lo).toNat<=2 ^ 24)
  (q:New (.lst (((A_ (hi-lo).toNat).map fun(i:Nat)=>lo+(i:Int)).map V.int)) H Q):Qn (Qs X.prog X.w) X.A (call (.type "list") [.ref s.heap.objs.size]) (EP X pins σ Q) X.xe {s with heap:=s.heap.push { cls:=.type "range",data:=.fields #[.int lo t,.int hi u,.int 1 v] },toks:=tk}:=by
 refine call_list_range (n:=(hi-lo).toNat) (I.ok.hd hc) (Xc ..) (small_one h1 h2 h3 h4) (rangeSize_nat _ _) hz fun h' tk' acc c hk e it=>?_;have esz:(s.heap.push { cls:=.type "range",data:=.fields #[.int lo t,.int hi u,.int 1 v] }).objs.size=s.heap.objs.size+1:=by simp[S_]
 dsimp only at hk e ⊢;rw[esz]at e ⊢;have hfr:H (s.heap.objs.size+1)=none:=I.hok.fresh (M0 _);have rv:=r9 it;refine⟨.ref (s.heap.objs.size+1),_,I.laid (t':=tk') (h':=h') (fun b o z=>hk b o (Qk _ z)) (M0 _) (show ba X.prog X.w _ h' _ (.lst _)from⟨?_,acc.toList,c,rv,by simpa using e⟩),rfl,q _ _ hfr (bF hfr _) aN⟩;rw[a_,a_,LP,sizeLine_eq];exact hz
variable{e a b:Qx}{fr:PFs}{p1 p2 pos1 pos2:Pos}
end
section
variable{X:Cx}{pos:Pos}
theorem mH{κ:Type}[DecidableEq κ]:∀(a:List (κ×V)) (b:List (κ×V)),((a++b).map (·.1)).Nodup->b.foldl (fun acc kv=>putK acc kv.1 kv.2) a=a++b
 |a,[],_=>by rw[E_];rfl
 |a,(q,x)::b,h=>by
  have h':((a++[(q,x)]++b).map (·.1)).Nodup:=by rw[k_];exact h
  have nq:(a.any fun kv=>decide (kv.1=q))=false:=by rw[List.any_eq_false];intro y my e;rw[q_,Mn]at h;exact h.2.2 y.1 (LG my) q (p_ ..) (of_decide_eq_true e)
  have e:putK a q x=a++[(q,x)]:=by unfold putK;rw[nq];rfl
  rw[Pz,e,mH (a++[(q,x)]) b h',k_];rfl
theorem Ca{N:List Str}{esc:Rc}(N':List Str)(fr:List (Option Nat))(nd:N'.Nodup){elt target iter:Qx}{ifs:List Qx}{sc:Rc}{fi:PIt}{g:PG'}{ft:PB}{fe:PF}(hN:X.N=N)(hS:X.env.scope=esc)(C:jj N esc sc N' fr=true)
  (hi:GI X target iter fi) (hg:∀s3 H3 fp,GG (κc fr) (aV X N' sc s3 H3 fp) target g) (ht:∀s3 H3 fp,GTs (aV X N' sc s3 H3 fp) ifs ft) (he:∀s3 H3 fp,GE (aV X N' sc s3 H3 fp) elt fe)
  (hc:X.calm=true:=by rfl) (hs:∀x,Q_ iter X.env x=pure x:=by intro _;rfl):GE X (.ListComp elt [⟨target,iter,ifs,0⟩] sc pos) (uR fr fi g ft fe):=
 PE.imp (zQ N' fr hc (by rw[hN,hS];exact C) hi hg ht he hs) wW
end
section
variable{b:Bool}{ts us:List T}{k:T->Prop}{i:Int}{t u:T}{env:Ev}{ke:T->Ev->Prop}
theorem A5(ts:List T)(n:Nat):rg ts (some (n:Int)) none=ts.drop n:=by
 unfold rg;rw[HT.F5,HT.AR];by_cases h:n<=ts.length
 ·rw[OH h,Ma];rw[H_];lia
 rw[Ow (by lia),ON (by lia),ON (by lia),List.take_nil]
theorem cJ(lo:Int)(n:Nat):(jQ lo n).length=n:=by rw[jQ,a_,LP]
theorem gv{lo:Int}{n i:Nat}{t:T}(h:(jQ lo n)[i]?=some t):i<n:=by have:=(d_.mp h).1;rwa[cJ]at this
theorem nU{lo:Int}{n i:Nat}{t:T}(h:(jQ lo n)[i]?=some t):t=.int (lo+(i:Int)):=by
 have hi:=gv h;rw[jQ,D_,N6 hi]at h;cases h
 rfl
theorem aI{α:Type}{g:α->T}{l:List α}{i:Nat}{t:T}(h:(l.map g)[i]?=some t):∃x,l[i]?=some x/\t=g x:=by
 rw[D_]at h;cases e:l[i]? with
 |none=>rw[e]at h;cases h
 |some x=>rw[e]at h;cases h;exact⟨x,rfl,rfl⟩
end
noncomputable def J3(f g:PSt):PSt:=fun pe env=>∃W:Ev->Prop,f {pe with nx:=W} env/\∀e,W e->g pe e
theorem eX{X:Cx}{κ:Nat->Bool}{st:QR}{rest:List QR}{f g:PSt}(h1:GS κ X st f)(h2:GSs κ X rest g):GSs κ X (st::rest) (J3 f g):=by refine PSs.imp (bL h1 h2) ?_;rintro D σ H ⟨env,Fr,pe,rs,⟨W,q,w⟩,c⟩;refine⟨env,Fr,_,rs,q,⟨fun env' σ' H' q1 rs1 k1=>⟨env',Fr,pe,rs1,w _ q1,c.later k1⟩,c.rt,c.bk,c.ct⟩⟩
theorem jm{f g:PSt}{pe:PEn}{env:Ev}(W:Ev->Prop)(h1:f {pe with nx:=W} env)(h2:∀e,W e->g pe e):J3 f g pe env:=⟨W,h1,h2⟩
open PySem L2
noncomputable def xP:P1s
 | [.dT _ kvs],k=>∃ks:List (List Int),kvs.map (·.1)=ks.map kI/\(∀q∈ks,q≠[])/\(ks.Nodup->k (.lst true (ks.map iT)))
 | _,_=>False
section
variable{X:Cx}
theorem Ah{H:Hp}:∀{bs:List Qh}{kvs:List (List Key×V)}{ks:List (List Int)},So (fun(b:Qh) (p:List Key×V)=>H b=some (.tup (p.1.map kV))) bs kvs->kvs.map (·.1)=ks.map kI->(∀k∈ks,k≠[])->CL H (bs.map V.ref) ks:=by
 intro bs kvs ks h;induction h generalizing ks with
 |nil=>
  intro e _;cases ks with
  |nil=>exact .nil
  |cons a b=>simp at e
 |cons h t ih=>
  intro e hn;cases ks with
  |nil=>simp at e
  |cons a b=>
   rw[g_,g_,Mw]at e;refine .cons ⟨hn a p_,_,rfl,?_⟩ (ih e.2 fun k hk=>hn k (l_ _ hk));rw[h,e.1,KO]
theorem vG(hc:X.calm=true):iO X (.type "list") xP:=by
 rintro pins s σ H xs us Q I r ⟨ts,Γ,k,l,rp,g,c⟩;unfold xP at g;split at g
 ·rename_i k o kvs;obtain⟨x,rfl⟩:=zz1 l rfl;have rp:Rp X.K H ((.dT o kvs,some x)::Γ):=rp;obtain⟨a,vs,rfl,hq,ek,rp2⟩:=tM rp;obtain⟨ks,e1,e2,kt⟩:=g;refine x5 hc pins s σ H _ us Q I r ⟨a,vs,rfl,hq,fun bs pr nd p H' hp g' e'=>?_⟩;have nd':ks.Nodup:=by rw[<-ek,e1]at nd;exact(Lw.mp nd).imp fun{a b} h z=>h (by rw[z])
  refine c _ _ _ (kt nd') ?_;obtain⟨rp3,l3⟩:=mO (Ah pr (by rw[<-ek];exact e1) e2) rp.tail;exact fk rp3 l3 hp g' e'
 exact QC g
end
theorem Cj{o:Bool}{kvs:List (List Key×T)}{k:T->Prop}:xP [.dT o kvs] k=∃ks:List (List Int),kvs.map (·.1)=ks.map kI/\(∀q∈ks,q≠[])/\(ks.Nodup->k (.lst true (ks.map iT))):=rfl
end PL
namespace L2
open PySem PySem.Spec PyProof.Rows
noncomputable def Itf(o:Obj)(d:Qh):It:=
  ⟨fun i H=>∃kvs,Rd H d (.frz o (.dT kvs))/\i<kvs.length,
   fun i H v H'=>H'=H/\∀kvs,Rd H d (.frz o (.dT kvs))->∃k x b,kvs[i]?=some (k,x)/\v=.ref b/\H b=some (.tup (k.map kV)),
   fun i H=>∃kvs,Rd H d (.frz o (.dT kvs))/\kvs.length<=i⟩
theorem E8{H:Hp}{d:Qh}{o:Obj}{a b:List (List Key×V)}(h:Rd H d (.frz o (.dT a)))(g:Rd H d (.frz o (.dT b))):a=b:=by rcases h with h|⟨o1,h⟩ <;> rcases g with g|⟨o2,g⟩ <;> rw[h]at g <;> cases g <;> rfl
theorem vP{X:Cx}{pins:List (Qh×Obj)}{σ:St}{H:Hp}{s:Qi}{o:Obj}{d:Qh}{kvs:List (List Key×V)}(I:Inv X pins σ H s)(e:Rd H d (.frz o (.dT kvs))) :
  s.heap.get? d=some o/\(d == Q9)=false/\∃xs es ep,KT H kvs xs/\o.ExactDict/\o.data=.dict es ep/\es.toList=xs.map (UI (SE (bo X.prog X.w)))/\es.size=kvs.length:=by
 obtain⟨h0,h1,h2,xs,kt,o',es,ep,g1,g2,g3,g4,g5⟩:=(show ba X.prog X.w H s.heap d (.frz o (.dT kvs))from e.ok I.hok);rw[h0]at g1;cases g1;refine⟨h0,h2,xs,es,ep,kt,g2,g3,g4,?_⟩;rw[<-gV,g4,a_];exact(RE kt).symm
theorem wu{P:Qv}{w:Qy}{K:Qg}{tg:Qx}(o:Obj)(d it:Qh)(es:Array R_)(ep:Nat)(hdat:o.data=.dict es ep):Turn P w K tg (Itf o d) [it] it (fun i h=>h.IsKeyIter it d i es.size ep) where
 mem:=by simp
 obj:=fun i h st b hb=>by
  have e:b=it:=by simpa using hb
  subst e;obtain⟨oi,q1,q2,q3⟩:=st;exact⟨oi,q1,fun v z=>by rw[q3]at z;cases z⟩
 keep:=fun i h h' st k=>st.at fun oo e=>k it (by simp) oo e
 item:=by
  intro X hP hw hK hc i pins s σ H E I hf st hg;subst hP hw hK;obtain⟨kvs,hq,hx⟩:=hg;obtain⟨h0,h1,xs,es',ep',kt,g2,g3,g4,g5⟩:=vP I hq;rw[hdat]at g3;cases g3;obtain⟨f0,f1,f2,f3,f4,f5⟩:=hf it (by simp);have hi:i<es.size:=by lia
  have hxs:i<xs.length:=by rw[<-gV,g4,a_]at hi;exact hi
  have he:es[i]?=some (UI (SE (bo X.prog X.w)) xs[i]):=by
   rw[<-f_,g4,D_,c_ hxs]
   rfl
  refine ZG.G5 st h0 hdat he fun h' st' sb=>?_;have I1:Inv X pins σ H {s with heap:=h'}:=I.turned (t':=s.toks) (fun b ob hb e=>(sb.2 b hb).trans e) f0 f1 f3 f4 f5;obtain⟨oi,q1,q2,q3⟩:=id st';refine⟨_,rfl,yh (s:={s with heap:=h'}) q1 q2 q3 (by decide) ⟨.ref xs[i].2.1,H,I1,rfl,⟨rfl,fun kvs' hk'=>?_⟩,st',fun b hb=>(hf b hb).1⟩⟩;cases E8 hq hk';obtain⟨p,p1,p2,p3,p4⟩:=qM kt (c_ hxs);exact⟨p.1,p.2,_,p1,rfl,p3⟩
 done:=by intro X hP hw hK hc i pins s σ H E I hf st hg;subst hP hw hK;obtain⟨kvs,hq,hx⟩:=hg;obtain⟨h0,h1,xs,es',ep',kt,g2,g3,g4,g5⟩:=vP I hq;rw[hdat]at g3;cases g3;obtain⟨f0,f1,f2,f3,f4,f5⟩:=hf it (by simp);exact ZG.Ja (I.ok.hd hc) st h0 hdat (by rw[Mb];lia) fun h' eb=>⟨rfl,I.turned (t':=s.toks) (fun b ob hb e=>eb b ob hb e) f0 f1 f3 f4 f5⟩
 self:=fun _ _ _ _ _ st h=>UR st h
noncomputable def Jh(te:TE):TI:=fun σ H R=>te σ H fun x H1=>∃d kvs,x=.ref d/\((H1 d=some (.dT kvs)/\∀o H2,Put H1 d (.frz o (.dT kvs)) H2->R (Itf o d) H2)\/∃o,H1 d=some (.frz o (.dT kvs))/\R (Itf o d) H1)
theorem Dc{X:Cx}{tg l:Qx}{tl:TE}(hl:PE X l tl):PI X tg l (Jh tl):=by
 intro pins s σ H R I h;refine thn (hl pins s σ H _ I h) ?_;rintro v s1 ⟨x,H1,I1,r1,q1⟩;obtain⟨d,kvs,e,q1⟩:=q1;subst e;cases r1;have key:∀(o:Obj) (H2:Hp),Inv X pins σ H2 s1->H2 d=some (.frz o (.dT kvs))->R (Itf o d) H2->Qn (Qs X.prog X.w) X.A (Tc (.ref d)) (PIE X pins σ tg R) X.xe s1:=fun o H2 I2 e2 q2=>by
  obtain⟨h0,h1,xs,es,ep,kt,g2,g3,g4,g5⟩:=El I2 e2;refine ZG.Ga h1 h0 g2 g3 ⟨s1.heap.objs.size,[s1.heap.objs.size],_,_,H2,rfl,I2.kept (t':=s1.toks) fun b ob z=>Qk _ z,wu o d _ es ep g3,⟨_,Qo _ rfl,rfl,rfl⟩,fun b hb=>?_,q2⟩;have e:b=s1.heap.objs.size:=by simpa using hb
  subst e;exact I2.wN (b_ _) (I2.hok.fresh (b_ _))
 rcases q1 with⟨e1,q⟩|⟨o,e1,q⟩
 ·obtain⟨z,hd,xs,kt,o,es,ep,g1,g2,g3,g4,g5⟩:=(show ba X.prog X.w H1 s1.heap d (.dT kvs)from I1.hok d _ e1);refine key o (upd H1 d (.frz o (.dT kvs))) ?_ aN (q o _ Put.up);refine oW (h':=s1.heap) (t':=s1.toks) (ob:=.frz o (.dT kvs)) I1 (by rw[e1];exact RK) ⟨rfl,fun _ _=>rfl⟩ ⟨o,g1⟩ ⟨g1,z,hd,xs,KT.keeps kt fun c zs ec=>?_,o,es,ep,g1,g2,g3,g4,g5⟩;rw[aM (CQ ec e1 (fun z=>nomatch z))];exact ec
 exact key o H1 I1 e1 q
end L2
namespace PL
open PySem PySem.Spec PyProof.Rows L2
noncomputable def kyI:Key->T
 | .inl i=>.int i
 | .inr (some s)=>.str s
 | .inr none=>.non
noncomputable def kyT(k:List Key):T:=.tup (k.map kyI)
noncomputable def kpG(o:Obj)(d:Qh)(vs:List (List Key×V)):Hp:=fun b=>if b=d then some (.frz o (.dT vs))else none
section
variable{K:Qg}
theorem yd{H H2:Hp}{d:Qh}{o:Obj}{ts:List (List Key×T)}{vs:List (List Key×V)}{Γ:Fm}(h:Rp K H ((.dT false ts,some (.ref d))::Γ))(h1:H d=some (.dT vs)\/H d=some (.frz o (.dT vs)))(h2:H2 d=some (.frz o (.dT vs)))(h3:∀b,b≠d->H2 b=H b):Rp K H2 ((.kp (kpG o d vs),some .non)::(.dT false ts,some (.ref d))::Γ):=by
 obtain⟨Hz,N,h,nd,g,dj⟩:=h;have hz:∃w,Hz d=some w:=by
  cases h with
  |cons e h c=>
   rcases h with⟨z,_⟩|⟨v,ev,h⟩
   ·cases z
   cases ev;cases h with
   |dTZ r _=>exact Rd.some r
 let Z:Hp:=fun b=>if b=d then some (.frz o (.dT vs))else Hz b
 have zd:Z d=some (.frz o (.dT vs)):=if_pos rfl;have ze:∀b,b≠d->Z b=Hz b:=fun b hb=>if_neg hb;have gz:Gr Hz Z:=fun b u r=>by
  by_cases e:b=d
  ·subst e;rcases g b u r with q|⟨o',q⟩ <;> rcases h1 with h1|h1 <;> rw[h1]at q <;> cases q
   ·exact .inr ⟨o,zd⟩
   ·exact .inl zd
   exact .inr ⟨o,zd⟩
  unfold Rd at *;rw[ze b e];exact r
 have gh:Gr Z H2:=fun b u r=>by
  by_cases e:b=d
  ·subst e;unfold Rd at *;rw[zd]at r;rw[h2];exact r
  unfold Rd at r;rw[ze b e]at r;have:=g b u r;unfold Rd at *;rw[h3 b e];exact this
 have hd:∀b∈N,b≠d:=fun b m z=>by obtain⟨w,e⟩:=hz;rw[<-z,dj b m]at e;cases e
 refine⟨Z,[]++N,.cons rfl (.inr ⟨_,rfl,.kp fun b u r=>?_⟩) (h.move (fun b xs e=>?_) gz fun b m u e=>?_),nd,gh,fun b m=>?_⟩
 ·by_cases e:b=d
  ·subst e;unfold Rd kpG at r;rw[if_pos rfl]at r;unfold Rd;rw[zd];exact r
  unfold Rd kpG at r;rw[if_neg e]at r;rcases r with r|⟨_,r⟩ <;> cases r
 ·by_cases z:b=d
  ·subst z;rcases h1 with h1|h1 <;> rw[h1]at e <;> cases e
  rw[h3 b z];exact e
 ·rw[h3 b (hd b m)];exact⟨e,fun n=>n⟩
 have m:b∈N:=m;rw[ze b (hd b m)];exact dj b m
theorem tX{H:Hp}{Γ:Fm}:∀(k:List Key),Rp K H Γ->Rp K H (zz (k.map kyI) (k.map kV)++Γ)
 | [],h=>h
 | .inl _::r,h=>bN (tX r h) fun _=>.int
 | .inr (some _)::r,h=>bN (tX r h) fun _=>.str
 | .inr none::r,h=>bN (tX r h) fun _=>.non
theorem Bn{o:Obj}{d:Qh}{vs:List (List Key×V)}:ItOk K (Itf o d) (vs.map fun p=>kyT p.1) [(.kp (kpG o d vs),some .non)] where
 turn:=fun i t H Γ ei rp=>by
  have rd:Rd H d (.frz o (.dT vs)):=by
   obtain⟨Hz,N,h,_,g,_⟩:=rp;cases h with
   |cons e h c=>
    rcases h with⟨z,_⟩|⟨v,ev,h⟩
    ·cases z
    cases h with
    |kp gr=>exact g _ _ (gr d _ (.inl (if_pos rfl)))
  rw[D_]at ei;cases e:vs[i]? with
  |none=>rw[e]at ei;cases ei
  |some p=>
   rw[e]at ei;cases ei;refine⟨⟨vs,rd,(d_.mp e).1⟩,fun x H' hy=>?_⟩;obtain⟨rfl,hy⟩:=hy;obtain⟨k,w,b,e1,rfl,hb⟩:=hy vs rd;rw[e]at e1;cases e1;exact fu (ts:=k.map kyI) (vs:=k.map kV) (tX k rp) (by rw[a_,a_]) .ck hb
 stop:=fun H Γ rp=>by
  have rd:Rd H d (.frz o (.dT vs)):=by
   obtain⟨Hz,N,h,_,g,_⟩:=rp;cases h with
   |cons e h c=>
    rcases h with⟨z,_⟩|⟨v,ev,h⟩
    ·cases z
    cases h with
    |kp gr=>exact g _ _ (gr d _ (.inl (if_pos rfl)))
  exact⟨vs,rd,by rw[a_];exact b_ _⟩
end
noncomputable def HF(fe:PF):PIt:=fun env k=>fe env fun t env1=>match t with
 | .dT _ kvs=>k (kvs.map fun p=>kyT p.1) env1
 | _=>False
section
variable{X:Cx}{pos:Pos}{e tg:Qx}{fe:PF}
theorem y8(h:GE X e fe):GI X tg e (HF fe):=by
 rintro pins s σ H R I ⟨env,Fr,k,rs,q,c⟩;refine Dc h pins s σ H R I ⟨env,Fr,_,rs,q,fun t env1 v H1 q1 rs1=>?_⟩;cases t <;> first|exact q1.elim|skip
 rename_i o ts;have rf:Rp X.K H1 ((.dT false (erT ts),some v)::(env1.zip σ++Fr)):=pZ rs1.head;obtain⟨d,vs,rfl,hq,ek,rp2⟩:=tM rf;have ek2:ts.map (·.1)=vs.map (·.1):=by
  rw[<-ek];clear ek rf q1 rs1 rp2;induction ts with
  |nil=>rfl
  |cons a l ih=>rw[erT,g_,g_,ih]
 have e3:(ts.map fun p=>kyT p.1)=vs.map fun p=>kyT p.1:=by have:=congrArg (I_ kyT) ek2;rw[B',B']at this;exact this
 have q1:k (ts.map fun p=>kyT p.1) env1:=q1;rw[e3]at q1;refine⟨d,vs,rfl,?_⟩;rcases hq with hq|⟨ob,hq⟩
 ·refine .inl ⟨hq,fun ob H2 p=>c _ _ _ [(.kp (kpG ob d vs),some .non)] _ q1 ?_ Bn⟩;have r:=yd (o:=ob) (H2:=H2) rf (.inl hq) p.at_ fun b hb=>p.else_ b hb;exact .of rs1.1 (r.perm (.swap _ _ _)).tail
 refine .inr ⟨ob,hq,c _ _ _ [(.kp (kpG ob d vs),some .non)] _ q1 ?_ Bn⟩;have r:=yd (o:=ob) (H2:=H1) rf (.inr hq) hq fun b hb=>rfl;exact .of rs1.1 (r.perm (.swap _ _ _)).tail
end
noncomputable def asD(t:T)[k:Th (List (List Key×T)->Prop)]:Prop:=match t with
 | .dT _ kvs=>k.v kvs
 | _=>False
theorem qk{o:Bool}{kvs:List (List Key×T)}{k:Th (List (List Key×T)->Prop)}:asD (.dT o kvs) (k:=k)=k.v kvs:=rfl
theorem iz{env:Ev}{fe:PF}{ki:List T->Ev->Prop}:HF fe env ki=fe env fun t env1=>asD t (k:=⟨fun kvs=>ki (kvs.map fun p=>kyT p.1) env1⟩):=by unfold HF asD;refine congrArg (fe env) (funext fun t=>funext fun env1=>?_);cases t <;> rfl
end PL
namespace ZT
open PySem
abbrev Up(l:List Nat):Prop:=l.Pairwise (·<·)
theorem y9{l:List Nat}(h:Up l){i j:Nat}{x y:Nat}(hi:l[i]?=some x)(hj:l[j]?=some y)(hij:i<j):x<y:=by obtain⟨a,rfl⟩:=d_.mp hi;obtain⟨b,rfl⟩:=d_.mp hj;exact MM.mp h i j a b hij
theorem uD{xs:Array Nat}{j:Nat}(hu:Up xs.toList):∀(f lo hi:Nat),lo<=hi->hi<=xs.size->hi-lo<=f->(∀k x,k<lo->xs[k]?=some x->x<j)->(∀k x,hi<=k->xs[k]?=some x->j<=x)->
  SV xs j f lo hi<=xs.size/\(∀k x,k<SV xs j f lo hi->xs[k]?=some x->x<j)/\∀k x,SV xs j f lo hi<=k->xs[k]?=some x->j<=x
 |0,lo,hi,h1,h2,h3,a,b=>by
  have e:lo=hi:=by omega
  subst e;exact⟨h2,a,b⟩
 |f+1,lo,hi,h1,h2,h3,a,b=>by
  unfold SV;by_cases hl:lo<hi
  ·rw[if_pos hl];have hm:(lo+hi)/2<xs.size:=by omega
   have e:xs.getD ((lo+hi)/2) j=xs[(lo+hi)/2]:=by rw[MG,i_ hm];rfl
   have em:xs.toList[(lo+hi)/2]?=some xs[(lo+hi)/2]:=by rw[f_];exact i_ hm
   dsimp only;rw[e];by_cases hx:xs[(lo+hi)/2]<j
   ·rw[if_pos hx];refine uD hu f _ _ (by omega) h2 (by omega) (fun k x hk ek=>?_) b;by_cases hk2:k=(lo+hi)/2
    ·subst hk2;rw[i_ hm]at ek;cases ek;exact hx
    exact NU (y9 hu (by rw[f_];exact ek) em (by omega)) hx
   rw[if_neg hx];refine uD hu f _ _ (by omega) (by omega) (by omega) a fun k x hk ek=>?_
   by_cases hk2:k=(lo+hi)/2
   ·subst hk2;rw[i_ hm]at ek;cases ek;exact LA hx
   have:=y9 hu em (by rw[f_];exact ek) (by omega);omega
  rw[if_neg hl];have e:lo=hi:=by omega
  subst e;exact⟨h2,a,b⟩
theorem lO{xs:Array Nat}(j:Nat)(hu:Up xs.toList):QN xs j<=xs.size/\(∀k x,k<QN xs j->xs[k]?=some x->x<j)/\∀k x,QN xs j<=k->xs[k]?=some x->j<=x:=
 uD hu _ _ _ (B_ _) (b_ _) (by omega) (fun k x hk=>by omega) fun k x hk ek=>by rw[Mb hk]at ek;cases ek
theorem below_at{xs:Array Nat}(hu:Up xs.toList){i:Nat}{x:Nat}(hi:xs[i]?=some x):QN xs (x+1)=i+1:=by
 obtain⟨h1,h2,h3⟩:=lO (x+1) hu;have hlt:i<xs.size:=(Ni.mp hi).1;have a:i<QN xs (x+1):=Ox fun z=>by have:=h3 i x z hi;omega
 by_cases c:i+1<QN xs (x+1)
 ·have hn:i+1<xs.size:=by omega
  have:=h2 (i+1) _ c (i_ hn);have g:=y9 hu (by rw[f_];exact hi) (by rw[f_];exact i_ hn) (MT i);omega
 omega
theorem EE{xs:Array Nat}(hu:Up xs.toList):QN xs 0=0:=by
 obtain⟨h1,h2,h3⟩:=lO 0 hu;refine Nat.eq_zero_of_not_pos fun z=>?_;have hn:0<xs.size:=by omega
 have:=h2 0 _ z (i_ hn);omega
theorem AD{xs:Array Nat}{j:Nat}(hu:Up xs.toList)(hj:xs[QN xs j]?≠some j):Up (XG xs (QN xs j) j).toList:=by
 obtain⟨h1,h2,h3⟩:=lO j hu;rw[WT];have sp:xs.toList=xs.toList.take (QN xs j)++xs.toList.drop (QN xs j):=(F_ _ _).symm;have hu':=hu;rw[sp]at hu';obtain⟨p,q,r⟩:=C_.mp hu';have lt:∀x∈xs.toList.take (QN xs j),x<j:=fun x hx=>by obtain⟨k,hk,e⟩:=LF.mp hx;rw[D']at hk;rw[List.getElem_take]at e;exact h2 k x (by omega) (by rw[<-f_,d_];exact⟨by omega,e⟩)
 have gt:∀x∈xs.toList.drop (QN xs j),j<x:=fun x hx=>by
  obtain⟨k,hk,e⟩:=LF.mp hx;rw[H_]at hk;rw[List.getElem_drop]at e;have e2:xs[QN xs j+k]?=some x:=by rw[<-f_,d_];exact⟨by omega,e⟩
  refine MX (h3 _ x (by omega) e2) fun z=>?_
  subst z;by_cases k0:k=0
  ·subst k0;exact hj e2
  have hb:QN xs j<xs.size:=by rw[gV]at hk;omega
  have g:=y9 hu (i:=QN xs j) (j:=QN xs j+k) (by rw[f_];exact i_ hb) (by rw[f_];exact e2) (by omega);have:=h3 _ _ (b_ _) (i_ hb);omega
 exact C_.mpr ⟨p,LX.mpr ⟨gt,q⟩,fun a ha b hb=>by
  rcases n_.mp hb with e|hb
  ·rw[e];exact lt a ha
  exact r a ha b hb⟩
structure Gd (bt:Bool) (t:Q5):Prop where
 up:Up t.place.toList
 no:t.dummies=#[]
 led:bt=false->t.led=true
theorem Bz(bt:Bool)(f m:Nat):Gd bt (.fresh f m (!bt)):=⟨.nil,rfl,fun e=>by rw[e];rfl⟩
theorem lY{bt:Bool}{t:Q5}(h:Gd bt t)(n:Nat):Gd bt (t.standIn n):=⟨by show Up (Array.range n).toList;rw[Array.toList_range];exact NL,rfl,h.led⟩
theorem JD{bt:Bool}{t:Q5}(h:Gd bt t)(n:Nat):Gd bt (t.orStandIn n):=by
 unfold XD;split
 ·exact h
 exact lY h n
theorem DG(j:Nat):WU #[] j=false:=rfl
theorem wL{bt:Bool}{t:Q5}(h:Gd bt t){j:Nat}(e:t.slot j=.empty):t.place[QN t.place j]?≠some j:=fun z=>by unfold Wx at e;dsimp only at e;rw[z,if_pos (beq_self_eq_true _)]at e;cases e
theorem oA{t:Q5}(hd:t.dummies=#[]){H:Nat->Int}{h:Int}:∀(f:Nat) (p:XZ) (j:Nat) (d:Option Nat),p.dummy=none->Vi t H h f p=some (.empty j d)->t.slot j=.empty/\d=none
 |0,p,j,d,_,e=>by cases e
 |f+1,p,j,d,hp,e=>by
  unfold Vi at e;split at e
  ·rename_i z;cases e;exact⟨z,hp⟩
  ·rename_i z;unfold Wx at z;dsimp only at z;rw[hd,DG]at z;split at z <;> first|cases z|(rename_i q;split at z <;> cases z)
  have ad:(t.advance p).dummy=none:=by unfold XQ;split <;> exact hp
  split at e
  ·cases e
  exact oA hd f _ j d ad e
theorem IP{bt:Bool}{t:Q5}(h:Gd bt t){j:Nat}(e:t.slot j=.empty):Gd bt (t.put j).1:=by
 refine⟨AD h.up (wL h e),?_,h.led⟩;show(if WU t.dummies j then _ else t.dummies)=#[];rw[h.no]
 rfl
theorem Io{bt:Bool}{t:Q5}(h:Gd bt t)(es:Array (Int×Qf))(k:Int)(x:Qf):Gd bt (layNew t es k x).2.1:=by
 unfold layNew;split
 ·rename_i slot wd e;have hs:t.slot slot=.empty:=by
   unfold XH at e;split at e
   ·rename_i j d q;cases e;obtain⟨a,b⟩:=oA h.no _ _ _ _ rfl q;rw[b];exact a
   cases e
  exact JD (IP h hs) _
 exact lY h _
theorem Cm{bt:Bool}{t:Q5}(h:Gd bt t)(es:Array (Int×Qf))(n:Nat):Gd bt (Ua t es n).2.1:=by
 unfold Ua;split
 ·rename_i t' order e;dsimp only;split
  ·unfold XW X1 at e;cases q:XI (Vb n-1) (es.map fun x=>x.1)with
   |none=>rw[q]at e;cases e
   |some ow=>
    rw[q]at e;cases e;refine⟨?_,rfl,h.led⟩;show List.Pairwise (fun x y=>x<y) (I_ (fun x=>x.1) (List.filterMap (fun j=>(ow.getD j none).map fun y=>(j,y)) (A_ (Vb n-1+1))));rw[Lw,List.pairwise_filterMap];refine Pe (fun{a b} hab c hc d hd=>?_) NL;obtain⟨_,_,ec⟩:=NK.mp hc;obtain⟨_,_,ed⟩:=NK.mp hd;rw[<-ec,<-ed];exact hab
  exact lY h _
 exact lY h _
open PySem PyProof.Rows
section
variable{prog:Qv}{w:Qy}{A:QE}{E:Qf->Qi->Prop}{s:Qi}
abbrev bt(w:Qy):Bool:=w.params.followText "set-order"
structure SI (prog:Qv) (w:Qy) (o:Obj) (ks:List Int) (es:Array (Int×Qf)) (ep:Nat) (t:Q5):Prop where
 ex:o.ExactSet
 dat:o.data=.set es ep t
 el:ElemsOf (R5 prog w) es.toList
 rd:Rr (es.toList.map (·.2)) ks
 nd:ks.Nodup
 sm:es.size<scanBound
 ft:t.fits es.size=true
 gd:Gd (bt w) t
noncomputable def SG(prog:Qv)(w:Qy)(h:Qz)(a:Qh)(S:Int->Prop)(n:Nat):Prop:=∃o ks es ep t,h.get? a=some o/\SI prog w o ks es ep t/\(∀z,z∈ks↔S z)/\ks.length<=n
theorem m5:∀{vs:List Qf}{ns:List Int},Rr vs ns->vs.length=ns.length
 | _,_,.nil=>rfl
 | _,_,.cons n t h=>by rw[h_,h_,m5 h]
theorem IG{k i:Int}{t:Tok}:(R5 prog w).is k (.int i t)=decide (k=i):=KeyKind.is_eq_decide (US prog w i t) k
theorem pG:∀{es:List (Int×Qf)}{ks:List Int},Rr (es.map (·.2)) ks->∀k,k∈ks↔∃e∈es,(R5 prog w).is k e.2=true
 | [],_,.nil,k=>⟨fun h=>(nomatch h),fun⟨e,h,_⟩=>(nomatch h)⟩
 | (h0,_)::es,_,.cons n t h,k=>by
  rw[n_,pG h k];constructor
  ·rintro(rfl|⟨e,m,q⟩)
   ·exact⟨_,.head _,US _ _ _ _⟩
   exact⟨e,.tail _ m,q⟩
  rintro⟨e,m,q⟩;rcases n_.mp m with rfl|m
  ·exact .inl (of_decide_eq_true (by rw[<-IG (prog:=prog) (w:=w) (t:=t)];exact q))
  exact .inr ⟨e,m,q⟩
theorem jA:∀{us vs:List Qf},us.Perm vs->∀{ns:List Int},Rr us ns->∃ms,Rr vs ms/\ns.Perm ms:=by
 intro us vs p;induction p with
 |nil=>exact fun h=>⟨_,h,.refl _⟩
 |cons x p ih=>
  intro ns h;cases h with
  |cons n t h=>
   obtain⟨ms,a,b⟩:=ih h;exact⟨n::ms,.cons n t a,.cons n b⟩
 |swap x y l=>
  intro ns h;cases h with
  |cons n t h=>
   cases h with
   |cons m u h=>exact⟨_,.cons m u (.cons n t h),.swap _ _ _⟩
 |trans p q ih jh=>
  intro ns h;obtain⟨ms,a,b⟩:=ih h;obtain⟨ls,c,d⟩:=jh a;exact⟨ls,c,b.trans d⟩
theorem AE{vs:List Qf}{ns:List Int}{n:Int}{t:Tok}(h:Rr vs ns):Rr (vs++[.int n t]) (ns++[n]):=by
 induction h with
 |nil=>exact .cons n t .nil
 |cons m u h ih=>exact .cons m u ih
theorem stored{h:Qz}{a:Qh}{o:Obj}{es:Array (Int×Qf)}{ep:Nat}{t:Q5}{es':Array (Int×Qf)}{t':Q5}(ho:h.get? a=some o)(hd:o.data=.set es ep t) :
  (h.update a (VX es' t')).get? a=some {o with data:=.set es' (ep+1) t'}:=by
 have e:=Q1 (VX es' t') ho (by rw[putSet_of es' t' hd];rfl);rw[putSet_of es' t' hd]at e;exact e
theorem vh{g:Bool->Sem Unit}(hg:∀(b:Bool) (s₁:Qi) (Q':Unit->Qi->Prop),Q' () s₁->Qn (Qs prog w) A (g b) Q' E s₁)
  {a:Qh}{o:Obj}{es es1:Array (Int×Qf)}{ep:Nat}{t t2:Q5}{ks:List Int} (ho:s.heap.get? a=some o) (hd:o.data=.set es ep t)
  (hI:SI prog w {o with data:=.set es1 (ep+1) t2} ks es1 (ep+1) t2) {wd:Bool} {R:Option Bool->Qi->Prop}
  (h:∀h' o' es' ep' t' ks',Q7 a s.heap h'->h'.get? a=some o'->SI prog w o' ks' es' ep' t'->ks'.Perm ks->R (some true) {s with heap:=h'}) :
  Qn (Qs prog w) A (storeSet a es1 t2 >>= fun _=>if(!wd&&t2.tooFull)=true then g (Ua t2 es1 (RY es1.size)).2.2 >>= fun _=>storeSet a (Ua t2 es1 (RY es1.size)).1 (Ua t2 es1 (RY es1.size)).2.1 >>= fun _=>pure (some true)else pure (some true)) R E s:=by
 refine Qe (Vj ho hd ?_ (Sh hI.sm));have e1:=stored (es':=es1) (t':=t2) ho hd;have b1:=QX s.heap a (VX es1 t2);split
 ·have hp:=relayAll_perm t2 es1 (RY es1.size);have hf:=relayAll_fits t2 es1 (RY es1.size);have hG:=Cm hI.gd es1 (RY es1.size);generalize Ua t2 es1 (RY es1.size)=Rl at hp hf hG ⊢;obtain⟨es2,t3,gave⟩:=Rl;dsimp only at hp hf hG ⊢;have sz:es2.size=es1.size:=by rw[<-gV,hp.length_eq,gV]
  have sm2:es2.size<scanBound:=by rw[sz];exact hI.sm
  obtain⟨ks2,rd2,kp⟩:=jA (hp.symm.map (·.2)) hI.rd;refine Qe (hg _ _ _ (Qe (Vj e1 rfl ?_ (Sh sm2))));have e2:=stored (es':=es2) (t':=t3) e1 rfl;exact Qj (h _ _ es2 _ t3 ks2 (b1.trans (QX _ a _)) e2 ⟨hI.ex,rfl,hI.el.perm hp,rd2,kp.nodup_iff.mp hI.nd,sm2,hf,hG⟩ kp.symm)
 exact Qj (h _ _ es1 _ t2 ks b1 e1 hI (.refl _))
theorem add_int{a:Qh}{S:Int->Prop}{m:Nat}{n:Int}{tk:Tok}{Q:Bool->Qi->Prop}(hS:SG prog w s.heap a S m)(hm:m+1<scanBound)
  (h:∀b h',Q7 a s.heap h'->SG prog w h' a (fun z=>S z\/z=n) (m+1)->Q b {s with heap:=h'}) :
  Qn (Qs prog w) A (WV a (.int n tk) ((R5 prog w).hash n)) Q E s:=by
 obtain⟨o,ks,es,ep,t,ho,I,mem,kl⟩:=hS;have kn:es.size=ks.length:=by rw[<-m5 I.rd,a_,gV]
 have hk:=US prog w n tk;unfold WV setAddHashedIn;refine QK (Qe (RT ho I.dat I.ft ?_));dsimp only;rw[byScan_of rfl I.sm I.el,if_pos rfl];unfold setAddByScan;refine Qe (Qe (RV (Qe (wpAny_setScan_of hk ho I.dat I.ft I.el ?_))));cases hr:List.findIdx? (fun e=>(R5 prog w).is n e.2) es.toList with
 |some j=>
  dsimp only;obtain⟨hj,pj,_⟩:=List.findIdx?_eq_some_iff_getElem.mp hr;have hn:n∈ks:=(pG (prog:=prog) (w:=w) I.rd n).mpr ⟨_,LY hj,pj⟩;refine Qj (Qj ?_);exact h _ s.heap (XJ a s.heap) ⟨o,ks,es,ep,t,ho,I,fun z=>by rw[mem z];exact⟨.inl,fun q=>q.elim id fun e=>by rw[e];exact(mem n).mp hn⟩,by omega⟩
 |none=>
  dsimp only;have hn:n ∉ ks:=fun z=>by obtain⟨e,me,q⟩:=(pG (prog:=prog) (w:=w) I.rd n).mp z;have:=List.findIdx?_eq_none_iff.mp hr e me;rw[q]at this;cases this
  have pm:=layNew_perm t es ((R5 prog w).hash n) (.int n tk);have ft:=layNew_fits t es ((R5 prog w).hash n) (.int n tk);have gd:=Io I.gd es ((R5 prog w).hash n) (.int n tk);generalize layNew t es ((R5 prog w).hash n) (.int n tk)=L at pm ft gd ⊢;obtain⟨es1,t1,wd,gave⟩:=L;dsimp only at pm ft gd ⊢;rw[Mx]at pm;have s1:es1.size=es.size+1:=by rw[<-gV,pm.length_eq,f',gV];rfl
  have el1:ElemsOf (R5 prog w) es1.toList:=(I.el.push hk rfl).perm pm;have rdp:Rr (I_ (·.2) (es.toList++[((R5 prog w).hash n,RX n tk)])) (ks++[n]):=by rw[q_];exact AE I.rd
  obtain⟨ks1,rd1,kp⟩:=jA (pm.symm.map (·.2)) rdp;have nd1:ks1.Nodup:=kp.nodup_iff.mp (Mn.mpr ⟨I.nd,F'.mpr ⟨(nomatch ·),Mk⟩,fun x hx y hy e=>by rw[z_.mp hy]at e;exact hn (e▸hx)⟩);have fin:∀h' o' es' ep' t' ks',Q7 a s.heap h'->h'.get? a=some o'->SI prog w o' ks' es' ep' t'->ks'.Perm ks1->Q true {s with heap:=h'}:=fun h' o' es' ep' t' ks' b g I' p=>by
   refine h _ h' b ⟨o',ks',es',ep',t',g,I',fun z=>?_,?_⟩
   ·rw[p.mem_iff,<-kp.mem_iff,v_,mem z,z_]
   rw[p.length_eq,<-kp.length_eq,f'];exact NP kl
  have gw:∀(b:Bool) (s₁:Qi) (Q':Unit->Qi->Prop),Q' () s₁->Qn (Qs prog w) A (match b with|true=>rule "set.scan.the-table-gave-way" |false=>pure ()) Q' E s₁:=fun b s₁ Q' q=>by cases b <;> first|exact Qj q|exact RV q
  refine Qe (?_:Qn _ _ (match gave with|true=>_|false=>_) _ _ _);have sm1:es1.size<scanBound:=by omega
  refine gw gave s _ ?_;split
  ·refine Qe ?_;rw[hashByValue_scannable 8 (x:=.int n tk) rfl];refine Qj ?_;refine vh (ks:=ks1) gw ho I.dat ⟨I.ex,rfl,el1,rd1,nd1,sm1,?_,?_⟩ fun h' o' es' ep' t' ks' b g I' p=>Qj (fin h' o' es' ep' t' ks' b g I' p)
   ·exact ft
   exact gd
  refine Qe (Qj ?_);rw[if_pos rfl];exact vh (ks:=ks1) gw ho I.dat ⟨I.ex,rfl,el1,rd1,nd1,sm1,ft,gd⟩ fun h' o' es' ep' t' ks' b g I' p=>Qj (fin h' o' es' ep' t' ks' b g I' p)
end
open PySem PyProof.Rows
theorem DC:WW table "set.__iter__"=some Rt.«frozenset.__iter__»:=Wd (id':="frozenset.__iter__") (by kernel_rfl) rfl (by decide +kernel) (by kernel_rfl)
theorem eY:WK "set_iterator" "__next__" "set_iterator.__next__":=
 .of (owner:="set_iterator") (n:="__next__") (by rw[VY,UG];kernel_rfl) (by decide +kernel) (by decide +kernel) (by decide +kernel) (by first|exact .inl (by decide +kernel)|exact .inr (by decide +kernel)) (by rw[UH];kernel_rfl)
theorem yD:WK "set_iterator" "__iter__" "set_iterator.__iter__":=
 .of (owner:="set_iterator") (n:="__iter__") (by rw[VY,UG];kernel_rfl) (by decide +kernel) (by decide +kernel) (by decide +kernel) (by first|exact .inl (by decide +kernel)|exact .inr (by decide +kernel)) (by rw[UH];kernel_rfl)
theorem EJ:WW table "set_iterator.__iter__"=some Rt.«dict_keyiterator.__iter__»:=Wd (id':="dict_keyiterator.__iter__") (by kernel_rfl) rfl (by decide +kernel) (by kernel_rfl)
theorem yc:WW table "set_iterator.__next__"=some Rt.«set_iterator.__next__»:=entryFor_of_tree (by kernel_rfl)
theorem FU:XX.lookup (String.ofList ['r','o','t','a','r','e','t','i','_','t','e','s'].reverse)=some WG:=by kernel_rfl
theorem yA(a:Qf):WX "set_iterator.__next__" ⟨[a],[]⟩:=by unfold WX;rw[Wy (id:="set_iterator.__next__") (n:=['_','_','t','x','e','n','_','_']) (o:=['r','o','t','a','r','e','t','i','_','t','e','s']) (by kernel_rfl) FU];kernel_rfl
theorem Ex(a:Qf):WX "set_iterator.__iter__" ⟨[a],[]⟩:=by unfold WX;rw[Wy (id:="set_iterator.__iter__") (n:=['_','_','r','e','t','i','_','_']) (o:=['r','o','t','a','r','e','t','i','_','t','e','s']) (by kernel_rfl) FU];kernel_rfl
theorem uO{α:Type}:∀{l:List α}{i:Nat} (h:i<l.length),(l[i]::l.eraseIdx i).Perm l
 |x::l,0,_=>.refl _
 |x::l,i+1,h=>by have g:i<l.length:=Nat.lt_of_succ_lt_succ h;show(l[i]::x::l.eraseIdx i).Perm (x::l);exact(MC ..).trans (.cons x (uO g))
theorem rK{α:Type}{next:Nat->Nat}:∀(f k:Nat) (l:List α) (out:Array α),l.length=f->(WY next f k l out).toList.Perm (out.toList++l)
 |0,k,l,out,h=>by rw[LD h,E_];exact .refl _
 |f+1,k,l,out,h=>by
  unfold WY;have lt:next k%l.length<l.length:=Qc _ (by omega)
  rw[c_ lt];refine(rK f _ _ _ (by rw[Oj lt];omega)).trans ?_;rw[Mx,k_];refine LJ _ ?_;exact uO lt
section
variable{prog:Qv}{w:Qy}{A:QE}{E:Qf->Qi->Prop}{s:Qi}
theorem wp_choose{src:Source}{n:Nat}{Q:Nat->Qi->Prop}(hn:n≠0)(h:∀i d,i<n->Q i {s with drawn:=d}):Qn (Qs prog w) A (choose src n) Q E s:=
 fun _ _ _=>⟨hn,h _ _ (Qc _ (LM hn))⟩
theorem zK{α:Type}:∀(n:Nat) (xs:List α) {s:Qi}{Q:List α->Qi->Prop},xs.length=n->(∀ys d,ys.Perm xs->Q ys {s with drawn:=d})->Qn (Qs prog w) A (drawOrder n xs) Q E s
 |0,xs,s,Q,hl,h=>by rw[LD hl]at h ⊢;exact Qj (h [] s.drawn (.refl _))
 |n+1,[],s,Q,hl,h=>by cases hl
 |n+1,x::xs,s,Q,hl,h=>by unfold drawOrder;refine Qe (wp_choose (by simp) fun i d hi=>?_);rw[c_ hi];dsimp only;refine Qe (zK n _ (by rw[Oj hi,hl];rfl) fun ys d' p=>Qj (h _ d' ?_));exact(N8 _ p).trans (uO hi)
noncomputable def Itr(h:Qz)(it:Qh)(first:Qf)(i:Nat)(a:Qh)(n ep:Nat):Prop:=∃o,h.get? it=some o/\o.cls=.type "set_iterator"/\o.data=.fields #[first,.int i 0,.ref a,.int n 0,.int ep 0]
theorem Itr.ty {it a:Qh}{f:Qf}{i n ep:Nat}(x:Itr s.heap it f i a n ep):s.TypeIs (.ref it) "set_iterator":=let ⟨o,ho,hc,_⟩:=x;⟨o,ho,hc⟩
theorem Itr.at {h h':Qz}{it a:Qh}{f:Qf}{i n ep:Nat}(x:Itr h it f i a n ep)(e:∀o,h.get? it=some o->h'.get? it=some o):Itr h' it f i a n ep:=let ⟨o,ho,r⟩:=x;⟨o,e _ ho,r⟩
theorem zo{it a:Qh}{f:Qf}{i n ep:Nat}{Q:Qf->Qi->Prop}(x:Itr s.heap it f i a n ep)(h:Q (.ref it) s):Qn (Qs prog w) A (Tc (.ref it)) Q E s:=by refine TR x.ty yD (QY yD x.ty EJ ?_ (Ex _));show Qn _ _ (ret (.ref it)) _ _ s;exact Qj ⟨_,rfl,"set_iterator",_,x.ty,eY.lookup,h⟩
noncomputable def Nx(prog:Qv)(w:Qy)(a:Qh)(o:Obj)(ep:Nat)(vs:List Qf)(sl:Nat->Nat):Prop:=∀(A:QE) (E:Qf->Qi->Prop) (s:Qi) (i:Nat) (Q:Option (Qf×Nat)->Qi->Prop),s.heap.get? a=some o->i<=vs.length->Q (vs[i]?.map fun v=>(v,sl (i+1))) s->Qn (Qs prog w) A (We a (sl i) i ep) Q E s
theorem yB{it a:Qh}{o:Obj}{es:Array (Int×Qf)}{ep:Nat}{t:Q5}{i:Nat}{sl:Nat->Nat}{Q:Option Qf->Qi->Prop}(x:Itr s.heap it (.int (sl i) 0) i a es.size ep)(ho:s.heap.get? a=some o)(hd:o.data=.set es ep t)(hf:t.fits es.size=true){vs:List Qf}(N:Nx prog w a o ep vs sl)(hi:i<=vs.length)(hh:A.handled=none)
  (h1:∀v h',vs[i]?=some v->Itr h' it (.int (sl (i+1)) 0) (i+1) a es.size ep->Q7 it s.heap h'->Q (some v) {s with heap:=h'}) (h2:∀h',vs[i]?=none->Sw it s.heap h'->Q none {s with heap:=h'}):Qn (Qs prog w) A (RS (.ref it)) Q E s:=by
 obtain⟨oi,hoi,hc,hdi⟩:=id x;unfold RS;refine Qe (Rw (QW (name:=Ra "__next__") x.ty eY (QY eY x.ty yc ?_ (yA _))));unfold Rt.«set_iterator.__next__»;refine Qe (Qj (Qe (Tt hoi hdi ?_)));show Qn _ _ (setEntries a >>= _) _ _ s;refine Qe (To ho hd hf ?_);rw[if_neg (show ¬_ by simp)];show Qn _ _ (We a _ _ _ >>= _) _ _ s;refine Qe ?_;rw[LK,LK,LK];refine N _ _ _ i _ ho hi ?_;cases e:vs[i]? with
 |some v=>
  dsimp only[Nh];refine Qe (Rk hoi hdi (by simp) ?_);have e1:=Q1 (Ss (·.setIfInBounds 0 (Rh (sl (i+1))))) hoi (RA (QS hdi _));refine Qe (Rk e1 (QS hdi _) (by simp) ?_);have e2:=Q1 (Ss (·.setIfInBounds 1 (Rh ((i:Int)+1)))) e1 (RA (QS (QS hdi _) _));refine Qj ⟨_,rfl,Qj (h1 v _ e ⟨_,e2,((Sf ..).trans (Sf ..)).trans hc,?_⟩ ((QX ..).trans (QX ..)))⟩;rw[QS (QS hdi _)];simp[Rh]
 |none=>
  dsimp only[Nh];refine Qe (Rk hoi hdi (by simp) (show Qn _ _ (T9 (.type "StopIteration") [] >>= _) _ _ _ from Qe ?_));simp only[T9,Vt];refine Qe (QJ (Qe (m:=RI _ _) (Sx (a:=QT) (by first|rfl|(simp only[RI];rfl)) (QJ ?_ (by size_fits)))) (by size_fits));simp only[Vu];refine Qe (TJ ?_);rw[show A.in1.handled=none from hh];refine Qe (Qj (Uu ?_));refine Qe (Sl (T:="StopIteration") (b:=true) (by exact⟨_,Qo _ rfl,rfl⟩) Ts (Qj ?_));exact h2 _ e (((QX ..).extBut.push _).push _)
theorem Cw{it a:Qh}(hne:a≠it){o:Obj}{es:Array (Int×Qf)}{ep:Nat}{t:Q5}{sl:Nat->Nat}(hd:o.data=.set es ep t)(hf:t.fits es.size=true){vs:List Qf}(N:Nx prog w a o ep vs sl)(hh:A.handled=none) :
  Xo prog w A it [it,a] [it] vs.length (fun i v=>vs[i]?=some v) (fun i h=>i<=vs.length/\Itr h it (.int (sl i) 0) i a es.size ep/\h.get? a=some o) where
 sub:=fun b hb=>by simp at hb;simp[hb]
 frame:=fun _ _ _ st hk=>⟨st.1,st.2.1.at fun o e=>hk it (by simp) o e,hk a (by simp) o st.2.2⟩
 item:=fun i s Q E hi st hQ=>yB st.2.1 st.2.2 hd hf N st.1 hh (fun v h' e x sb=>hQ v h' s.toks e ⟨hi,x,sb.extBut a o hne st.2.2⟩ fun b o hb e=>sb.extBut b o (fun z=>hb (by simp[z])) e) fun h' e=>by rw[c_ hi]at e;cases e
 done:=fun s Q E st hQ=>yB st.2.1 st.2.2 hd hf N st.1 hh (fun v h' e=>by rw[M9 (b_ _)]at e;cases e) fun h' _ eb=>hQ h' s.toks fun b o hb e=>eb b o (fun z=>hb (by simp[z])) e
 self:=fun _ _ _ _ st hQ=>zo st.2.1 hQ
end
open PySem PyProof.Rows
section
variable{prog:Qv}{w:Qy}{A:QE}{E:Qf->Qi->Prop}{s:Qi}
theorem wp_text{Q:Bool->Qi->Prop}(h:Q (bt w) s):Qn (Qs prog w) A setsByText Q E s:=Qe (Ub (Qj h))
theorem Cn{es:Array (Int×Qf)}{i:Nat}:(es.toList.map (·.2))[i]?=es[i]?.map (·.2):=by rw[D_,f_]
theorem Fh{a:Qh}{o:Obj}{ks:List Int}{es:Array (Int×Qf)}{ep:Nat}{t:Q5}(I:SI prog w o ks es ep t)(hb:bt w=true) :
  Nx prog w a o ep ((pickOrder (w.params.setOrder a ep) es).toList.map (·.2)) (fun _=>0):=by
 intro A E s i Q ho hi h;unfold We;refine Qe (RT ho I.dat I.ft (Qe (wp_text ?_)));rw[hb,if_pos rfl];dsimp only;rw[if_neg (by simp)];refine Qe ?_;unfold setWalk;refine Qe (RT ho I.dat I.ft (Qe (wp_text ?_)));rw[hb,if_pos rfl];refine Qe (Ub (Qj (Qj ?_)));rw[Cn,Option.map_map]at h;exact h
noncomputable def slP(t:Q5):Nat->Nat
 |0=>0
 |i+1=>t.place.getD i 0+1
theorem CF{a:Qh}{o:Obj}{ks:List Int}{es:Array (Int×Qf)}{ep:Nat}{t:Q5}(I:SI prog w o ks es ep t)(hb:bt w=false)(hdr:(!t.plain&&decide (es.size > 1))=false) :
  Nx prog w a o ep (es.toList.map (·.2)) (slP t):=by
 intro A E s i Q ho hi h;have hz:t.place.size=es.size:=by have:=I.ft;unfold X2 at this;simp at this;exact this.1
 unfold We;refine Qe (RT ho I.dat I.ft (Qe (wp_text ?_)));rw[hb,if_neg (by simp)];dsimp only;refine R' (fun z=>absurd (show(!t.plain&&decide (es.size > 1))=true from z) (by rw[hdr];simp)) fun _=>Qe ?_
 show Qn _ _ (if(!t.led&&!es.isEmpty)=true then _ else _) _ _ _;rw[I.gd.led hb,if_neg (by simp)];refine Qj ?_;have eb:QN t.place (slP t i)=i:=by
  match i,hi with
  |0,_=>exact EE I.gd.up
  |i+1,hi=>
   have hi:i<t.place.size:=by rw[a_,gV]at hi;omega
   have e:t.place[i]?=some (t.place.getD i 0):=by rw[i_ hi,MG,i_ hi];rfl
   exact below_at I.gd.up e
 rw[eb];refine Qj ?_;rw[Cn]at h;by_cases c:i<es.size
 ·rw[i_ c,i_ (show i<t.place.size by omega)];rw[i_ c]at h;have e:slP t (i+1)=t.place[i]+1:=by show t.place.getD i 0+1=_;rw[MG,i_ (by omega)];rfl
  dsimp only[Nh]at h;rw[e]at h;exact h
 rw[Mb (by omega)];rw[Mb (by omega)]at h;exact h
theorem yY{it a tp:Qh}{o ot:Obj}{es:Array (Int×Qf)}{ep:Nat}{t:Q5}{i:Nat}{ps:List Nat}{c:Nat}{Q:Option Qf->Qi->Prop}(x:Itr s.heap it (.ref tp) i a es.size ep)(ho:s.heap.get? a=some o)(hd:o.data=.set es ep t)(hf:t.fits es.size=true)(hot:s.heap.get? tp=some ot)(hdt:ot.data=.seq (ps.map fun(j:Nat)=>Rh j).toArray c)(hps:∀p∈ps,p<es.size)(hh:A.handled=none)
  (h1:∀p v h',ps[i]?=some p->(es[p]?.map (·.2))=some v->Itr h' it (.ref tp) (i+1) a es.size ep->Q7 it s.heap h'->Q (some v) {s with heap:=h'}) (h2:∀h',ps[i]?=none->Sw it s.heap h'->Q none {s with heap:=h'}):Qn (Qs prog w) A (RS (.ref it)) Q E s:=by
 obtain⟨oi,hoi,hc,hdi⟩:=id x;unfold RS;refine Qe (Rw (QW (name:=Ra "__next__") x.ty eY (QY eY x.ty yc ?_ (yA _))));unfold Rt.«set_iterator.__next__»;refine Qe (Qj (Qe (Tt hoi hdi ?_)));show Qn _ _ (setEntries a >>= _) _ _ s;refine Qe (To ho hd hf ?_);rw[if_neg (show ¬_ by simp)];show Qn _ _ (U9 (.ref tp) >>= _) _ _ s;unfold U9;refine Qe (Qe (VF hot ?_));rw[hdt];refine Qj ?_;dsimp only;rw[LK,LK];have ea:((ps.map fun(j:Nat)=>Rh j).toArray)[i]?=ps[i]?.map fun(j:Nat)=>Rh j:=by rw[List.getElem?_toArray,D_]
 rw[ea];cases e:ps[i]? with
 |some p=>
  have hp:=hps p (G_ e);dsimp only[Nh,Rh];unfold setNextDrawn;refine Qe (Qe (RT ho hd hf ?_));dsimp only;rw[if_neg (by simp),LK,i_ hp];refine Qj (Qe (Rk hoi hdi (by simp) ?_));have e1:=Q1 (Ss (·.setIfInBounds 1 (Rh ((i:Int)+1)))) hoi (RA (QS hdi _));refine Qj ⟨_,rfl,Qj (h1 p _ _ e (by rw[i_ hp];rfl) ⟨_,e1,(Sf ..).trans hc,?_⟩ (QX ..))⟩;rw[QS hdi _];simp[Rh]
 |none=>
  dsimp only[Nh];refine Qe (Rk hoi hdi (by simp) ?_);have e1:=Q1 (Ss (·.setIfInBounds 0 (Rh 0))) hoi (RA (QS hdi _));refine Qe (Rk e1 (QS hdi _) (by simp) (show Qn _ _ (T9 (.type "StopIteration") [] >>= _) _ _ _ from Qe ?_));simp only[T9,Vt];refine Qe (QJ (Qe (m:=RI _ _) (Sx (a:=QT) (by first|rfl|(simp only[RI];rfl)) (QJ ?_ (by size_fits)))) (by size_fits));simp only[Vu];refine Qe (TJ ?_);rw[show A.in1.handled=none from hh];refine Qe (Qj (Uu ?_));refine Qe (Sl (T:="StopIteration") (b:=true) (by exact⟨_,Qo _ rfl,rfl⟩) Ts (Qj ?_));exact h2 _ e ((((QX ..).trans (QX ..)).extBut.push _).push _)
theorem CB{it a tp:Qh}(hne:a≠it)(hnt:tp≠it){o ot:Obj}{es:Array (Int×Qf)}{ep:Nat}{t:Q5}{ps:List Nat}{c:Nat}(hd:o.data=.set es ep t)(hf:t.fits es.size=true)(hdt:ot.data=.seq (ps.map fun(j:Nat)=>Rh j).toArray c)(hps:∀p∈ps,p<es.size)(hh:A.handled=none) :
  Xo prog w A it [it,a,tp] [it] ps.length (fun i v=>∃p,ps[i]?=some p/\es[p]?.map (·.2)=some v) (fun i h=>Itr h it (.ref tp) i a es.size ep/\h.get? a=some o/\h.get? tp=some ot) where
 sub:=fun b hb=>by simp at hb;simp[hb]
 frame:=fun _ _ _ st hk=>⟨st.1.at fun o e=>hk it (by simp) o e,hk a (by simp) o st.2.1,hk tp (by simp) ot st.2.2⟩
 item:=fun i s Q E hi st hQ=>yY st.1 st.2.1 hd hf st.2.2 hdt hps hh (fun p v h' e1 e2 x sb=>hQ v h' s.toks ⟨p,e1,e2⟩ ⟨x,sb.extBut a o hne st.2.1,sb.extBut tp ot hnt st.2.2⟩ fun b o hb e=>sb.extBut b o (fun z=>hb (by simp[z])) e) fun h' e=>by rw[c_ hi]at e;cases e
 done:=fun s Q E st hQ=>yY st.1 st.2.1 hd hf st.2.2 hdt hps hh (fun p v h' e=>by rw[M9 (b_ _)]at e;cases e) fun h' _ eb=>hQ h' s.toks fun b o hb e=>eb b o (fun z=>hb (by simp[z])) e
 self:=fun _ _ _ _ st hQ=>zo st.1 hQ
end
open PySem PyProof.Rows
section
variable{prog:Qv}{w:Qy}{A:QE}{E:Qf->Qi->Prop}{s:Qi}
theorem B8{vs:List Qf}{acc:Array Qf}(h:Wc (fun i v=>vs[i]?=some v) acc vs.length):acc.toList=vs:=by
 refine Pb fun j=>?_;rw[f_];by_cases hj:j<vs.length
 ·have hja:j<acc.size:=by rw[h.1];exact hj
  have e:=i_ hja;rw[e];exact(h.2 j _ e).symm
 rw[Mb (by rw[h.1];omega),M9 (by omega)]
theorem AS{es:Array (Int×Qf)}{ps:List Nat}(hp:ps.Perm (A_ es.size)){acc:Array Qf}(h:Wc (fun i v=>∃p,ps[i]?=some p/\es[p]?.map (·.2)=some v) acc ps.length):acc.toList.Perm (es.toList.map (·.2)):=by
 have e:acc.toList=ps.filterMap fun p=>es[p]?.map fun(x:Int×Qf)=>x.2:=by
  have g:∀(qs:List Nat) (vs:List Qf),vs.length=qs.length->(∀(j:Nat) v,vs[j]?=some v->∃p:Nat,qs[j]?=some p/\es[p]?.map (fun(x:Int×Qf)=>x.2)=some v)->vs=qs.filterMap fun p=>es[p]?.map fun(x:Int×Qf)=>x.2:=by
   intro qs;induction qs with
   |nil=>exact fun vs l _=>LD l
   |cons q qs ih=>
    intro vs l k
    match vs,l,k with
    |v::vs,l,k=>
     obtain⟨p,e1,e2⟩:=k 0 v rfl;cases e1;rw[List.filterMap_cons_some (f:=fun p=>Nh (fun(x:Int×Qf)=>x.2) es[p]?) e2,<-ih vs (MQ l) fun j v e=>k (j+1) v e]
  exact g ps acc.toList (by rw[gV];exact h.1) fun j v e=>h.2 j v (by rw[<-f_];exact e)
 rw[e];refine(hp.filterMap _).trans ?_;have e2:(A_ es.size).filterMap (fun p=>es[p]?.map (·.2))=((A_ es.size).filterMap fun p=>es[p]?).map (·.2):=by rw[List.map_filterMap]
 rw[e2,filterMap_getElem?_range]
theorem D4{a:Qh}{o:Obj}{ks:List Int}{es:Array (Int×Qf)}{ep:Nat}{t:Q5}{Q:Qf->Qi->Prop}(ho:s.heap.get? a=some o)(I:SI prog w o ks es ep t)(hh:A.handled=none)
  (h:∀(h1:Qz) d (it:Qh) (fp:List Qh) (P:Nat->Qf->Prop) (St:Nat->Qz->Prop),s.heap.objs.size<=it->it<h1.objs.size->(∀b u,s.heap.get? b=some u->h1.get? b=some u)->(∀b∈fp,b=a\/s.heap.objs.size<=b)->Xo prog w A it fp [it] es.size P St->St 0 h1->(∀acc,Wc P acc es.size->acc.toList.Perm (es.toList.map (·.2)))->Q (.ref it) {s with heap:=h1,drawn:=d}) :
  Qn (Qs prog w) A (Tc (.ref a)) Q E s:=by
 have hT:s.TypeIs (.ref a) "set":=⟨o,ho,I.ex.1⟩;have lt:=Qr ho;have hz:es.size<=sizeLine:=Sh I.sm;refine TR hT VZ (QY VZ hT DC ?_ (F.args_set_iter_1 _));unfold Rt.«frozenset.__iter__»;refine Qe ?_;unfold W5;refine Qe (Qj (Qj (Qe ?_)));unfold WZ;refine Qe (To ho I.dat I.ft (Qj (Qe ?_)));unfold setDrawn;refine Qe (RT ho I.dat I.ft (Qe (wp_text (Qj ?_))));have plain:∀(vs:List Qf) (sl:Nat->Nat),sl 0=0->vs.Perm (es.toList.map (·.2))->Nx prog w a o ep vs sl->Q (.ref s.heap.objs.size) {s with heap:=s.heap.push { cls:=.type "set_iterator",data:=.fields #[.int 0 0,.int 0 0,.ref a,.int es.size 0,.int ep 0] } }:=fun vs sl h0 pm N=>by
  have ln:vs.length=es.size:=by rw[pm.length_eq,a_,gV]
  have W:=Cw (A:=A) (it:=s.heap.objs.size) (x_ lt) I.dat I.ft N hh;rw[ln]at W;refine h _ s.drawn _ _ _ _ (b_ _) (by rw[Q6];exact MT _) (fun b u e=>Qk _ e) (fun b hb=>?_) W ⟨B_ _,⟨_,Qo _ rfl,rfl,?_⟩,Qk _ ho⟩ fun acc it=>?_
  ·rcases n_.mp hb with e|hb
   ·exact .inr (Nu e.symm)
   exact .inl (z_.mp hb)
  ·rw[h0]
   rfl
  rw[<-ln]at it;rw[B8 it];exact pm
 cases hb:bt w with
 |true=>
  refine Qe ?_;refine Qj ?_;refine Qe (TU ho I.dat I.ft ?_);refine Qe (QJ ?_);refine Qj ⟨_,rfl,"set_iterator",_,⟨_,Qo _ rfl,rfl⟩,eY.lookup,?_⟩;exact plain _ _ rfl ((rK _ _ _ _ (by rw[gV])).map _) (Fh I hb)
 |false=>
  cases hdr:(!t.plain&&decide (es.size > 1))with
  |false=>
   refine R' (fun z=>absurd (show(!false&&(!t.plain&&decide (es.size > 1)))=true from z) (by rw[hdr];simp)) fun _=>Qe (Qj ?_)
   refine Qe (TU ho I.dat I.ft ?_);refine Qe (QJ ?_);refine Qj ⟨_,rfl,"set_iterator",_,⟨_,Qo _ rfl,rfl⟩,eY.lookup,?_⟩;exact plain _ _ rfl (.refl _) (CF I hb hdr)
  |true=>
   refine R' (fun _=>?_) fun z=>absurd (show(!false&&(!t.plain&&decide (es.size > 1)))=true by rw[hdr];rfl) z
   refine Qe (zK _ _ (by rw[LP]) fun ys d pm=>?_);refine Qe (QJ ?_ ?_);refine Qe (TU (Qk _ ho) I.dat I.ft ?_);refine Qe (QJ ?_);refine Qj ⟨_,rfl,"set_iterator",_,⟨_,Qo _ rfl,rfl⟩,eY.lookup,?_⟩
   ·have yl:ys.length=es.size:=by rw[pm.length_eq,LP]
    have hz2:∀x:Obj,(s.heap.push x).objs.size=s.heap.objs.size+1:=fun x=>Q6 ..;have W:=CB (prog:=prog) (w:=w) (A:=A) (it:=s.heap.objs.size+1) (a:=a) (tp:=s.heap.objs.size) (x_ (My lt)) (x_ (MT _)) (ot:={ cls:=.type "tuple",data:=.seq (ys.map fun(j:Nat)=>Rh j).toArray}) I.dat I.ft rfl (fun p hp=>Lr.mp (pm.mem_iff.mp hp)) hh;rw[yl]at W;have e2:∀x y:Obj,y.isFreed=false->((s.heap.push x).push y).get? (s.heap.objs.size+1)=some y:=fun x y q=>by rw[<-hz2 x];exact Qo _ q
    have r:=h ((s.heap.push { cls:=.type "tuple",data:=.seq (ys.map fun(j:Nat)=>Rh j).toArray}).push { cls:=.type "set_iterator",data:=.fields #[.ref s.heap.objs.size,.int 0 0,.ref a,.int es.size 0,.int ep 0] }) d (s.heap.objs.size+1) _ _ _ (M0 _) (by rw[Q6,Q6];exact MT _) (fun b u e=>Qk _ (Qk _ e)) (fun b hb=>?_) W ⟨⟨_,e2 _ _ rfl,rfl,rfl⟩,Qk _ (Qk _ ho),Qk _ (Qo _ rfl)⟩ fun acc it=>AS pm (by rw[yl];exact it)
    ·rw[<-hz2]at r;exact r
    simp only[n_,LO,or_false]at hb;rcases hb with e|e|e
    ·exact .inr (by rw[e];exact M0 _)
    ·exact .inl e
    exact .inr (Nu e.symm)
   show _<=_;rw[r_,a_,pm.length_eq,LP];exact hz
end
open PySem PyProof.Rows
section
variable{prog:Qv}{w:Qy}{A:QE}{E:Qf->Qi->Prop}{s:Qi}
theorem BD{a:Qh}{Q:Bool->Qi->Prop}(hT:s.TypeIs (.ref a) "set")(h:Q false s):Qn (Qs prog w) A (Tz (.ref a)) Q E s:=by
 unfold Tz;refine Qe (Uj hT F.slot_set_len.lookup ?_);generalize hid:("set.__len__":String)=id0
 wp_delta
 rw[show splitId id0=some ("set","__len__")from by subst hid;decide +kernel];subst hid;refine Qe (Sl (T:="set") (b:=true) hT (by rw[UH];kernel_rfl) ?_);refine R' (fun z=>absurd z (by decide)) fun _=>R' (fun _=>Qe (U6 hT (Qj h))) fun z=>absurd (by decide +kernel) z
theorem DZ{R:WI->Qi->Prop}{a:Qh}{o:Obj}{ks:List Int}{es:Array (Int×Qf)}{ep:Nat}{t:Q5}(ho:s.heap.get? a=some o)(I:SI prog w o ks es ep t)(hh:A.handled=none)(S:Qh)(hSa:S≠a)(res:Qf)(c₀:Nat)(hS:s.heap.get? S=some { cls:=.type "list",data:=.seq #[] c₀ })
  (hR:∀h' tk d acc c,(∀b u,b≠S->s.heap.get? b=some u->h'.get? b=some u)->h'.get? S=some { cls:=.type "list",dict:=none,data:=.seq acc c,slots:=#[] }->acc.toList.Perm (es.toList.map (·.2))->R (.ok (.ret res)) {s with heap:=h',drawn:=d,toks:=tk}) :
  Qn (Qs prog w) A.in1 (TB (.ref S) (.ref a) res) (fun fin s'=>match fin with | .done f=>R (.ok f) s' | .again c'=>c'.quiet=true/\R7 (Qs prog w) A c' R s') (fun e s'=>R (.error e) s') s:=by
 have hz:es.size<=sizeLine:=Sh I.sm;have lS:=Qr hS;unfold TB;refine Qe (U6 (T:="set") ⟨o,ho,I.ex.1⟩ ?_);have h1:Uc (.ref S) (.ref a)=false:=by simp[Uc,hSa]
 have h2:(Rg "set" == Rg "list")=false:=by decide
 have h3:(Rg "set" == Rg "tuple")=false:=by decide
 simp only[h1,h2,h3,PQ,Kk,if_false];refine Qe (D4 ho I hh fun h1 d it fp P St hit hlt kp hfp W st pm=>?_);have hSf:S ∉ fp:=fun z=>(hfp S z).elim hSa fun z=>OB z lS;have hSi:S≠it:=fun z=>by rw[z]at lS;exact OB hit lS
 have key:∀(h:Qz) (c₁:Nat) (tk:Nat),St 0 h->(∀b u,b≠S->h1.get? b=some u->h.get? b=some u)->h.get? S=some { cls:=.type "list",data:=.seq #[] c₁ }->R7 (Qs prog w) A (.builtin "list.extend.loop" ⟨[.ref S,.ref it,res],[]⟩) R {s with heap:=h,drawn:=d,toks:=tk}:=by
  intro h c₁ tk hst hk hS₁;refine codeAny_extend_loopS W.toS hz S hSf res es.size 0 _ #[] c₁ rfl (B_ _) hst hS₁ (ItemsOf.nil _) fun s' acc' c' hm hS' hacc=>?_;rw[Moved.eq_with hm];refine hR s'.heap s'.toks d acc' c' (fun b u hb e=>hm.heap b u (fun z=>?_) (hk b u hb (kp b u e))) hS' (pm _ hacc);rcases n_.mp z with z|z
  ·exact hb z
  have:=Qr e;rw[z_.mp z]at this;exact OB hit this
 have hS₁:=kp _ _ hS;refine Qe (QK (BD ⟨o,kp _ _ ho,I.ex.1⟩ ?_));refine R' (fun _=>?_) (fun _=>Qj ⟨S6 TZ _,key _ c₀ _ st (fun b u _ e=>e) hS₁⟩);refine Qe (RV ?_);refine Qe ?_;show Qn _ _ (updateSeq S (·.push .none) >>= fun _=>updateSeq S (·.pop)) _ _ _;refine Qe (V0 hS₁ rfl ?_);have hS₂:=Q1 (QI (·.push QT)) hS₁ rfl;refine V0 (hz:=by seq_fits) hS₂ rfl ?_;have hS₃:=Q1 (QI (·.pop)) hS₂ rfl;refine Qj ⟨S6 TZ _,key _ _ _ ?_ (fun b u hb e=>?_) hS₃⟩
 ·refine W.frame 0 _ _ st fun b hb u e=>?_;have hbS:b≠S:=fun z=>hSf (z▸hb);exact(Ru _ _ (R6 hbS)).trans ((Ru _ _ (R6 hbS)).trans e)
 exact(Ru _ _ (R6 hb)).trans ((Ru _ _ (R6 hb)).trans e)
theorem vy{a:Qh}{o:Obj}{ks:List Int}{es:Array (Int×Qf)}{ep:Nat}{t:Q5}{Q:List Qf->Qi->Prop}(ho:s.heap.get? a=some o)(I:SI prog w o ks es ep t)(hh:A.handled=none)
  (h:∀h' tk d (vs:List Qf),s.heap.objs.size<=h'.objs.size->(∀b u,s.heap.get? b=some u->h'.get? b=some u)->vs.Perm (es.toList.map (·.2))->Q vs {s with heap:=h',drawn:=d,toks:=tk}):Qn (Qs prog w) A (collect (.ref a)) Q E s:=by
 unfold collect;refine Qe (Wf (Sd F.entry_proto_collect ?_));rw[RW F.plain_proto_collect _];show Qn _ A.in1 (newList [] >>= fun l=>again (.builtin "list.__iadd__" ⟨[l,.ref a],[]⟩)) _ _ s;refine Qe (QJ ?_);refine Qj ⟨S6 Vk _,Sd F.entry_list_iadd ?_⟩;rw[RW Vk _];have hS:(s.heap.push { cls:=.type "list",data:=.seq ([]:List Qf).toArray}).get? s.heap.objs.size=some { cls:=.type "list",data:=.seq ([]:List Qf).toArray}:=Qo _ rfl;have hne:s.heap.objs.size≠a:=M6 (Qr ho);have fin:∀(s':Qi) (h':Qz) (tk:Nat) (d:WB) (acc:Array Qf) (c:Nat),s'={s with heap:=h',drawn:=d,toks:=tk}->(∀b u,s.heap.get? b=some u->h'.get? b=some u)->h'.get? s.heap.objs.size=some { cls:=.type "list",dict:=none,data:=.seq acc c,slots:=#[] }->acc.toList.Perm (es.toList.map (·.2))->
   Qn (Qs prog w) A (load s.heap.objs.size >>= fun o=>match o.data with
    | .seq xs _=>pure xs.toList
    | _=>unsupported "internal:collect") Q E s':=fun s' h' tk d acc c es' kp e it=>by
  subst es';refine Qe (VF e ?_);exact Qj (h h' tk d _ (K_ (Qr e)) kp it)
 refine QM (DZ (s:={s with heap:=s.heap.push { cls:=.type "list",data:=.seq ([]:List Qf).toArray} }) (R:=fun r s'=>∃(h':Qz) (tk:Nat) (d:WB) (acc:Array Qf) (c:Nat),r=.ok (.ret (.ref s.heap.objs.size))/\s'={s with heap:=h',drawn:=d,toks:=tk}/\(∀b u,s.heap.get? b=some u->h'.get? b=some u)/\h'.get? s.heap.objs.size=some { cls:=.type "list",dict:=none,data:=.seq acc c,slots:=#[] }/\acc.toList.Perm (es.toList.map (·.2)))
  (Qk _ ho) I hh s.heap.objs.size hne (.ref s.heap.objs.size) 0 hS (fun h' tk d acc c kp e it=>⟨h',tk,d,acc,c,rfl,rfl,fun b u eb=>kp b u (x_ (Qr eb)) (Qk _ eb),e,it⟩)) (fun fn s' hf=>?_) (fun e s' hf=>?_)
 ·cases fn with
  |done f=>
   obtain⟨h',tk,d,acc,c,ef,es',kp,e,it⟩:=hf;cases ef;exact fin s' h' tk d acc c es' kp e it
  |again c'=>
   refine⟨hf.1,RZ hf.2 fun r s'' hr=>?_⟩;obtain⟨h',tk,d,acc,c,er,es',kp,e,it⟩:=hr;subst er;exact fin s'' h' tk d acc c es' kp e it
 obtain⟨_,_,_,_,_,ef,_⟩:=hf;cases ef
end
open PySem PyProof.Rows
section
variable{prog:Qv}{w:Qy}{A:QE}{R:WI->Qi->Prop}{I:Qh}{fp wr:List Qh}{G:Array Vq->Array Vq->Prop}{n:Nat}{P:Nat->Qf->Prop}{St:Nat->Qi->Prop}
theorem SG.at {h h':Qz}{a:Qh}{S:Int->Prop}{m:Nat}(x:SG prog w h a S m)(k:∀o,h.get? a=some o->h'.get? a=some o):SG prog w h' a S m:=let ⟨o,ks,es,ep,t,e,r⟩:=x;⟨o,ks,es,ep,t,k _ e,r⟩
theorem SG.congr {h:Qz}{a:Qh}{S S':Int->Prop}{m:Nat}(x:SG prog w h a S m)(k:∀z,S z↔S' z):SG prog w h a S' m:=let ⟨o,ks,es,ep,t,e,r,q⟩:=x;⟨o,ks,es,ep,t,e,r,fun z=>(q.1 z).trans (k z),q.2⟩
theorem D8(W:WalksS prog w A.in1 I fp wr G n P St)(S:Qh)(hSf:S ∉ fp)(val:Nat->Int)(hval:∀i v,P i v->∃t,v=.int (val i) t)(hb:n+1<scanBound) :
  ∀(k i:Nat) (s:Qi),n-i=k->i<=n->St i s->SG prog w s.heap S (fun z=>∃j,j<i/\val j=z) i->(∀s',Moved (S::wr) G s s'->SG prog w s'.heap S (fun z=>∃j,j<n/\val j=z) n->R (.ok (.ret .none)) s')->R7 (Qs prog w) A (.builtin "set.update.loop" ⟨[.ref S,.ref I],[]⟩) R s:=by
 have hSw:S ∉ wr:=fun h=>hSf (W.sub _ h);have hsub:∀b∈wr,b∈S::wr:=fun b hb=>l_ _ hb;intro k;induction k with
 |zero=>
  intro i s hk hi hst hS hR;obtain rfl:i=n:=by omega
  refine Sd Uh ?_;rw[RW SQ _];show Qn _ A.in1 (RS (.ref I) >>= _) _ _ s;refine Qe (W.done s _ _ hst fun s' hm=>?_);show Qn _ A.in1 (ret QT) _ _ s';exact Qj (hR s' (hm.mono hsub) (hS.at fun o e=>hm.heap S _ hSw e))
 |succ k ih=>
  intro i s hk hi hst hS hR;have hlt:i<n:=by omega
  refine Sd Uh ?_;rw[RW SQ _];show Qn _ A.in1 (RS (.ref I) >>= _) _ _ s;refine Qe (W.item i s _ _ hlt hst fun v s' hP hst' hm=>?_);obtain⟨t,rfl⟩:=hval i v hP;have hS':=hS.at (h':=s'.heap) fun o e=>hm.heap S _ hSw e;show Qn _ A.in1 (S9 [RX (val i) t] (setAdd S (.int (val i) t)) >>= _) _ _ s';refine Qe (QK ?_);unfold setAdd;refine QK (Qe ((R5 prog w).pyHash (k:=val i) (US _ _ _ _) ?_));refine add_int (s:={s' with toks:=s'.toks+1}) hS' (by omega) fun _ h' sb hS2=>?_
  have hSi:SG prog w h' S (fun z=>∃j,j<i+1/\val j=z) (i+1):=hS2.congr fun z=>⟨fun q=>q.elim (fun⟨j,a,b⟩=>⟨j,by omega,b⟩) fun e=>⟨i,by omega,e.symm⟩,fun⟨j,a,b⟩=>by
   by_cases c:j=i
   ·exact .inr (by rw[<-b,c])
   exact .inl ⟨j,by omega,b⟩⟩
  refine Qj ⟨S6 SQ _,ih (i+1) _ (by omega) hlt (W.frame _ s' _ _ hst' (M0 _) fun b hb o e=>?_) hSi fun s'' hm'' hS''=>?_⟩
  ·rw[sb.2 b (fun h:b=S=>hSf (by rw[<-h];exact hb))];exact e
  refine hR s'' (Moved.trans W.gtrans ((hm.mono hsub).then_heap (M0 _) fun b o hb e=>?_) hm'') hS'';rw[sb.2 b (fun h:b=S=>hb (by rw[h];exact p_))];exact e
end
section
variable{prog:Qv}{w:Qy}{A:QE}{E:Qf->Qi->Prop}{s:Qi}
abbrev nob(w:Qy):Obj:={ cls:=.type "set",dict:=none,data:=.set #[] 0 (.fresh 0 0 (!bt w)) }
theorem DN(a:Qf){Q:Qf->Qi->Prop}(h:Q (.ref s.heap.objs.size) {s with heap:=s.heap.push (nob w) }):R7 (Qs prog w) A (.call (.builtin "set.__new__") ⟨[.type "set",a],[]⟩) (wants Q E) s:=by
 refine V1 ?_;show Qn _ A.in1 (checkBuiltinCall "set.__new__" ⟨[.type "set",a],[]⟩ >>= fun _=>again (.builtin "set.__new__" ⟨[.type "set",a],[]⟩)) _ _ s;refine Qe (Sx (F.newCall_set_1 a) (Qj ⟨S6 V2 _,Sd F.entry_set_new ?_⟩));rw[RW V2 _];unfold Rt.«set.__new__» Wz;have hsub:=sub_set_self;obtain⟨hp,g,d,tk,os⟩:=s;dsimp only
 wp_walk
 refine Ub (Qj ?_);dsimp only;simp only[newObj];refine Qe (wpAny_alloc (Qj ?_));exact Qj h
theorem Ih{h:Qz}:SG prog w (h.push (nob w)) h.objs.size (fun _=>False) 0:=
 ⟨_,[],#[],0,_,Qo _ rfl,⟨⟨rfl,rfl,rfl⟩,rfl,fun e he=>(nomatch he),.nil,Mk,by decide,rfl,Bz _ _ _⟩,fun z=>⟨(nomatch ·),QC⟩,b_ _⟩
set_option maxHeartbeats 3200000 in
theorem BB{l:Qh}{items:Array Qf}{ns:List Int}{Q:Qf->Qi->Prop}(hh:A.handled=none)(hl:s.heap.IsList l items)(hi:Rr items.toList ns)(hb:items.size+1<scanBound)
  (h:∀(h':Qz) (tk:Nat),SG prog w h' s.heap.objs.size (fun z=>z∈ns) items.size->(∀b o,b<s.heap.objs.size->s.heap.get? b=some o->h'.get? b=some o)->Q (.ref s.heap.objs.size) {s with heap:=h',toks:=tk}) :
  Qn (Qs prog w) A (call (.type "set") [.ref l]) Q E s:=by
 obtain⟨c,tl,hmro⟩:=R3.mro;have hmade:=R3.made;have hsub:=R3.sub;refine wpAny_call (V1 ?_);show Qn _ _ (callAny (.type "set") _) _ _ _;refine Qj ⟨Code.quiet_builtin _ (by decide +kernel),Sd F.entry_type_call ?_⟩;rw[Around.under_plain (weight_type_call_type "set" [.ref l] []) rfl];have h1:=R3.notType;have h2:=R3.canCreate;have hct:=F.typeCall_set_1 (.ref l)
 repeat (any_goals (first|assumption|wp_step))
 refine RZ (DN (.ref l) (E:=E) (Q:=fun obj s₁=>obj=.ref s.heap.objs.size/\s₁={s with heap:=s.heap.push (nob w) }) ⟨rfl,rfl⟩) fun r s₁ hr=>?_;cases r with
 |error e=>exact hr
 |ok fl=>
  cases fl with
  |ret obj=>
   obtain⟨rfl,rfl⟩:=hr;have hS:(s.heap.push (nob w)).get? s.heap.objs.size=some (nob w):=Qo _ rfl;have hT:Shared.TypeIs {s with heap:=s.heap.push (nob w) } (.ref s.heap.objs.size) "set":=⟨_,hS,rfl⟩;have hli:=R3.init.lookup;have hbi:=R3.init.bind (.ref s.heap.objs.size)
   repeat (any_goals (first|assumption|wp_step))
   refine RZ (codeAny_call_builtin (R:=wants (fun r s₂=>r=.none/\∃h' tk,s₂={s with heap:=h',toks:=tk}/\SG prog w h' s.heap.objs.size (fun z=>z∈ns) items.size/\(∀b o,b<s.heap.objs.size->s.heap.get? b=some o->h'.get? b=some o)) E) R3.init.plain F.entry_set_init (check_set_init_1 hT ?_)) fun r₂ s₂ hr₂=>?_
   ·obtain⟨ol,hol,hcl,nl,hdl⟩:=hl;obtain⟨ocls,odict,odata,oslots⟩:=ol;simp only at hcl hdl;subst hcl;subst hdl;have hol':(s.heap.push (nob w)).get? l=some { cls:=.type "list",dict:=odict,data:=.seq items nl,slots:=oslots}:=Qk _ hol;have hsls:=F.sub_list_set;have hslf:=F.sub_list_frozenset;have hne:(Rg "list" == Rg "dict")=false:=by decide
    have hl1:(s.heap.push (nob w)).IsList l items:=⟨_,hol',rfl,nl,rfl⟩;unfold Rt.«set.__init__» noKeywords Wg;generalize hPI:Tc=PI
    wp_walk
    subst hPI;refine RD hl1 ?_;refine Qe (Wf ?_);have hlS:l<s.heap.objs.size:=Qr hol;have hh3:A.in1.in1.in1.handled=none:=by simp[hh]
    have hneI:l≠(s.heap.push (nob w)).objs.size:=by rw[Q6];exact x_ (My hlS)
    have hSf:s.heap.objs.size ∉ [(s.heap.push (nob w)).objs.size,l]:=by rw[Q6];simp only[n_,z_,LO,or_false,not_or];exact⟨x_ (MT _),M6 hlS⟩
    have hval:∀(i:Nat) (v:Qf),items[i]?=some v->∃t,v=.int ((fun i=>ns.getD i 0) i) t:=fun i v hv=>IntsAre.int_at hi i v (by rw[f_];exact hv)
    refine D8 ((Xm hh3 _ l hneI items).toS) s.heap.objs.size hSf (fun i=>ns.getD i 0) hval hb (items.size-0) 0 _ (by omega) (B_ _) ⟨⟨_,Qo _ rfl,rfl,rfl⟩,(hl1.push _)⟩ ?hS0 ?hR
    case hS0=>exact(Ih.at fun o e=>Qk _ e).congr fun z=>⟨QC,fun⟨j,a,_⟩=>absurd a (by omega)⟩
    case hR=>
     intro s' hm hS';obtain⟨h',g',d',tk',os'⟩:=s';have eg:g'=s.gens:=hm.gens;have ed:d'=s.drawn:=hm.drawn;have eo:os'=s.os:=hm.os;subst eg;subst ed;subst eo;refine Qj ?_;show Qn _ _ (ret QT) _ _ _;have nl:items.size=ns.length:=by rw[<-m5 hi,gV]
     refine Qj ⟨rfl,h',tk',rfl,hS'.congr fun z=>⟨fun⟨j,a,b⟩=>?_,fun q=>?_⟩,fun b o hb e=>?_⟩
     ·rw[<-b,LB,c_ (by omega)];exact LY _
     ·obtain⟨j,a,b⟩:=LF.mp q;exact⟨j,by omega,by rw[LB,c_ a];exact b⟩
     refine hm.heap b o ?_ (Qk _ (Qk _ e));rw[Q6];simp only[n_,z_,LO,or_false,not_or];exact⟨x_ hb,x_ (My hb)⟩
   ·cases r₂ with
    |error e=>exact hr₂
    |ok fl₂=>
     cases fl₂ with
     |ret r=>
      obtain⟨rfl,h',tk,rfl,hS',hk'⟩:=hr₂
      repeat (any_goals (first|assumption|wp_step))
      exact h _ _ hS' hk'
     | _=>exact hr₂.elim
  | _=>exact hr.elim
end
open PySem PyProof.Rows
section
variable{prog:Qv}{w:Qy}{A:QE}{E:Qf->Qi->Prop}{s:Qi}
theorem nA:∀{vs:List Qf}{ns:List Int},Rr vs ns->vs.map ZS.fS=ns/\∀v∈vs,∃i t,v=.int i t/\i∈ns
 | _,_,.nil=>⟨rfl,fun v h=>(nomatch h)⟩
 | _,_,.cons n t h=>by
  obtain⟨a,b⟩:=nA h;refine⟨by rw[g_,a];rfl,fun v hv=>?_⟩;rcases n_.mp hv with e|hv
  ·exact⟨n,t,e,.head _⟩
  obtain⟨i,u,e,m⟩:=b v hv;exact⟨i,u,e,.tail _ m⟩
theorem xg{a:Qh}{o:Obj}{ks:List Int}{es:Array (Int×Qf)}{ep:Nat}{t:Q5}{Q:Qf->Qi->Prop}(ho:s.heap.get? a=some o)(I:SI prog w o ks es ep t)(hh:A.handled=none)
  (h:∀(out:List Qf) (ms:List Int) p c h' tk d,Rr out ms->ms.Perm ks->ms.Pairwise (·<=·)->s.heap.objs.size<=p->(∀b u,s.heap.get? b=some u->h'.get? b=some u)->h'.get? p=some (QH "list" out.toArray c)->Q (.ref p) {s with heap:=h',drawn:=d,toks:=tk}) :
  Qn (Qs prog w) A (call (.builtin "sorted") [.ref a]) Q E s:=by
 refine SD Vn U' Va (WR _) ?_;unfold Rt.«sorted»;refine Qe (m:=VU "sorted" 1 1 _) (Qj ?_);refine Qe (vy ho I hh fun h0 tk d vs le k0 pm=>?_);obtain⟨ns,hI,kp⟩:=jA pm.symm I.rd;obtain⟨keys,each⟩:=nA hI;have hz:vs.length<=sizeLine:=by rw[pm.length_eq,a_,gV];exact Sh I.sm
 refine Qe (R8 ?_ hz);have hoL:(h0.push (QH "list" vs.toArray 0)).get? h0.objs.size=some (QH "list" vs.toArray 0):=Qo _ rfl;have keep:∀b o,s.heap.get? b=some o->(h0.push (QH "list" vs.toArray 0)).get? b=some o:=fun b o q=>Qk _ (k0 b o q);show Qn _ _ _ _ _ {s with heap:=h0.push (QH "list" vs.toArray 0),drawn:=d,toks:=tk};have ne:∀b o,s.heap.get? b=some o->b≠h0.objs.size:=fun b o e=>x_ (Qr (k0 b o e));generalize h0.push (QH "list" vs.toArray 0)=h1 at hoL keep ⊢;refine Qe (QK (QY UD ⟨_,hoL,rfl⟩ Uo ?body (Wb _)))
 case body=>
  refine ZS.rZ (s:={s with heap:=h1,drawn:=d,toks:=tk}) (kd:=VB) (rk:=fun x=>ZS.rnk ZS.ltI ns (ZS.fS x.1)) (S:=fun x=>x.1∈vs) hoL hz (fun v hv=>hv) (fun h' k {Q} hne q=>?_) (fun h' k=>ZS.CV fun x hx=>each _ hx) fun out c h' g1 g2 g3 g4=>?_
  ·obtain⟨v1,vs',ev⟩:=List.exists_cons_of_ne_nil hne;rw[ev]at hI ⊢;exact ZS.Ci hI q
  obtain⟨ms,om,mp⟩:=jA g1.symm hI;have eo:=(nA om).1;refine⟨_,rfl,Qj ⟨_,rfl,h out ms _ c h' tk d om (mp.symm.trans kp.symm) ?_ le (fun b u e=>g3 b u (ne b u e) (keep b u e)) g4⟩⟩;rw[<-eo,Lw];refine Mh (fun{x y} hx hy hxy=>?_) g2;by_cases z:ZS.fS x<=ZS.fS y
  ·exact z
  have:=ZS.ui ZS.J6 (ks:=ns) (a:=ZS.fS y) (b:=ZS.fS x) (by rw[<-keys];exact LG (g1.mem_iff.mp hy)) (decide_eq_true (by omega));exact absurd this (OX.mpr hxy)
end
end ZT
namespace L2
open PySem PySem.Spec PyProof.Rows
section
variable{X:Cx}
theorem Inv.drw {pins:List (Qh×Obj)}{s:Qi}{σ:St}{H:Hp}{d:WB}(I:Inv X pins σ H s):Inv X pins σ H {s with drawn:=d}:=⟨I.ok,I.os,I.bare,I.base,I.loc,I.cell,I.free,I.freeC,I.pin,I.hok,I.len⟩
theorem CW:∀{vs:List Qf}{ns:List Int},Rr vs ns->Vals (ns.map V.int) vs
 | _,_,.nil=>.nil
 | _,_,.cons n t h=>.cons ⟨t,rfl⟩ (CW h)
theorem zU{e:Qx}{te:TE}{p1 p2 pos1 pos2:Pos}(hc:X.calm=true)(hg1:Gl X "sorted")(hm1:X.mg "sorted"=none)(hg2:Gl X "set")(hm2:X.mg "set"=none)(he:PE X e te)
  (hs1:QA [e] X.env=[(false,QO e X.env)]:=by rfl) (hs2:QA [.Call (.Name "set" p2) [e] [] pos2] X.env=[(false,QO (.Call (.Name "set" p2) [e] [] pos2) X.env)]:=by rfl) :
  PE X (.Call (.Name "sorted" p1) [.Call (.Name "set" p2) [e] [] pos2] [] pos1) (fun σ H Q=>te σ H fun x H1=>∃l,∃ns:List Int,x=.ref l/\SqL X.K H1 l (ns.map V.int)/\ns.length<4095/\∀ms:List Int,ms.Pairwise (·<·)->(∀z,z∈ms↔z∈ns)->New (.lst (ms.map V.int)) H1 Q):=by
 intro pins s σ H Q I h;refine Ri (eS I hg1 hm1 Xk (callWith_builtin1 ?_ (by rw[hs2];rfl) rfl));rw[hs2];refine R9 ?_;refine Ri (eS I hg2 hm2 boot_set (callWith_type1 ?_ (by rw[hs1];rfl) rfl));rw[hs1];refine R9 (thn (he pins s σ H _ I h) ?_);rintro u s1 ⟨x,H1,I1,r1,l,ns,ex,hl,hz,q⟩;subst ex;cases r1;obtain⟨its,rv,pl,_⟩:=I1.list hl;have hI:=intsAre_of rv;have ln:=ZT.m5 hI;refine Qj (ZT.BB (items:=its.toArray) (ns:=ns) (I1.ok.hd hc) pl.isList hI (by unfold scanBound;rw[r_];omega) fun h' tk SG kp=>?_);have k1:∀b o,s1.heap.get? b=some o->h'.get? b=some o:=fun b o e=>kp b o (Qr e) e;have I2:Inv X pins σ H1 {s1 with heap:=h',toks:=tk}:=I1.kept (t':=tk) k1;obtain⟨o,ks,es,ep,t,ho,SI,mem,_⟩:=SG;refine Qj (ZT.xg ho SI (I2.ok.hd hc) fun out ms p c h2 tk2 d om pm so le k2 e2=>?_);have hz2:ms.length<=16777216:=by have a:=SI.sm;have b:=ZT.m5 SI.rd;rw[a_,gV]at b;rw[pm.length_eq];unfold scanBound at a;omega
 have I3:=(I2.drw (d:=d)).laid (a:=p) (o:=.lst (ms.map V.int)) (t':=tk2) k2 le (show ba X.prog X.w _ h2 _ (.lst (ms.map V.int))from⟨by rw[a_];exact hz2,out,c,CW om,e2⟩);refine⟨.ref p,_,I3,rfl,(q ms ?_ fun z=>?_).at (I2.hok.fresh le)⟩
 ·have nd:=pm.nodup_iff.mpr SI.nd;exact(List.Pairwise.and so nd).imp fun⟨a,b⟩=>by omega
 rw[pm.mem_iff];exact mem z
end
end L2
namespace ZS
open PySem PyProof.Rows
section
variable{prog:Qv}{w:Qy}{A:QE}{E:Qf->Qi->Prop}{s:Qi}
theorem Al{a:Qh}{vs:List Qf}{n:Nat}{kd:Rf}{rk:Ql->Nat}{S:Ql->Prop}{P:XC->Qi->Prop}(ho:s.heap.get? a=some (QH "list" vs.toArray n))(hz:vs.length<=sizeLine)(hS:∀v∈vs,S (v,v))
  (kind:∀h',(∀b o,b≠a->s.heap.get? b=some o->h'.get? b=some o)->∀{Q:Rf->Qi->Prop},vs≠[]->Q kd {s with heap:=h'}->Qn (Qs prog w) A (Tv vs.toArray) Q E {s with heap:=h'})
  (lt:∀h',(∀b o,b≠a->s.heap.get? b=some o->h'.get? b=some o)->cM (Qs prog w) A E {s with heap:=h'} kd rk S)
  (h:∀(o:List Qf) c h',o.Perm vs->o.Pairwise (fun x y=>rk (y,y)<=rk (x,x))->(∀b u,b≠a->s.heap.get? b=some u->h'.get? b=some u)->h'.get? a=some (QH "list" o.toArray c)->P (.done (.ret .none)) {s with heap:=h'}) :
  Qn (Qs prog w) A (Rt.«list.sort» ⟨[.ref a],[(Ra "reverse",.bool true)]⟩) P E s:=by
 rw[list_sort_rev];have ha:a<s.heap.objs.size:=Qr ho;refine Qe (WQ ho rfl ?_);refine Qe (TN ho rfl ?_ (by rw[r_];exact hz) (B_ _));obtain⟨e1,ho1⟩:∃e1,(s.heap.update a (QI fun _=>(#[]:Array Qf))).get? a=some (QH "list" #[] e1):=⟨_,Tj ho fun _=>#[]⟩;refine Qe (Ux ho1 rfl ?_);refine Qe (UA ?_ hz);refine Qe (R8 ?_ (B_ _));refine QK ?_;have k2:∀b u,(s.heap.update a (QI fun _=>(#[]:Array Qf))).get? b=some u->(((s.heap.update a (QI fun _=>(#[]:Array Qf))).push (QH "tuple" vs.toArray 0)).push (QH "list" #[] 0)).get? b=some u:=fun b u e=>Qk _ (Qk _ e);have k3:∀b u,b≠a->s.heap.get? b=some u->(((s.heap.update a (QI fun _=>(#[]:Array Qf))).push (QH "tuple" vs.toArray 0)).push (QH "list" #[] 0)).get? b=some u:=fun b u hb e=>k2 b u (by rw[RG _ _ _ _ hb];exact e)
 have ho6:=k2 _ _ ho1;show Qn (Qs prog w) A _ P E {s with heap:=((s.heap.update a (QI fun _=>(#[]:Array Qf))).push (QH "tuple" vs.toArray 0)).push (QH "list" #[] 0) };generalize ((s.heap.update a (QI fun _=>(#[]:Array Qf))).push (QH "tuple" vs.toArray 0)).push (QH "list" #[] 0)=h1 at k3 ho6 ⊢;dsimp only;have fin:∀st':Qq,(Qm st').Perm (vs.toArray.zip vs.toArray)->Srt rk (Qm st').toList->QZ st'=none->Qn (Qs prog w) A (do
   let touched:=(<-seqEpoch a) != e1
   Ue (.ref a) fun _=>((Qm st').map (·.2)).reverse
   if let some e:=QZ st' then rule "list.sort.comparison-raised";throw e
   if touched then rule "list.sort.modified";raiseError "ValueError" "list modified during sort"
   ret .none) P E {s with heap:=h1}:=fun st' hp hs hf=>by
  have lp:(Qm st').toList.Perm (vs.map fun v=>(v,v)):=by have:=L_.mp hp;rw[je]at this;exact this
  have op:((Qm st').toList.map (·.2)).Perm vs:=by have:=lp.map (·.2);rw[B',show((fun x:Ql=>x.2) ∘ fun v:Qf=>(v,v))=id from rfl,N_]at this;exact this
  have tw:∀p∈(Qm st').toList,p=(p.2,p.2):=fun p hp=>by obtain⟨v,_,e⟩:=t_.mp (lp.mem_iff.mp hp);rw[<-e]
  have osr:((Qm st').toList.map (·.2)).Pairwise (fun x y=>rk (x,x)<=rk (y,y)):=by rw[Lw];refine Mh (fun{p q} hp hq hr=>?_) hs;rw[<-tw p hp,<-tw q hq];exact hr
  have os:((Qm st').map (·.2)).reverse.size<=sizeLine+1:=by rw[Array.size_reverse,<-gV,NO,op.length_eq];lia
  refine Qe (Ux ho6 rfl ?_);refine Qe (TN ho6 rfl ?_ (B_ _) os);rw[hf];simp only[bne_self_eq_false,Kk,if_false];obtain⟨c,hc⟩:∃c,(h1.update a (QI fun _=>((Qm st').map (·.2)).reverse)).get? a=some (QH "list" ((Qm st').toList.map (·.2)).reverse.toArray c):=by have:=Tj ho6 fun _=>((Qm st').map (·.2)).reverse;rw[show((Qm st').toList.map (·.2)).reverse.toArray=((Qm st').map (·.2)).reverse by rw[<-NO,<-Mm]];exact⟨_,this⟩
  refine Qj (h _ c _ ((Pf _).trans op) (List.pairwise_reverse.mpr osr) (fun b u hb e=>?_) hc);rw[RG _ _ _ _ hb];exact k3 b u hb e
 have zr:(vs.toArray.zip vs.toArray).reverse.toList=vs.reverse.map fun v=>(v,v):=by rw[Mm,je,List.map_reverse]
 have zp:(vs.toArray.zip vs.toArray).reverse.Perm (vs.toArray.zip vs.toArray):=L_.mpr (by rw[Mm];exact Pf _);refine Qe (RV ?_);by_cases h2:vs.toArray.size<2
 ·rw[if_pos h2,if_pos h2];refine Qe (Qj ?_);rw[VT];refine Qe (Qj ?_);refine fin (Ry general' (vs.toArray.zip vs.toArray).reverse #[] 7 none) zp ?_ rfl;show Srt rk (vs.toArray.zip vs.toArray).reverse.toList;rw[zr];have h3:vs.reverse.length<2:=by rw[Lx];exact h2
  generalize vs.reverse=ws at h3;clear fin h lt kind hS ho
  match ws,h3 with
  | [],_=>exact .nil
  | [v],_=>exact NF _ _
  | _::_::_,h3=>exact absurd h3 (by rw[h_,h_];lia)
 rw[if_neg h2,if_neg h2];refine Qe (kind h1 k3 (fun z=>by rw[z]at h2;simp at h2) ?_);refine Qe (QM (oD (st:=Ry kd (vs.toArray.zip vs.toArray).reverse #[] 7 none) (Q:=fun _ st'=>(Qm st').Perm (vs.toArray.zip vs.toArray).reverse/\QZ st'=none/\Srt rk (Qm st').toList) (lt h1 k3) (fun p hp=>?_) (fun x=>RV rfl) rfl rfl rfl fun st' a1 a2 a3=>⟨a1,a2,a3⟩) ?_ fun _ _ e=>e)
 ·rw[show(Qm (Ry kd (vs.toArray.zip vs.toArray).reverse #[] 7 none))=(vs.toArray.zip vs.toArray).reverse from rfl,zr]at hp;obtain⟨v,hv,e⟩:=t_.mp hp;rw[<-e];exact hS v (MO.mp hv)
 rintro⟨⟨⟩,st'⟩ s' ⟨rfl,hp,hf,hs⟩;exact fin st' (hp.trans zp) hs hf
theorem wV{l:Qh}{vs:List Qf}{kd:Rf}{rk:Ql->Nat}{S:Ql->Prop}{Q:Qf->Qi->Prop}(hl:s.heap.IsList l vs.toArray)(hz:vs.length<=sizeLine)(hS:∀v∈vs,S (v,v))
  (kind:∀h',(∀b o,s.heap.get? b=some o->h'.get? b=some o)->∀{Q:Rf->Qi->Prop}{E:Qf->Qi->Prop},vs≠[]->Q kd {s with heap:=h'}->Qn (Qs prog w) A.in1.in1 (Tv vs.toArray) Q E {s with heap:=h'})
  (lt:∀h' E,(∀b o,s.heap.get? b=some o->h'.get? b=some o)->cM (Qs prog w) A.in1.in1 E {s with heap:=h'} kd rk S)
  (h:∀(o:List Qf) a c h',o.Perm vs->o.Pairwise (fun x y=>rk (y,y)<=rk (x,x))->s.heap.objs.size<=a->(∀b u,s.heap.get? b=some u->h'.get? b=some u)->h'.get? a=some (QH "list" o.toArray c)->Q (.ref a) {s with heap:=h'}) :
  Qn (Qs prog w) A (call (.builtin "sorted") [.ref l] [(Ra "reverse",.bool true)]) Q E s:=by
 refine call_function_entry_kw Vn U' Va (args_sorted_rev _ _) ?_;unfold Rt.«sorted»;refine Qe (m:=VU "sorted" 1 1 _) (Qj ?_);refine Qe (WS hl ?_ hz);refine Qe (R8 ?_ hz);have hsz:((s.heap.push (QH "list" #[] 0)).update s.heap.objs.size (QI (·++vs.toArray))).objs.size=s.heap.objs.size+1:=by rw[VA,size_push']
 have hoL:(((s.heap.push (QH "list" #[] 0)).update s.heap.objs.size (QI (·++vs.toArray))).push (QH "list" vs.toArray 0)).get? (s.heap.objs.size+1)=some (QH "list" vs.toArray 0):=by rw[<-hsz];exact Qo _ rfl
 have keep:∀b o,s.heap.get? b=some o->(((s.heap.push (QH "list" #[] 0)).update s.heap.objs.size (QI (·++vs.toArray))).push (QH "list" vs.toArray 0)).get? b=some o:=fun b o q=>by have hlt:b<s.heap.objs.size:=Qr q;rw[SU _ _ _ (by rw[hsz];exact x_ (My hlt)),RG _ _ _ _ (x_ hlt),SU _ _ _ (x_ hlt)];exact q
 show Qn _ _ _ _ _ {s with heap:=((s.heap.push (QH "list" #[] 0)).update s.heap.objs.size (QI (·++vs.toArray))).push (QH "list" vs.toArray 0) };rw[hsz];generalize ((s.heap.push (QH "list" #[] 0)).update s.heap.objs.size (QI (·++vs.toArray))).push (QH "list" vs.toArray 0)=h1 at hoL keep ⊢;have ne:∀b o,s.heap.get? b=some o->b≠s.heap.objs.size+1:=fun b o e=>x_ (My (Qr e));refine Qe (QK (wpAny_call_entry_kw UD ⟨_,hoL,rfl⟩ Uo ?body (args_list_sort_rev _ _)))
 case body=>
  refine Al (s:={s with heap:=h1}) (kd:=kd) (rk:=rk) (S:=S) hoL hz hS (fun h' k {Q} hne q=>kind h' (fun b o e=>k b o (ne b o e) (keep b o e)) hne q) (fun h' k=>lt h' _ fun b o e=>k b o (ne b o e) (keep b o e)) fun o c h' g1 g2 g3 g4=>?_;exact⟨_,rfl,Qj ⟨_,rfl,h o _ c h' g1 g2 (M0 _) (fun b u e=>g3 b u (ne b u e) (keep b u e)) g4⟩⟩
end
end ZS
namespace L2
open PySem PySem.Spec PyProof.Rows
section
variable{X:Cx}
theorem tZ{e:Qx}{te:TE}{p1 pos1 kp vp:Pos}{kn:Nat}(hg1:Gl X "sorted")(hm1:X.mg "sorted"=none)(he:PE X e te)
  (hs1:QA [e] X.env=[(false,QO e X.env)]:=by rfl) :
  PE X (.Call (.Name "sorted" p1) [e] [⟨some "reverse",(.Constant (.bool true) kn vp),kp⟩] pos1) (fun σ H Q=>te σ H fun x H1=>∃l ys ks,x=.ref l/\SqL X.K H1 l ys/\mN X.K H1 ys ks/\∀zs ls,mN X.K H1 zs ls->(∀v∈zs,v∈ys)->ls.Perm ks->ls.Pairwise (fun x y=>ZS.ltL x y=false)->(∀b xs ys,SqT X.K H1 b xs->SqT X.K H1 b ys->xs=ys)->New (.lst zs) H1 Q):=by
 intro pins s σ H Q I h;refine Ri (eS I hg1 hm1 Xk (callWith_kw ?_ (by rw[hs1];rfl) (by rw[hs1];rfl) rfl rfl));rw[hs1];refine R9 (thn (he pins s σ H _ I h) ?_);rintro u s1 ⟨x,H1,I1,r1,l,ys,ks,ex,hl,hr,q⟩;subst ex;cases r1;refine Qj ?_;refine kws_cons (Wm (kws_nil ?_));show Qn _ _ (call (.builtin "sorted") [.ref l] [(Ra "reverse",.bool true)]) _ _ s1;obtain⟨its,rv,pl,hz⟩:=I1.list hl;have hlen:=rv.length;obtain⟨f1,f2⟩:=pN I1 rv hr;refine ZS.wV (kd:=Wa true) (rk:=fun x=>ZS.rnk ZS.ltL ks (ZS.jP s1.heap x.1)) (S:=fun x=>x.1∈its) pl.isList (by lia) (fun v hv=>hv) (fun h' kp {Q}{E} hne q=>ZS.wa (h0:=s1.heap) (fun v hv=>(f1 v hv).1) (fun b o e _=>kp b o e) hne q)
  (fun h' E kp=>ZS.wb (h0:=s1.heap) (ks:=ks) (fun x hx=>⟨(f1 _ hx).1,by rw[<-f2];exact LG hx⟩) fun b o e _=>kp b o e) fun o a c h' op os ha kp e=>?_
 have mem:∀v∈o,v∈its:=fun v hv=>op.mem_iff.mp hv;have mk:∀(l:List Qf),(∀v∈l,v∈its)->∃zs,Vals zs l/\mN X.K H1 zs (l.map (ZS.jP s1.heap))/\zs.length=l.length/\∀v∈zs,v∈ys:=by
  intro l;induction l with
  |nil=>exact fun _=>⟨[],.nil,.nil,rfl,fun v hv=>(by cases hv)⟩
  |cons v t ih=>
   intro hl;obtain⟨zs,k1,k2,k3,k6⟩:=ih fun v hv=>hl v (.tail _ hv);obtain⟨_,b,e,k4,k5⟩:=f1 v (hl v (.head _));refine⟨.ref b::zs,.cons e k1,.cons ⟨k4,b,rfl,k5⟩ k2,by rw[h_,h_,k3],fun w hw=>?_⟩;rcases n_.mp hw with rfl|hw
   ·exact nk rv (hl v (.head _)) e
   exact k6 w hw
 obtain⟨zs,k1,k2,k3,k6⟩:=mk o mem;refine⟨.ref a,_,I1.laid (t':=s1.toks) kp ha (show ba X.prog X.w _ h' _ (.lst zs)from⟨by rw[k3,op.length_eq];lia,o,c,k1,e⟩),rfl,(q zs _ k2 k6 ?_ ?_ fun b xs ys g1 g2=>I1.fv g1 g2).at (I1.hok.fresh ha)⟩
 ·rw[<-f2];exact op.map _
 rw[Lw];refine Mh (fun{x y} hx hy hxy=>?_) os;cases z:ZS.ltL (ZS.jP s1.heap x) (ZS.jP s1.heap y)
 ·rfl
 have:=ZS.ui ZS.Cf (ks:=ks) (by rw[<-f2];exact LG (mem x hx)) z;exact absurd this (OX.mpr hxy)
end
end L2
namespace PL
open PySem PySem.Spec PyProof.Rows L2
section
variable{X:Cx}
noncomputable def J5:T->(T->Prop)->Prop
 | .lst _ ts,k=>got (intsOf ts) fun ns=>ns.length<4095/\∀ms:List Int,ms.Pairwise (·<·)->(∀z,z∈ms↔z∈ns)->k (.lst true (ms.map T.int))
 | _,_=>False
theorem mQ{e:Qx}{fe:PF}{p1 p2 pos1 pos2:Pos}(hc:X.calm=true)(hg1:Gl X "sorted")(hm1:X.mg "sorted"=none)(hg2:Gl X "set")(hm2:X.mg "set"=none)(he:GE X e fe)
  (hs1:QA [e] X.env=[(false,QO e X.env)]:=by rfl) (hs2:QA [.Call (.Name "set" p2) [e] [] pos2] X.env=[(false,QO (.Call (.Name "set" p2) [e] [] pos2) X.env)]:=by rfl) :
  GE X (.Call (.Name "sorted" p1) [.Call (.Name "set" p2) [e] [] pos2] [] pos1) (fUn J5 fe):=by
 refine PE.imp (zU hc hg1 hm1 hg2 hm2 he hs1 hs2) ?_;rintro σ H Q ⟨env,Fr,k,rs,q,c⟩;refine⟨env,Fr,_,rs,q,fun t env1 v H1 q1 rs1=>?_⟩;cases t <;> first|exact QC q1|skip
 obtain⟨ns,en,z,g⟩:=aF q1;have et:=fx en;subst et;obtain⟨a,vs,rfl,hq,l,rp⟩:=aC rfl rs1.head;have ev:=gm l rp;subst ev;exact⟨a,ns,rfl,hq,z,fun ms h1 h2 p H' hp g' e=>c _ _ _ _ (g ms h1 h2) (.of rs1.1 (fk (uz ms rs1.drop.2) (by rw[a_,a_]) hp g' e))⟩
noncomputable def Ko:T->(T->Prop)->Prop
 | .lst _ ts,k=>got (rowsOf ts) fun ks=>∀ls:List (List Int),ls.Perm ks->ls.Pairwise (fun x y=>ZS.ltL x y=false)->k (.lst true (ls.map iT))
 | _,_=>False
theorem uB{e:Qx}{fe:PF}{p1 pos1 kp vp:Pos}{kn:Nat}(hg1:Gl X "sorted")(hm1:X.mg "sorted"=none)(he:GE X e fe)(hs1:QA [e] X.env=[(false,QO e X.env)]:=by rfl) :
  GE X (.Call (.Name "sorted" p1) [e] [⟨some "reverse",.Constant (.bool true) kn vp,kp⟩] pos1) (fUn Ko fe):=by
 refine PE.imp (tZ hg1 hm1 he hs1) ?_;rintro σ H Q ⟨env,Fr,k,rs,q,c⟩;refine⟨env,Fr,_,rs,q,fun t env1 v H1 q1 rs1=>?_⟩;cases t <;> first|exact QC q1|skip
 obtain⟨ks,ek,g⟩:=aF q1;obtain⟨et,ne⟩:=nL ek;subst et;obtain⟨a,vs,rfl,hq,l,rp⟩:=aC rfl rs1.head;obtain⟨rv,ex⟩:=qS ne l rp;refine⟨a,vs,ks,rfl,hq,rv,fun zs ls rz mem pm sm inj p H' hp g' e'=>c _ _ _ _ (g ls pm sm) (.of rs1.1 ?_)⟩;have rH:=uu (fun v hv b eb xs hs=>by obtain⟨b',k',e1,e2⟩:=ex v (mem v hv);rw[eb]at e1;cases e1;rw[e2,inj _ _ _ hs (SqT.of e2)]) rz
 obtain⟨rp3,l3⟩:=mO rH rs1.drop.2;exact fk rp3 l3 hp g' e'
theorem gH{o:Bool}{ts:List T}{k:T->Prop}:J5 (.lst o ts) k=dg (intsOf ts) (k:=⟨fun ns=>ns.length<4095/\∀ms:List Int,ms.Pairwise (·<·)->(∀z,z∈ms↔z∈ns)->k (.lst true (ms.map T.int))⟩):=rfl
theorem fW{o:Bool}{ts:List T}{k:T->Prop}:Ko (.lst o ts) k=dg (rowsOf ts) (k:=⟨fun ks=>∀ls:List (List Int),ls.Perm ks->ls.Pairwise (fun x y=>ZS.ltL x y=false)->k (.lst true (ls.map iT))⟩):=rfl
noncomputable def lr2:P1s
 | [.int i,.int j],k=>(-(2 ^ 62)<=i/\i<2 ^ 62/\-(2 ^ 62)<=j/\j<2 ^ 62/\j-i<=2 ^ 24)/\k (.lst true (jQ i (j-i).toNat))
 | _,_=>False
theorem lU{i j:Int}{k:T->Prop}:lr2 [.int i,.int j] k=((-(2 ^ 62)<=i/\i<2 ^ 62/\-(2 ^ 62)<=j/\j<2 ^ 62/\j-i<=2 ^ 24)/\k (.lst true (jQ i (j-i).toNat))):=rfl
noncomputable def Kl(fr:PFs):PF:=fCl lr2 fr
theorem g9{fr:PFs}{env:Ev}{k:T->Ev->Prop}:Kl fr env k=fr env fun ts env1=>lr2 ts fun t=>k t env1:=rfl
theorem rb{a b:Qx}{fr:PFs}{p1 p2 pos1 pos2:Pos}(hc:X.calm=true)(hg1:Gl X "list")(hm1:X.mg "list"=none)(hg2:Gl X "range")(hm2:X.mg "range"=none)(ha:GA X [a,b] fr)
  (hs1:QA [a,b] X.env=[(false,QO a X.env),(false,QO b X.env)]:=by rfl) (hs2:QA [.Call (.Name "range" p2) [a,b] [] pos2] X.env=[(false,QO (.Call (.Name "range" p2) [a,b] [] pos2) X.env)]:=by rfl) (hs3:QA [b] X.env=[(false,QO b X.env)]:=by rfl) :
  GE X (.Call (.Name "list" p1) [.Call (.Name "range" p2) [a,b] [] pos2] [] pos1) (Kl fr):=by
 rintro pins s σ H Q I ⟨env,Fr,k,rs,q,c⟩;refine Ri (eS I hg1 hm1 boot_list (callWith_type1 ?_ (by rw[hs2];rfl) rfl));rw[hs2];refine R9 ?_;refine Ri (eS I hg2 hm2 VG (callWith_type1 ?_ (by rw[hs1,hs3]) (by rw[hs3];rfl)));refine thn (ha pos2 pins s σ H (fun vs H1=>∃ts env1,(lr2 ts fun t=>k t env1)/\ts.length=vs.length/\Rs X.K H1 env1 σ (zz ts vs++Fr)) I ⟨env,Fr,_,rs,q,fun ts env1 vs H1 q1 l rs1=>⟨ts,env1,q1,l,rs1⟩⟩) fun us s1 ⟨vs,H1,I1,r1,ts,env1,q1,l,rs1⟩=>?_
 match ts,vs,l,q1 with
 | [.int i,.int j],[v,w],l,q1=>
  have rs1:Rs X.K H1 env1 σ ((.int i,some v)::(.int j,some w)::Fr):=rs1;have ev:=aK rs1.head;have ew:=aK rs1.drop.head;subst ev ew;cases r1 with
  |cons r rr=>
   cases rr with
   |cons r' rr=>
    cases rr;obtain⟨t,rfl⟩:=r;obtain⟨u,rfl⟩:=r';refine WH ?_;refine Vf ?_;obtain⟨⟨h1,h2,h3,h4,h5⟩,q1⟩:=q1;refine oK I1 hc h1 h2 h3 h4 (Int.toNat_le.mpr h5) fun p H' hp g e=>c _ _ _ _ q1 (.of rs1.1 ?_);have rp2:=uz ((A_ (j-i).toNat).map fun(n:Nat)=>i+(n:Int)) rs1.drop.drop.2;have er:jQ i (j-i).toNat=((A_ (j-i).toNat).map fun(n:Nat)=>i+(n:Int)).map T.int:=by rw[B'];rfl
    rw[er];exact fk rp2 (by simp only[a_]) hp g e
end
noncomputable def Jz:PSt:=fun _ _=>False
section
variable{X:Cx}{pos:Pos}{e:Qx}{es:List Qx}{fe:PF}{fr:PFs}{m:PM}{name:Str}{id:String}{apos cpos spos xp yp kp vp p1 pos1:Pos}{x:Str}{κ:Nat->Bool}{kn:Nat}
theorem gJ{st:QR}:GS κ X st Jz:=by rintro pins s σ H D I ⟨env,Fr,pe,rs,q,c⟩;exact q.elim
end
noncomputable def uy:P1s
 | [.lst _ ts],k=>got (rowsOf ts) fun ks=>k (.lst true ((sR ks).map iT))
 | _,_=>False
theorem qX{X:Cx}:iO X (.builtin "sorted") uy:=by
 rintro pins s σ H xs us Q I r ⟨ts,Γ,k,l,rp,g,c⟩;unfold uy at g;split at g
 ·rename_i k o ts;obtain⟨x,rfl⟩:=zz1 l rfl;have rp:Rp X.K H ((.lst o ts,some x)::Γ):=rp;obtain⟨a,vs,rfl,hq,l2,rp2⟩:=oY rp;obtain⟨ks,ek,kt⟩:=aF g;obtain⟨et,ne⟩:=nL ek;subst et;obtain⟨rv,ex⟩:=qS ne l2 rp2;refine uw pins s σ H _ us Q I r ⟨a,vs,ks,rfl,.inl hq,rv,fun zs ls rz mem pm sm p H' hp g' e'=>c _ _ _ kt ?_⟩;have es:ls=sR ks:=DY ZS.Cf pm sm;rw[<-es];have rH:=uu (fun v hv b eb xs hs=>by obtain⟨b',k',e1,e2⟩:=ex v (mem v hv);rw[eb]at e1;cases e1;rw[e2,I.fv hs (SqT.of e2)]) rz
  obtain⟨rp3,l3⟩:=mO rH rp.tail;exact fk rp3 l3 hp g' e'
 exact QC g
end PL
namespace Mp
open PySem L2
noncomputable def top(i:Nat):QR:=PySem.Challenge.pw_millpath_k55_areas_of_programs.main.body.getD i (.Pass ⟨0,0,0,0⟩)
abbrev nM:QR:=top 2
abbrev jV:QR:=top 3
abbrev ny:QR:=top 5
abbrev uC:QR:=top 6
abbrev uH:QR:=top 7
abbrev nz:QR:=top 9
abbrev uG:QR:=top 10
abbrev nh:QR:=top 12
abbrev fj:QR:=top 13
abbrev jo:QR:=top 14
abbrev eD:QR:=top 15
abbrev ja:QR:=top 17
abbrev jY:QR:=top 18
abbrev o6:QR:=top 19
abbrev ni:QR:=top 20
abbrev oZ:QR:=top 22
abbrev uN:QR:=top 23
abbrev wX:QR:=top 24
abbrev wx:QR:=top 25
abbrev nQ:QR:=top 26
abbrev s_same:QR:=top 27
abbrev uI:QR:=top 28
abbrev pI:QR:=top 29
abbrev nG:QR:=top 30
abbrev B0:QR:=top 31
abbrev jw:QR:=top 32
theorem vd{kvs:List (Key×V)}{k:Key}{v:V}:eO ((k,v)::kvs) k=some v:=by
 unfold eO;rw[Mc,show(decide ((k,v).1=k))=true from decide_eq_true rfl]
 rfl
theorem sD{kvs:List (Key×V)}{k k':Key}{v:V}(h:¬k=k'):eO ((k,v)::kvs) k'=eO kvs k':=by unfold eO;rw[Mc,show(decide ((k,v).1=k'))=false from decide_eq_false h]
theorem key_ne:¬((QL (some ("cells":Str)):Key)=QL (some ("turn":Str))):=by decide +kernel
noncomputable def stK(c:Qh)(t:Int):List (Key×V):=[(QL (some ("cells":Str)),V.ref c),(QL (some ("turn":Str)),V.int t)]
theorem vM(c:Qh)(t:Int):eO (stK c t) (QL (some ("cells":Str)))=some (.ref c):=vd
theorem yg(c:Qh)(t:Int):eO (stK c t) (QL (some ("turn":Str)))=some (.int t):=by unfold stK;rw[sD key_ne];exact vd
theorem IC(c:Qh)(t u:Int):putK (stK c t) (QL (some ("turn":Str))) (.int u)=stK c u:=by
 have e:((stK c t).any fun kv=>decide (kv.1=(QL (some ("turn":Str)):Key)))=true:=by rw[mU,yg];rfl
 unfold putK;rw[if_pos e];show [(if(QL (some ("cells":Str)):Key)=QL (some ("turn":Str))then _ else _),(if(QL (some ("turn":Str)):Key)=QL (some ("turn":Str))then _ else _)]=stK c u;rw[if_neg key_ne,if_pos rfl]
 rfl
structure StAt (H:Hp) (st c:Qh) (cs:List Int) (t:Int):Prop where
 d:H st=some (.dK (stK c t))
 l:H c=some (.lst (cs.map V.int))
 pos:0<cs.length
 len:cs.length<=63
theorem StAt.ne {H:Hp}{st c:Qh}{cs:List Int}{t:Int}(S:StAt H st c cs t):st≠c:=CQ S.d S.l (by intro z;cases z)
theorem StAt.same {H H':Hp}{st c:Qh}{cs:List Int}{t:Int}(S:StAt H st c cs t)(e:bI H H'):StAt H' st c cs t:=⟨e _ _ S.d,e _ _ S.l,S.pos,S.len⟩
structure Txt (mg:Str->Option Qf):Prop where
 len:mg "len"=none
 list:mg "list"=none
 divmod:mg "divmod"=none
 isinstance:mg "isinstance"=none
 dict:mg "dict"=none
 tuple:mg "tuple"=none
 str:mg "str"=none
 int:mg "int"=none
 bool:mg "bool"=none
 all:mg "all"=none
 any:mg "any"=none
 zip:mg "zip"=none
 range:mg "range"=none
 max:mg "max"=none
 min:mg "min"=none
 abs:mg "abs"=none
 sum:mg "sum"=none
 sorted:mg "sorted"=none
 enumerate:mg "enumerate"=none
 set:mg "set"=none
 reversed:mg "reversed"=none
noncomputable def Dw(K:Qg):Sp:=fun vs H Q _=>∃(a:Qh) (ns:List Int),vs=[.ref a]/\SqL K H a (ns.map V.int)/\ns.length<=63/\∀(st c:Qh) (cs:List Int) (H':Hp),H st=none->H c=none->StAt H' st c cs 0->bI H H'->Q (.ref st) H'
noncomputable def HK:Sp:=fun vs H Q _=>∃(st c:Qh) (cs:List Int) (t m:Int),vs=[.ref st,.int m]/\StAt H st c cs t/\0<=t/\t<2 ^ 40/\0<m/\m<1073741824/\
 ∀(r:Int) (cs':List Int) (H':Hp),0<=r->r<m->StAt H' st c cs' (t+1)->Kp st c H H'->Q (.int r) H'
section
variable{P:Qv}{w:Qy}{K:Qg}{mg:Str->Option Qf}{base:Qz}
theorem scB:FnScope ["_law_script","_law_cells"] ["_law_script"] (ax oZ):=⟨rfl,rfl,rfl,by decide +kernel,rfl,by decide +kernel,by decide +kernel⟩
theorem Dd{f:Qh}{fd:QF}(F:Fun K "_law_begin" "_law_begin" oZ f fd)(T:Txt mg):FnOk P w K mg base CX0 1 f fd ["_law_script"] (Dw K):=by
 refine F.ok scB (fun vs H Q E h=>?_) (fun cdv A outer s H vs Q E hr h=>?_)
 ·obtain⟨a,ns,rfl,_⟩:=h
  rfl
 obtain⟨a,ns,rfl,hS,h63,q⟩:=h;have sc:=@scB;refine⟨_,(bL (j7 (i:=1) sc.nd rfl (e_ rfl) (rF mL (by rfl) T.list (by decide +kernel) (f9 (vt yK (pv 0) zl (yi bZ)) lK)))
  (bL (BW (uQ C4 (pv 1) (Bk lK) (aJ _)) (ng (j7 (i:=1) sc.nd rfl (e_ rfl) (Bk (f9 bZ lK)))) um)
  (ng (tI (Ei (wk jq (pv 1) (wk jq bZ Fj)) rfl rfl (by intro z;cases z) (by decide)))))),?_⟩
 refine⟨_,rfl,_,rfl,a,_,rfl,hS,fun p hp=>⟨p,_,rfl,.inl (SqL.of aN),fun l hl=>?_⟩⟩;obtain⟨zs,ez,lz⟩:∃zs:List Int,ju (ns.map V.int) none (some 63)=zs.map V.int/\zs.length<=63:=by refine⟨_,by unfold ju;rw[<-O0,<-List.map_take],?_⟩;exact m_ (NZ _ _) (m_ (by rw[H_];omega) h63)
 have hp0:H p=none:=hp;have hl0:H l=none:=(bF hp _).none hl;have g1:bI H (upd (upd H p (.lst (ju (ns.map V.int) none (some 63)))) l (.lst (ju (ns.map V.int) none (some 63)))):=(bF hp _).trans' (bF hl _);refine⟨_,rfl,(by show 0<=sizeLine;decide),fun e he=>?_⟩;have hul:∀o,upd (upd (upd H p (.lst (ju (ns.map V.int) none (some 63)))) l (.lst (ju (ns.map V.int) none (some 63)))) e o l=some (.lst (zs.map V.int)):=fun o=>by rw[aM (bK aN he),aN,ez]
 have he0:H e=none:=g1.none he;have g2:=g1.trans' (bF he (.lst []));refine⟨.lst (di zs),.lst (di []),vC (SqL.of (hul _)),vC (SqL.of aN),?_,_,rfl,?_⟩
 ·have:=rm hr;rw[dpt,su];exact this
 have fin:∀(c:Qh) (cs:List Int) (H2:Hp),H c=none->bI H H2->H2 c=some (.lst (cs.map V.int))->0<cs.length->cs.length<=63->∀p,H2 p=none->StAt (upd (upd H2 p (.dK [])) p (.dK (jf [] [(QL (some ("cells":Str)),V.ref c),(QL (some ("turn":Str)),V.int 0)]))) p c cs 0/\bI H (upd (upd H2 p (.dK [])) p (.dK (jf [] [(QL (some ("cells":Str)),V.ref c),(QL (some ("turn":Str)),V.int 0)]))):=fun c cs H2 hc g h1 h2 h3 p hp=>by
  have em:jf [] [((QL (some ("cells":Str)):Key),V.ref c),(QL (some ("turn":Str)),V.int 0)]=stK c 0:=by
   show putK (putK ([]:List (Key×V)) (QL (some ("cells":Str))) (V.ref c)) (QL (some ("turn":Str))) (V.int 0)=stK c 0;rw[mH _ (show eO ([]:List (Key×V)) (QL (some ("cells":Str)))=none from rfl),NX,mH _ (show eO [((QL (some ("cells":Str)):Key),V.ref c)] (QL (some ("turn":Str)))=none by rw[sD key_ne];rfl)]
   rfl
  rw[em,EG];exact⟨⟨aN,by rw[aM (bK h1 hp)];exact h1,h2,h3⟩,g.trans' (bF hp _)⟩
 refine JQ (fun c=>?_) (fun c=>?_)
 ·
  refine⟨(by show 1<=sizeLine;decide),fun c7 h7=>?_⟩;have g3:=g2.trans' (bF h7 (.lst [V.int 7]));intro p' hp';obtain⟨S,g4⟩:=fin c7 [7] _ (g2.none h7) g3 aN (by decide) (by decide) p' hp';refine⟨_,rfl,?_,[(QL (some ("cells":Str)),V.ref c7),(QL (some ("turn":Str)),V.int 0)],rfl,(by show 2<=15;decide),?_⟩
  ·exact aN
  exact q p' c7 [7] _ (g3.none hp') (g2.none h7) S g4
 have c0:0<zs.length:=by
  cases zs with
  |nil=>rw[jl]at c;cases c
  |cons a r=>exact Nat.succ_pos _
 intro p' hp';obtain⟨S,g4⟩:=fin l zs _ hl0 g2 (hul _) c0 lz p' hp';refine⟨_,rfl,?_,[(QL (some ("cells":Str)),V.ref l),(QL (some ("turn":Str)),V.int 0)],rfl,(by show 2<=15;decide),?_⟩
 ·exact aN
 exact q p' l zs _ (g2.none hp') hl0 S g4
theorem scT:FnScope ["_law_state","_law_many","_law_turn","_law_place","_law_cell","_law_digit","_law_mixed"] ["_law_state","_law_many"] (ax uN):=⟨rfl,rfl,rfl,by decide +kernel,rfl,by decide +kernel,by decide +kernel⟩
theorem EF{f:Qh}{fd:QF}(F:Fun K "_law_take" "_law_take" uN f fd)(T:Txt mg):FnOk P w K mg base CX0 1 f fd ["_law_state","_law_many"] HK:=by
 refine F.ok scT (fun vs H Q E h=>?_) (fun cdv A outer s H vs Q E hr h=>?_)
 ·obtain⟨st,c,cs,t,m,rfl,_⟩:=h
  rfl
 obtain⟨st,c,cs,t,m,rfl,S,ht0,ht,hm0,hm1,q⟩:=h;have sc:=@scT;have hu:=rm hr;refine⟨_,(bL (j7 (i:=2) sc.nd rfl (e_ rfl) (cI pS (oT hu (pv 0) jq (fun _ _=>rfl)) bZ))
  (bL (Dy hu (pv 0) jq (pv 2) rfl)
  (bL (j7 (i:=3) sc.nd rfl (e_ rfl) (cI nJ (pv 2) (qm mD (by rfl) T.len (by decide +kernel) (f9 (oT hu (pv 0) jq (fun _ _=>rfl)) lK))))
  (bL (j7 (i:=4) sc.nd rfl (e_ rfl) (G7 yX (oT hu (pv 0) jq (fun _ _=>rfl)) (pv 3) (fun _ _=>rfl)))
  (bL (BW (uQ Gg (pv 4) (cI HE bZ bZ) (aJ _)) (bL (BY (qm vO (by rfl) T.divmod (by decide +kernel) (f9 (pv 4) (f9 (pv 1) lK))) (AZ rfl (pE (Bw (oT hu (pv 0) jq (fun _ _=>rfl)) (pv 3) set_list) (pE (yG (i:=5) sc.nd rfl (e_ rfl)) zA))))
  (ng (tI (pv 5)))) um)
  (bL (j7 (i:=6) sc.nd rfl (e_ rfl) (cI nJ (cI lQ (cI pS (cI pS (cI nJ (pv 4) bZ) (cI lQ (cI lQ (pv 2) (pv 2)) bZ)) bZ) bZ) bZ))
  (bL (j7 (i:=6) sc.nd rfl (e_ rfl) (cI nJ (cI lQ (pv 6) (pv 6)) bZ))
  (ng (tI (cI nJ (cI yP (cI nJ (cI lQ (cI pS (pv 6) (cI lQ (pv 2) bZ)) bZ) bZ) bZ) (pv 1))))))))))),?_⟩
 have D0:oP H st (.str ("turn":Str)) (some (.int t)):=by rw[<-yg c t];exact oP.k (k:=QL (some ("turn":Str))) S.d
 refine⟨_,rfl,st,_,rfl,D0,_,_,rfl,rfl,?_⟩;have hP:AF H st (.str ("turn":Str)) (.int (t+1)) (upd H st (.dK (stK c (t+1)))):=by rw[<-IC c t (t+1)];exact AF.k (k:=QL (some ("turn":Str))) S.d (by show 2<sizeLine;decide)
 refine⟨_,rfl,_,rfl,st,_,rfl,hP,?_⟩;have S1:StAt (upd H st (.dK (stK c (t+1)))) st c cs (t+1):=⟨aN,by rw[aM S.ne.symm];exact S.l,S.pos,S.len⟩;have K1:Kp st c H (upd H st (.dK (stK c (t+1)))):=fun b o e n1 n2=>by rw[aM n1];exact e
 generalize upd H st (.dK (stK c (t+1)))=H1 at S1 K1 ⊢;have D1:oP H1 st (.str ("cells":Str)) (some (.ref c)):=by rw[<-vM c (t+1)];exact oP.k (k:=QL (some ("cells":Str))) S1.d
 have hl:(cs.map V.int).length=cs.length:=a_ _;have hpos:(0:Int)<(((cs.map V.int).length:Nat):Int):=by rw[hl];have:=S.pos;omega
 refine⟨_,rfl,_,rfl,st,_,rfl,D1,c,_,rfl,.inl (SqL.of S1.l),_,_,rfl,rfl,hpos,?_⟩;have j0:0<=(t+1)%(((cs.map V.int).length:Nat):Int):=N0 _ (by omega);have j1:(t+1)%(((cs.map V.int).length:Nat):Int)<(cs.length:Int):=by have:=Nz (t+1) hpos;rw[hl]at this ⊢;exact this
 obtain⟨v,hat⟩:∃v:Int,atI (cs.map V.int) ((t+1)%(((cs.map V.int).length:Nat):Int))=some (.int v):=⟨_,Bx j0 j1⟩;refine⟨_,rfl,st,_,rfl,D1,_,rfl,c,_,_,_,rfl,rfl,SqL.of S1.l,hat,?_⟩;refine⟨_,rfl,_,_,rfl,rfl,⟨by decide,by decide,by decide⟩,_,_,rfl,rfl,_,rfl,?_⟩;refine JQ (fun hc=>?_) (fun hc=>?_)
 ·
  refine⟨_,rfl,_,rfl,_,_,rfl,⟨hm0,hm1⟩,fun p hp=>?_⟩;have g:=bF hp (.tup [.int (v/m),.int (v%m)]);have S2:=S1.same g;have D2:oP (upd H1 p (.tup [.int (v/m),.int (v%m)])) st (.str ("cells":Str)) (some (.ref c)):=by rw[<-vM c (t+1)];exact oP.k (k:=QL (some ("cells":Str))) S2.d
  refine⟨p,_,rfl,SqT.of aN,rfl,_,_,rfl,?_⟩;refine⟨_,rfl,st,_,rfl,D2,_,rfl,c,_,_,((t+1)%(((cs.map V.int).length:Nat):Int)).toNat,rfl,rfl,S2.l,yv j0 (by rw[hl];rw[hl]at j1;exact j1),?_⟩;refine⟨_,_,rfl,rfl,?_⟩;refine⟨_,rfl,?_⟩;have es:∀j:Nat,(cs.map V.int).set j (.int (v/m))=(cs.set j (v/m)).map V.int:=fun j=>by rw[List.map_set]
  refine q (v%m) (cs.set ((t+1)%(((cs.map V.int).length:Nat):Int)).toNat (v/m)) _ (N0 _ (by omega)) (Nz _ hm0) ⟨?_,?_,?_,?_⟩ ?_
  ·rw[aM S2.ne];exact S2.d
  ·rw[aN,es]
  ·rw[Lv];exact S.pos
  ·rw[Lv];exact S.len
  intro b o e n1 n2;rw[aM n2];exact g b o (K1 b o e n1 n2)
 
 have mulR:∀(x y:Int),-(2 ^ 64)<y->y<2 ^ 64->vB x y:=fun x y h1 h2=>.inr ⟨h1,h2⟩;refine⟨_,rfl,_,_,rfl,rfl,(by show(0:Int)<2147483629;decide),_,rfl,_,rfl,_,_,rfl,rfl,mulR _ _ (by omega) (by omega),_,_,rfl,rfl,mulR _ _ (by decide) (by decide),_,_,rfl,rfl,_,_,rfl,rfl,_,_,rfl,rfl,mulR _ _ (by decide) (by decide),_,_,rfl,rfl,(by show(0:Int)<2147483647;decide),?_⟩;generalize hM:(v%2147483629+(t+1)*(t+1)*7919+11)*48271%2147483647=M;have m0:0<=M:=by rw[<-hM];exact N0 _ (by decide)
 have m1:M<2147483647:=by rw[<-hM];exact Nz _ (by decide)
 refine⟨_,rfl,_,rfl,_,_,rfl,rfl,mulR _ _ (by omega) (by omega),_,_,rfl,rfl,(by show(0:Int)<2147483587;decide),?_⟩;refine⟨_,rfl,_,rfl,_,_,rfl,rfl,mulR _ _ (by decide) (by decide),_,_,rfl,rfl,_,_,rfl,rfl,mulR _ _ (by decide) (by decide),_,_,rfl,rfl,(by show(0:Int)<2147483629;decide),_,_,rfl,rfl,⟨by decide,by decide⟩,_,rfl,_,_,rfl,rfl,hm0,?_⟩;exact q _ cs H1 (N0 _ (by omega)) (Nz _ hm0) S1 K1
end
open PySem L2 PL
structure Cells where
 cs:List Int
 pos:0<cs.length
 len:cs.length<=63
noncomputable def stT(c:Cells)(n:Nat):T:=.dK true [(QL (some ("cells":Str)),.lst true (c.cs.map T.int)),(QL (some ("turn":Str)),.int (n:Int))]
theorem fM{c:Cells}{n:Nat}:isAny (stT c n)=false:=rfl
noncomputable def Scr(K:Qg)(t:T)(ns:List Int):Prop:=t=.lst false (ns.map T.int)\/∃a,t=.hole (.ref a)/\∀H,SqL K H a (ns.map V.int)
noncomputable def tT(K:Qg):FP:=fun ts k=>∃t,∃ns:List Int,ts=[t]/\Scr K t ns/\ns.length<=63/\∀c,k (stT c 0) ts
noncomputable def lB:FP:=fun ts k=>∃c n m,ts=[stT c n,.int m]/\n<2 ^ 40/\0<m/\m<1073741824/\∀r c',0<=r->r<m->k (.int r) [stT c' (n+1),.int m]
section
variable{P:Qv}{w:Qy}{K:Qg}{mg:Str->Option Qf}{base:Qz}
theorem sS{α β:Type}{l:List (α×β)}{a b:α}(h:[a,b]=l.map (·.1)):∃v w,l=[(a,v),(b,w)]:=by
 cases l with
 |nil=>cases h
 |cons x l=>
  cases l with
  |nil=>cases h
  |cons y l=>
   cases l with
   |nil=>
    have h1:=(MJ h).1;have h2:=(MJ (MJ h).2).1;exact⟨x.2,y.2,by rw[h1,h2]⟩
   |cons z l=>cases (MJ (MJ h).2).2
theorem vA{H:Hp}{a:Qh}{o:HO}(h:H a=some o):Put H a o H:=⟨h,fun _ _=>rfl⟩
theorem K4{H:Hp}{Γ:Fm}{c:Cells}{n:Nat}{v:V}(h:Rp K H ((stT c n,some v)::Γ)):∃st l,v=.ref st/\StAt H st l c.cs n/\Rp K H ((.bare,some (.ref st))::(.bare,some (.ref l))::Γ):=by
 obtain⟨st,kvs,ev,hs,ek,h2⟩:=qg h;cases ev;obtain⟨v1,v2,rfl⟩:=sS ek;have h2:Rp K H ((.bare,some (.ref st))::(.lst true (c.cs.map T.int),some v1)::(.int (n:Int),some v2)::Γ):=h2;have e2:v2=.int n:=aK h2.tail.tail;subst e2;have h3:=h2.perm (.swap _ _ _);obtain⟨l,vs,el,hl,ll,h4⟩:=gM h3;cases el;have ev:vs=c.cs.map V.int:=gm ll h4.tail;subst ev;refine⟨st,l,rfl,⟨hs,hl,c.pos,c.len⟩,?_⟩;have h5:Rp K H ((.bare,some (.ref l))::(.bare,some (.ref st))::(.int (n:Int),some (.int n))::Γ):=by have:Rp K H (zz (c.cs.map T.int) (c.cs.map V.int)++((.bare,some (.ref l))::(.bare,some (.ref st))::(.int (n:Int),some (.int n))::Γ)):=h4.perm j_.symm;exact this.part
 exact(h5.perm (by refine C' (.cons _ (.swap _ _ _)) ?_;refine C' (.swap _ _ _) ?_;exact .cons _ (.swap _ _ _))).tail
theorem vK{H:Hp}{Γ:Fm}:∀(ns:List Int),Rp K H Γ->Rp K H (zz (ns.map T.int) (ns.map V.int)++Γ)
 | [],h=>h
 |n::r,h=>bN (vK r h) fun _=>.int
theorem BK{H:Hp}{Γ:Fm}{cs:List Int}{n:Nat}{st l:Qh}(S:StAt H st l cs n)(h:Rp K H ((.bare,some (.ref st))::(.bare,some (.ref l))::Γ)):∃c,Rp K H ((stT c n,some (.ref st))::Γ):=by
 refine⟨⟨cs,S.pos,S.len⟩,?_⟩;have h1:Rp K H ((.bare,some (.ref l))::(zz (cs.map T.int) (cs.map V.int)++((.bare,some (.ref st))::Γ))):=(vK cs (h.perm (.swap _ _ _))).perm j_;have h2:=fE h1 (by rw[a_,a_]) (vA S.l);have h3:Rp K H ((.bare,some (.ref st))::((.lst true (cs.map T.int),some (.ref l))::(.int (n:Int),some (.int n))::Γ)):=by refine(bN (t:=.int (n:Int)) h2 fun _=>.int).perm ?_;refine C' (.swap _ _ _) ?_;refine C' (.cons _ (.swap _ _ _)) ?_;exact .swap _ _ _
 exact rC (ts:=[(QL (some ("cells":Str)),.lst true (cs.map T.int)),(QL (some ("turn":Str)),.int (n:Int))]) (vs:=stK l n) h3 rfl (vA S.d)
theorem Jt{H H':Hp}{a c:Qh}{Γ:Fm}(h:Rp K H ((.bare,some (.ref a))::(.bare,some (.ref c))::Γ))(k:Kp a c H H')(ha:∃u,H' a=some u/\∀xs,u≠.tup xs)(hc:∃u,H' c=some u/\∀xs,u≠.tup xs):Rp K H' ((.bare,some (.ref a))::(.bare,some (.ref c))::Γ):=by
 obtain⟨ua,ea,na⟩:=ha;obtain⟨uc,ec,nc⟩:=hc;obtain⟨Hz,N,h,nd,g,d⟩:=h;cases h with
 |cons e1 h1 c1=>
  cases c1 with
  |cons e2 h2 c2=>
   rcases h1 with⟨z,_⟩|⟨v1,ev1,h1⟩
   ·cases z
   rcases h2 with⟨z,_⟩|⟨v2,ev2,h2⟩
   ·cases z
   cases ev1;cases ev2;cases h1;cases h2;rename_i M u1 hu1 nt1 u2 hu2 nt2;subst e2;subst e1;have nd':(a::c::M).Nodup:=nd;rw[F',F']at nd';have keep:∀b o,H b=some o->b≠a->b≠c->H' b=some o:=k;have tk:TK H H':=fun b xs r=>keep b _ r (fun z=>nt1 xs (z▸r)) (fun z=>nt2 xs (z▸r));have za:Hz a=none:=d a p_;have zc:Hz c=none:=d c (l_ _ p_);have g':Gr Hz H':=fun b u r=>by
    obtain⟨w',q⟩:=Rd.some r;have b1:b≠a:=fun z=>by rw[z,za]at q;cases q
    have b2:b≠c:=fun z=>by rw[z,zc]at q;cases q
    rcases g b u r with r|⟨o,r⟩
    ·exact .inl (keep b _ r b1 b2)
    exact .inr ⟨o,keep b _ r b1 b2⟩
   refine⟨Hz,[a]++([c]++M),.cons rfl (.inr ⟨_,rfl,.bare ea fun xs z=>?_⟩) (.cons rfl (.inr ⟨_,rfl,.bare ec fun xs z=>?_⟩) (c2.move tk .ck fun b m u e=>?_)),nd,g',d⟩
   ·rw[ea]at z;exact na xs (G' z)
   ·rw[ec]at z;exact nc xs (G' z)
   have b1:b≠a:=fun z=>nd'.1 (by rw[<-z];exact l_ _ m)
   have b2:b≠c:=fun z=>nd'.2.1 (by rw[<-z];exact m)
   exact⟨keep b u e b1 b2,fun nt xs r=>nt xs (by rw[keep b u e b1 b2]at r;exact e.trans r)⟩
theorem EX{H H':Hp}{a c:Qh}{Γ:Fm}(h:Rp K H Γ)(ha:H a=none)(hc:H c=none)(ne:a≠c)(s:bI H H')(ea:∃u,H' a=some u/\∀xs,u≠.tup xs)(ec:∃u,H' c=some u/\∀xs,u≠.tup xs):Rp K H' ((.bare,some (.ref a))::(.bare,some (.ref c))::Γ):=by
 obtain⟨ua,ea,na⟩:=ea;obtain⟨uc,ec,nc⟩:=ec;obtain⟨Hz,N,h,nd,g,d⟩:=h;have n1:a ∉ N:=fun m=>by obtain⟨⟨u,e⟩,_⟩:=h.there a m;rw[ha]at e;cases e
 have n2:c ∉ N:=fun m=>by obtain⟨⟨u,e⟩,_⟩:=h.there c m;rw[hc]at e;cases e
 refine⟨Hz,[a]++([c]++N),.cons rfl (.inr ⟨_,rfl,.bare ea fun xs z=>?_⟩) (.cons rfl (.inr ⟨_,rfl,.bare ec fun xs z=>?_⟩) (h.move (bI.tk s) .ck fun b m u e=>jG s b u e)),?_,g.trans (.of s),?_⟩
 ·rw[ea]at z;exact na xs (G' z)
 ·rw[ec]at z;exact nc xs (G' z)
 ·show(a::c::N).Nodup;rw[F',F'];exact⟨fun m=>(n_.mp m).elim (fun z=>ne z) n1,n2,nd⟩
 intro b m;have m:b∈a::c::N:=m;rcases n_.mp m with rfl|m
 ·exact g.none ha
 rcases n_.mp m with rfl|m
 ·exact g.none hc
 exact d b m
theorem D9(D:Dfn K mg "_law_take" uN ["_law_state","_law_many"])(TX:Txt mg):Cal P w K mg base 1 "_law_take" ["_law_state","_law_many"] (aS K 2 lB):=by
 refine(D.cal fun _ _ F=>EF F TX).imp ?_;rintro vs H Q E ⟨ts,Fr,k,l,hn,rp,⟨c,n,m,rfl,h1,h2,h3,pk⟩,q⟩;obtain⟨x,y,rfl⟩:=zz2 l rfl;have rp:Rp K H ((stT c n,some x)::(.int m,some y)::Fr):=rp;have ey:=aK rp.tail;subst ey;obtain⟨st,lc,rfl,S,rp2⟩:=K4 rp;refine⟨st,lc,c.cs,n,m,rfl,S,by omega,by omega,h2,h3,fun r cs' H' hr0 hr1 S' kp=>?_⟩;have rp3:=Jt rp2 kp ⟨_,S'.d,fun _ z=>by cases z⟩ ⟨_,S'.l,fun _ z=>by cases z⟩;have S'':StAt H' st lc cs' ((n+1:Nat):Int):=by push_cast;exact S'
 obtain⟨c',rp4⟩:=BK S'' rp3;exact q _ _ _ _ (pk r c' hr0 hr1) (bN rp4 fun _=>.int)
theorem xJ{H:Hp}{Γ:Fm}{w y:V}(h:Rp K H ((.hole w,some y)::Γ)):y=w:=by
 obtain⟨_,_,r,_⟩:=fq h rfl;cases r
 rfl
theorem zV(D:Dfn K mg "_law_begin" oZ ["_law_script"])(TX:Txt mg):Cal P w K mg base 1 "_law_begin" ["_law_script"] (aS K 1 (tT K)):=by
 refine(D.cal fun _ _ F=>Dd F TX).imp ?_;rintro vs H Q E ⟨ts,Fr,k,l,hn,rp,⟨t,ns,rfl,hs,h1,pk⟩,q⟩;obtain⟨x,rfl⟩:=zz1 l rfl;have rp:Rp K H ((t,some x)::Fr):=rp;obtain⟨a,rfl,hq⟩:∃a,x=.ref a/\SqL K H a (ns.map V.int):=by
  rcases hs with rfl|⟨a,rfl,hs⟩
  ·obtain⟨a,us,rfl,hq,l2,rp2⟩:=aC rfl rp;have eu:=gm l2 rp2;subst eu;exact⟨a,rfl,hq⟩
  exact⟨a,xJ rp,hs H⟩
 refine⟨a,ns,rfl,hq,h1,fun st lc cs H' hs hl S g=>?_⟩;have rp3:=EX rp hs hl S.ne g ⟨_,S.d,fun _ z=>by cases z⟩ ⟨_,S.l,fun _ z=>by cases z⟩;obtain⟨c,rp4⟩:=BK (n:=0) S rp3;exact q _ _ _ _ (pk c) rp4
noncomputable def B4(K:Qg):FP:=fun ts k=>∃t,∃ns:List Int,ts=[t]/\Scr K t ns/\ns.length<=63/\∀z,k (.bl true) [z]
noncomputable def yk(K:Qg):Sp:=fun vs H Q _=>∃(a:Qh) (ns:List Int),vs=[.ref a]/\SqL K H a (ns.map V.int)/\ns.length<=63/\∀H',Q (.bl true) H'
theorem vE{Hz H:Hp}:∀(ns:List Int),RepTs K Hz H (ns.map T.int) (ns.map V.int) []
 | []=>.nil
 | _::r=>.cons rfl .int (vE r)
theorem Ho{k:Nat}{f:Qh}{fd:QF}(F:FnOk P w K mg base CX0 k f fd ["_law_script"] (aS K 1 (B4 K))):FnOk P w K mg base CX0 k f fd ["_law_script"] (yk K):=by
 refine F.imp ?_;rintro vs H Q E ⟨a,ns,rfl,hq,h1,q⟩;have key:∀t,Scr K t ns->(∀Hz,RepT K H Hz t (.ref a) [])->aS K 1 (B4 K) [.ref a] H Q E:=fun t sc ht=>
  ⟨[t],[],fun t _=>t=.bl true,rfl,rfl,⟨H,[],.cons rfl (.inr ⟨_,rfl,ht H⟩) .nil,Mk,.ck,fun _ m=>by cases m⟩,⟨t,ns,rfl,sc,h1,fun _=>rfl⟩,fun t ts' v H' e rp=>by subst e;rw[oI rp];exact q H'⟩
 rcases hq with hq|hq
 ·exact key _ (.inl rfl) fun Hz=>.lstZ hq (vE ns)
 exact key _ (.inr ⟨a,rfl,fun H=>.inr hq⟩) fun Hz=>.hole
end
open PySem L2 PL
abbrev tD:T:=.cst [.cst [.int 1,.int 0],.cst [.int 1,.int 1],.cst [.int 0,.int 1],.cst [.int (-1),.int 1],.cst [.int (-1),.int 0],.cst [.int (-1),.int (-1)],.cst [.int 0,.int (-1)],.cst [.int 1,.int (-1)]]
theorem EI{α:Type}{l:List α}{i:Int}(h0:0<=i)(h1:i<l.length):∃x,x∈l/\atI l i=some x:=by
 have h:i.toNat<l.length:=by lia
 refine⟨l[i.toNat],LY h,?_⟩;have:=cK (xs:=l) (j:=i.toNat) (c_ h);rwa[Int.toNat_of_nonneg h0]at this
theorem dy(P:Int->Prop){ns:List Int}{i:Int}(h0:0<=i)(h1:i<ns.length)(hp:∀x∈ns,P x):∃v,atI (ns.map T.int) i=some (.int v)/\P v:=by obtain⟨t,m,e⟩:=EI (l:=ns.map T.int) h0 (by rw[a_];exact h1);obtain⟨v,mv,rfl⟩:=t_.mp m;exact⟨v,e,hp v mv⟩
theorem HA{K:Qg}{t:T}{ns:List Int}(h:Scr K t ns):er t=t/\isAny t=false:=by
 rcases h with rfl|⟨a,rfl,_⟩
 ·exact⟨by simp only[er,cg],rfl⟩
 exact⟨rfl,rfl⟩
theorem CG{c:Cells}{n:Nat}:bO (stT c n)=true:=by simp only[stT,bO,qD,bq,dM,Mt,NM]
theorem map_take{α β:Type}{g:α->β}{l:List α}{i:Nat}{x:α}(h:l[i]?=some x):I_ g (l.take (i+1))=I_ g (l.take i)++[g x]:=by rw[LL,h,q_];rfl
theorem jN{α β:Type}{g:α->β}{p:α->Bool}{l:List α}{i:Nat}{x:α}(h:l[i]?=some x):I_ g ((l.take (i+1)).filter p)=I_ g ((l.take i).filter p)++(if p x then [g x]else []):=by rw[LL,h,O8,q_];congr 1;show I_ g (Ph p [x])=_;rw[NQ];cases p x <;> rfl
noncomputable def Gd(t:T)(n:Nat):Prop:=isD t=true/\dpt (dt t)<=n
noncomputable def GdL(ts:List T)(n:Nat):Prop:=uK ts=true/\iU (dtL ts)<=n
theorem pR{i:Int}{n:Nat}:Gd (.int i) n:=⟨rfl,by rw[dt,dpt.eq_def];exact B_ _⟩
theorem ig{n:Nat}:GdL [] n:=⟨rfl,by simp only[dtL,iU,B_]⟩
theorem aW{t:T}{ts:List T}{n:Nat}(h:Gd t n)(r:GdL ts n):GdL (t::ts) n:=⟨by rw[uK,h.1,r.1];rfl,by rw[dtL,iU];exact Nat.max_le.mpr ⟨h.2,r.2⟩⟩
theorem sT{α:Type}{g:α->T}{l:List α}{n:Nat}(h:∀x∈l,Gd (g x) n):GdL (l.map g) n:=by
 induction l with
 |nil=>exact ig
 |cons x l ih=>exact aW (h x (p_ ..)) (ih fun y m=>h y (l_ _ m))
theorem KA{o:Bool}{ts:List T}{n:Nat}(h:GdL ts n):Gd (.lst o ts) (n+1):=⟨h.1,by rw[dt,dpt];exact NP h.2⟩
theorem x6{ts:List T}{n:Nat}(h:GdL ts n):Gd (.tup ts) (n+1):=⟨h.1,by rw[dt,dpt];exact NP h.2⟩
theorem EU{x:Str}{n:Nat}:Gd (.str x) n:=⟨rfl,by rw[dt,dpt.eq_def];exact B_ _⟩
structure Oc where
 a:Int
 b:Int
 c:Int
 d:Int
 e:Int
 f:Int
 g:Int
 h:Int
noncomputable def Sm(f:Int->Int)(a:Int):Nat->Int
 |0=>0
 |n+1=>Sm f a n+f (a+n)
theorem cq{f g:Int->Int}{a:Int}:∀{n:Nat},(∀x,a<=x->x<a+n->f x=g x)->Sm f a n=Sm g a n
 |0,_=>rfl
 |n+1,h=>by rw[Sm,Sm,cq fun x h1 h2=>h x h1 (by lia),h (a+n) (by lia) (by lia)]
theorem wM{f g:Int->Int}{a:Int}:∀{n:Nat},Sm (fun x=>f x+g x) a n=Sm f a n+Sm g a n
 |0=>rfl
 |n+1=>by rw[Sm,Sm,Sm,wM];lia
theorem uk{f:Int->Int}{a:Int}{n:Nat}:∀{m:Nat},Sm f a (n+m)=Sm f a n+Sm f (a+n) m
 |0=>by rw[NW,Sm,N1]
 |m+1=>by rw[<-Nj,Sm,Sm,uk,show a+((n+m:Nat):Int)=a+n+m by lia];lia
theorem fR{f:Int->Int}{a:Int}{n:Nat}(h:∀x,a<=x->x<a+n->f x=0):Sm f a n=0:=by
 induction n with
 |zero=>rfl
 |succ n ih=>rw[Sm,ih fun x h1 h2=>h x h1 (by lia),h (a+n) (by lia) (by lia)];rfl
theorem FR{f:Int->Int}{a b:Int}{n m:Nat}(h1:a<=b)(h2:b+m<=a+n)(z:∀x,x<b\/b+m<=x->f x=0):Sm f a n=Sm f b m:=by obtain⟨p,rfl⟩:∃p:Nat,b=a+p:=⟨(b-a).toNat,by lia⟩;obtain⟨q,rfl⟩:∃q:Nat,n=p+m+q:=⟨n-(p+m),by lia⟩;rw[uk,uk,fR (n:=p) fun x g1 g2=>z x (.inl g2),fR (n:=q) fun x g1 g2=>z x (.inr (by lia))];lia
theorem tL{f:Int->Int}{a:Int}:∀{n:Nat},Sm f (2*a) (2*n)=Sm (fun x=>f (2*x)+f (2*x+1)) a n
 |0=>rfl
 |n+1=>by rw[show 2*(n+1)=2*n+1+1 by lia,Sm,Sm,Sm,tL,show 2*a+((2*n:Nat):Int)=2*(a+n) by lia,show 2*a+((2*n+1:Nat):Int)=2*(a+n)+1 by lia];lia
theorem xX{f:Int->Int}{a:Int}{n:Nat}:Sm f (4*a) (4*n)=Sm (fun x=>f (4*x)+f (4*x+1)+(f (4*x+2)+f (4*x+3))) a n:=by rw[show 4*a=2*(2*a) by lia,show 4*n=2*(2*n) by lia,tL,tL];refine cq fun x _ _=>?_;rw[show 2*(2*x)=4*x by lia,show 2*(2*x+1)=4*x+2 by lia,show 4*x+2+1=4*x+3 by lia]
theorem AO{α β l:Int}:∀{n:Nat},Sm (fun j=>α+β*(2*j+1)) l n=n*(α+β*(l+(l+n)))
 |0=>by rw[Sm];lia
 |n+1=>by
  rw[Sm,AO];push_cast
  grind
noncomputable def bi(p:Prop)[Decidable p]:Int:=if p then 1 else 0
theorem yu{p q:Prop}[Decidable p][Decidable q](h:p↔q):bi p=bi q:=by
 unfold bi;by_cases c:p
 ·rw[if_pos c,if_pos (h.mp c)]
 rw[if_neg c,if_neg fun z=>c (h.mpr z)]
theorem GD{l h a:Int}{n:Nat}(h1:a<=l)(h2:l<=h)(h3:h<=a+n):Sm (fun y=>bi (l<=y/\y<h)) a n=h-l:=by
 rw[FR (f:=fun y=>bi (l<=y/\y<h)) (b:=l) (m:=(h-l).toNat) h1 (by lia) fun x hx=>if_neg (by lia)];have:∀m:Nat,(m:Int)<=h-l->Sm (fun y=>bi (l<=y/\y<h)) l m=m:=by
  intro m;induction m with
  |zero=>exact fun _=>rfl
  |succ m ih=>
   intro hm;rw[Sm,ih (by lia)];rw[show bi (l<=l+m/\l+m<h)=1 from if_pos (by lia)]
   rfl
 rw[this _ (by lia)];lia
noncomputable def sw(t:Int):List (Int×Int)->Int
 | []=>0
 |p::r=>if t<p.2 then p.2-max p.1 t+sw p.2 r else sw t r
noncomputable def Cv(r:List (Int×Int))(y:Int):Prop:=∃p∈r,p.1<=y/\y<p.2
instance (r:List (Int×Int)) (y:Int):Decidable (Cv r y):=by unfold Cv;infer_instance
theorem qU{a:Int}{n:Nat}:∀{r:List (Int×Int)}{t:Int},r.Pairwise (fun p q=>p.1<=q.1)->(∀p∈r,p.1<=p.2/\a<=p.1/\p.2<=a+n)->a<=t->Sm (fun y=>bi (t<=y/\Cv r y)) a n=sw t r
 | [],t,_,_,_=>by rw[sw];exact fR fun x _ _=>if_neg fun z=>by obtain⟨_,p,hp,_⟩:=z;cases hp
 |p::r,t,ho,hb,ht=>by
  rw[sw];obtain⟨o1,o2⟩:=LX.mp ho;obtain⟨b1,b2,b3⟩:=hb p p_;have hb':∀p∈r,p.1<=p.2/\a<=p.1/\p.2<=a+n:=fun q hq=>hb q (l_ _ hq);by_cases c:t<p.2
  ·rw[if_pos c,<-qU o2 hb' (show a<=p.2 by lia),<-GD (l:=max p.1 t) (h:=p.2) (a:=a) (n:=n) (by lia) (by lia) b3,<-wM];refine cq fun y _ _=>?_;unfold bi;by_cases y1:y<p.2
   ·rw[if_neg (fun z=>by lia:¬(p.2<=y/\Cv r y)),N1];by_cases y2:max p.1 t<=y
    ·rw[if_pos ⟨by lia,p,p_,by lia,y1⟩,if_pos ⟨y2,y1⟩]
    rw[if_neg,if_neg fun z=>y2 z.1];rintro⟨g1,q,hq,g2,g3⟩;rcases n_.mp hq with rfl|hq
    ·lia
    have:=o1 q hq;lia
   rw[if_neg (fun z=>y1 z.2:¬(max p.1 t<=y/\y<p.2)),M_];by_cases y2:Cv r y
   ·obtain⟨q,hq,g⟩:=y2;rw[if_pos ⟨by lia,q,l_ _ hq,g⟩,if_pos ⟨by lia,q,hq,g⟩]
   rw[if_neg,if_neg fun z=>y2 z.2];rintro⟨g1,q,hq,g2,g3⟩;rcases n_.mp hq with rfl|hq
   ·lia
   exact y2 ⟨q,hq,g2,g3⟩
  rw[if_neg c,<-qU o2 hb' ht];refine cq fun y _ _=>yu ⟨?_,?_⟩
  ·rintro⟨g1,q,hq,g2,g3⟩;rcases n_.mp hq with rfl|hq
   ·lia
   exact⟨g1,q,hq,g2,g3⟩
  rintro⟨g1,q,hq,g⟩;exact⟨g1,q,l_ _ hq,g⟩
abbrev Ln:=Int×Int
noncomputable def Ln.at (f:Ln)(m:Int):Int:=f.1+f.2*m
noncomputable def Sg(F:Ln->Prop)(u v M:Int):Prop:=∀f g,F f->F g->f.at M<=g.at M->∀m,u<=m->m<=v->f.at m<=g.at m
theorem ud{F:Ln->Prop}{u v M:Int}(sg:Sg F u v M):∀{r:List (Ln×Ln)}{t:Ln},F t->(∀p∈r,F p.1/\F p.2/\p.1.at M<=p.2.at M)->∃ α β:Int,∀m,u<=m->m<=v->sw (t.at m) (r.map fun p=>(p.1.at m,p.2.at m))=α+β*m
 | [],t,_,_=>⟨0,0,fun m _ _=>by rw[MN,sw];lia⟩
 |p::r,t,ht,hr=>by
  obtain⟨f1,f2,le⟩:=hr p p_;have hr':=fun q hq=>hr q (l_ p hq);by_cases c:t.at M<p.2.at M
  ·obtain⟨α,β,e⟩:=ud sg f2 hr';have mx:∃k:Ln,∀m,u<=m->m<=v->max (p.1.at m) (t.at m)=k.at m:=by
    by_cases d:p.1.at M<=t.at M
    ·exact⟨t,fun m h1 h2=>by have:=sg _ _ f1 ht d m h1 h2;lia⟩
    exact⟨p.1,fun m h1 h2=>by have:=sg _ _ ht f1 (by lia) m h1 h2;lia⟩
   obtain⟨k,hk⟩:=mx;refine⟨p.2.1-k.1+α,p.2.2-k.2+β,fun m h1 h2=>?_⟩;rw[g_,sw];have g1:=sg _ _ ht f2 (by lia) m h1 h2;have g2:=sg _ _ f1 f2 le m h1 h2;have g3:=hk m h1 h2;have g4:=e m h1 h2;have fin:p.2.at m-k.at m+(α+β*m)=p.2.1-k.1+α+(p.2.2-k.2+β)*m:=by unfold Ln.at;rw[Int.add_mul,Int.sub_mul];lia
   by_cases s:t.at m<p.2.at m
   ·rw[if_pos s,g3,g4];exact fin
   rw[if_neg s,show t.at m=p.2.at m by lia,g4,<-fin];lia
  obtain⟨α,β,e⟩:=ud sg ht hr';refine⟨α,β,fun m h1 h2=>?_⟩;rw[g_,sw,if_neg (by have:=sg _ _ f2 ht (by lia) m h1 h2;show ¬t.at m<p.2.at m;lia)];exact e m h1 h2
noncomputable def Vo(o:Oc):Prop:=(o.a<=o.b/\o.c<=o.d)/\(o.e<=o.f/\o.g<=o.h)/\(o.b+o.c<=o.f/\o.g+o.c<=o.a)/\(o.e<=o.a+o.d/\o.e+o.g<=2*o.a)/\o.b<=o.h+o.d/\2*o.b<=o.f+o.h
noncomputable def loM(o:Oc)(m:Int):Int:=max (max (4*o.c) (4*o.e-m)) (m-4*o.h)
noncomputable def hiM(o:Oc)(m:Int):Int:=min (min (4*o.d) (4*o.f-m)) (m-4*o.g)
theorem FV{o:Oc}{m:Int}(h:Vo o)(h1:4*o.a<=m)(h2:m<=4*o.b):loM o m<=hiM o m:=by obtain⟨⟨_,_⟩,⟨_,_⟩,⟨_,_⟩,⟨_,_⟩,_,_⟩:=h;unfold loM hiM;omega
noncomputable def Co(o:Oc)(m y:Int):Prop:=(4*o.a<=m/\m<=4*o.b)/\loM o m<=y/\y<hiM o m
instance (o:Oc) (m y:Int):Decidable (Co o m y):=by unfold Co;infer_instance
noncomputable def Cu(os:List Oc)(m y:Int):Prop:=∃o∈os,Co o m y
instance (os:List Oc) (m y:Int):Decidable (Cu os m y):=by unfold Cu;infer_instance
noncomputable def Lm(B:Nat)(os:List Oc)(m:Int):Int:=Sm (fun y=>bi (Cu os m y)) (-(8*B:Nat)) (16*B)
noncomputable def Ar(B:Nat)(os:List Oc):Int:=Sm (fun j=>Lm B os (2*j+1)) (-(2*B:Nat)) (4*B)
noncomputable def Bd(B:Int)(o:Oc):Prop:=(-B<=o.a/\o.b<=B)/\-B<=o.c/\o.d<=B
noncomputable def Fam(os:List Oc)(f:Ln):Prop:=∃o∈os,f=(4*o.c,0)\/f=(4*o.d,0)\/f=(4*o.e,-1)\/f=(4*o.f,-1)\/f=(-(4*o.g),1)\/f=(-(4*o.h),1)
noncomputable def Nc(os:List Oc)(l r:Int):Prop:=(∀o∈os,(2*o.a<=l\/r<=2*o.a)/\(2*o.b<=l\/r<=2*o.b))/\∀o∈os,∀t,t=o.c\/t=o.d->∀o'∈os,∀u,u=o'.e\/u=o'.f->∀o''∈os,∀v,v=o''.g\/v=o''.h->(2*(u-t)<=l\/r<=2*(u-t))/\(2*(v+t)<=l\/r<=2*(v+t))/\(u+v<=l\/r<=u+v)
theorem vI{os:List Oc}{f:Ln}(h:Fam os f):∃o∈os,(∃t,(t=o.c\/t=o.d)/\∀m,f.at m=4*t)\/(∃u,(u=o.e\/u=o.f)/\∀m,f.at m=4*u-m)\/(∃v,(v=o.g\/v=o.h)/\∀m,f.at m=m-4*v):=by
 obtain⟨o,ho,h⟩:=h;refine⟨o,ho,?_⟩;unfold Ln.at;rcases h with rfl|rfl|rfl|rfl|rfl|rfl
 ·exact .inl ⟨_,.inl rfl,fun m=>by dsimp only;lia⟩
 ·exact .inl ⟨_,.inr rfl,fun m=>by dsimp only;lia⟩
 ·exact .inr (.inl ⟨_,.inl rfl,fun m=>by dsimp only;lia⟩)
 ·exact .inr (.inl ⟨_,.inr rfl,fun m=>by dsimp only;lia⟩)
 ·exact .inr (.inr ⟨_,.inl rfl,fun m=>by dsimp only;lia⟩)
 exact .inr (.inr ⟨_,.inr rfl,fun m=>by dsimp only;lia⟩)
theorem IJ{os:List Oc}{l r:Int}(h:l<r)(nc:Nc os l r):Sg (Fam os) (2*l) (2*r) (l+r):=by
 intro f g hf hg hM m h1 h2;obtain⟨o,ho,kf⟩:=vI hf;obtain⟨o',ho',kg⟩:=vI hg;rcases kf with⟨t,et,ef⟩|⟨t,et,ef⟩|⟨t,et,ef⟩ <;> rcases kg with⟨u,eu,eg⟩|⟨u,eu,eg⟩|⟨u,eu,eg⟩ <;> rw[ef,eg]at hM ⊢
 ·exact hM
 ·have:=(nc.2 o ho t et o' ho' u eu o ho _ (.inl rfl)).1;lia
 ·have:=(nc.2 o ho t et o ho _ (.inl rfl) o' ho' u eu).2.1;lia
 ·have:=(nc.2 o' ho' u eu o ho t et o ho _ (.inl rfl)).1;lia
 ·lia
 ·have:=(nc.2 o ho _ (.inl rfl) o ho t et o' ho' u eu).2.2;lia
 ·have:=(nc.2 o' ho' u eu o ho _ (.inl rfl) o ho t et).2.1;lia
 ·have:=(nc.2 o ho _ (.inl rfl) o' ho' u eu o ho t et).2.2;lia
 lia
theorem Jf{a b c x:Int}(h:x=a\/x=b\/x=c)(h1:x<=a)(h2:x<=b)(h3:x<=c):min (min a b) c=x:=by
 refine PH ?_ (PJ.mpr ⟨PJ.mpr ⟨h1,h2⟩,h3⟩);rcases h with rfl|rfl|rfl
 ·exact LC (LU _ _) (LU _ _)
 ·exact LC (LU _ _) (Mi _ _)
 exact Mi _ _
theorem Jb{a b c x:Int}(h:x=a\/x=b\/x=c)(h1:a<=x)(h2:b<=x)(h3:c<=x):max (max a b) c=x:=by
 refine PH (Ou.mpr ⟨Ou.mpr ⟨h1,h2⟩,h3⟩) ?_;rcases h with rfl|rfl|rfl
 ·exact LC (LV _ _) (LV _ _)
 ·exact LC (Mj _ _) (LV _ _)
 exact Mj _ _
theorem sH{z m:Int}:Ln.at (z,0) m=z/\Ln.at (z,-1) m=z-m/\Ln.at (-z,1) m=m-z:=by unfold Ln.at;dsimp only;lia
theorem DP{os:List Oc}{o:Oc}{l r:Int}(sg:Sg (Fam os) (2*l) (2*r) (l+r))(ho:o∈os):∃f,Fam os f/\f.at (l+r)=loM o (l+r)/\∀m,2*l<=m->m<=2*r->loM o m=f.at m:=by
 have F1:Fam os (4*o.c,0):=⟨o,ho,.inl rfl⟩;have F2:Fam os (4*o.e,-1):=⟨o,ho,.inr (.inr (.inl rfl))⟩;have F3:Fam os (-(4*o.h),1):=⟨o,ho,.inr (.inr (.inr (.inr (.inr rfl))))⟩;have e:∀m,loM o m=max (max (Ln.at (4*o.c,0) m) (Ln.at (4*o.e,-1) m)) (Ln.at (-(4*o.h),1) m):=fun m=>by rw[sH.1,sH.2.1,sH.2.2];rfl
 have key:∀f,Fam os f->Ln.at (4*o.c,0) (l+r)<=f.at (l+r)->Ln.at (4*o.e,-1) (l+r)<=f.at (l+r)->Ln.at (-(4*o.h),1) (l+r)<=f.at (l+r)->(f=(4*o.c,0)\/f=(4*o.e,-1)\/f=(-(4*o.h),1))->∃f,Fam os f/\f.at (l+r)=loM o (l+r)/\∀m,2*l<=m->m<=2*r->loM o m=f.at m:=by
  intro f hf g1 g2 g3 hk;have hk':∀m,f.at m=Ln.at (4*o.c,0) m\/f.at m=Ln.at (4*o.e,-1) m\/f.at m=Ln.at (-(4*o.h),1) m:=fun m=>hk.imp (fun z=>by rw[z]) fun z=>z.imp (fun z=>by rw[z]) fun z=>by rw[z]
  exact⟨f,hf,by rw[e];exact(Jb (hk' _) g1 g2 g3).symm,fun m h1 h2=>by rw[e];exact Jb (hk' m) (sg _ _ F1 hf g1 m h1 h2) (sg _ _ F2 hf g2 m h1 h2) (sg _ _ F3 hf g3 m h1 h2)⟩
 rcases Mr (Ln.at (4*o.e,-1) (l+r)) (Ln.at (4*o.c,0) (l+r))with x|x
 ·rcases Mr (Ln.at (-(4*o.h),1) (l+r)) (Ln.at (4*o.c,0) (l+r))with y|y
  ·exact key _ F1 (LW _) x y (.inl rfl)
  exact key _ F3 y (LC x y) (LW _) (.inr (.inr rfl))
 rcases Mr (Ln.at (-(4*o.h),1) (l+r)) (Ln.at (4*o.e,-1) (l+r))with y|y
 ·exact key _ F2 x (LW _) y (.inr (.inl rfl))
 exact key _ F3 (LC x y) y (LW _) (.inr (.inr rfl))
theorem Ea{os:List Oc}{o:Oc}{l r:Int}(sg:Sg (Fam os) (2*l) (2*r) (l+r))(ho:o∈os):∃f,Fam os f/\f.at (l+r)=hiM o (l+r)/\∀m,2*l<=m->m<=2*r->hiM o m=f.at m:=by
 have F1:Fam os (4*o.d,0):=⟨o,ho,.inr (.inl rfl)⟩;have F2:Fam os (4*o.f,-1):=⟨o,ho,.inr (.inr (.inr (.inl rfl)))⟩;have F3:Fam os (-(4*o.g),1):=⟨o,ho,.inr (.inr (.inr (.inr (.inl rfl))))⟩;have e:∀m,hiM o m=min (min (Ln.at (4*o.d,0) m) (Ln.at (4*o.f,-1) m)) (Ln.at (-(4*o.g),1) m):=fun m=>by rw[sH.1,sH.2.1,sH.2.2];rfl
 have key:∀f,Fam os f->f.at (l+r)<=Ln.at (4*o.d,0) (l+r)->f.at (l+r)<=Ln.at (4*o.f,-1) (l+r)->f.at (l+r)<=Ln.at (-(4*o.g),1) (l+r)->(f=(4*o.d,0)\/f=(4*o.f,-1)\/f=(-(4*o.g),1))->∃f,Fam os f/\f.at (l+r)=hiM o (l+r)/\∀m,2*l<=m->m<=2*r->hiM o m=f.at m:=by
  intro f hf g1 g2 g3 hk;have hk':∀m,f.at m=Ln.at (4*o.d,0) m\/f.at m=Ln.at (4*o.f,-1) m\/f.at m=Ln.at (-(4*o.g),1) m:=fun m=>hk.imp (fun z=>by rw[z]) fun z=>z.imp (fun z=>by rw[z]) fun z=>by rw[z]
  exact⟨f,hf,by rw[e];exact(Jf (hk' _) g1 g2 g3).symm,fun m h1 h2=>by rw[e];exact Jf (hk' m) (sg _ _ hf F1 g1 m h1 h2) (sg _ _ hf F2 g2 m h1 h2) (sg _ _ hf F3 g3 m h1 h2)⟩
 rcases Mr (Ln.at (4*o.d,0) (l+r)) (Ln.at (4*o.f,-1) (l+r))with x|x
 ·rcases Mr (Ln.at (4*o.d,0) (l+r)) (Ln.at (-(4*o.g),1) (l+r))with y|y
  ·exact key _ F1 (LW _) x y (.inl rfl)
  exact key _ F3 y (LC y x) (LW _) (.inr (.inr rfl))
 rcases Mr (Ln.at (4*o.f,-1) (l+r)) (Ln.at (-(4*o.g),1) (l+r))with y|y
 ·exact key _ F2 x (LW _) y (.inr (.inl rfl))
 exact key _ F3 (LC y x) y (LW _) (.inr (.inr rfl))
theorem lines{os:List Oc}{l r:Int}(h:l<r)(sg:Sg (Fam os) (2*l) (2*r) (l+r)):∀{T:List Oc},(∀o∈T,o∈os/\loM o (l+r)<=hiM o (l+r))->∃ps:List (Ln×Ln),(∀p∈ps,Fam os p.1/\Fam os p.2/\p.1.at (l+r)<=p.2.at (l+r))/\∀m,2*l<=m->m<=2*r->T.map (fun o=>(loM o m,hiM o m))=ps.map fun p=>(p.1.at m,p.2.at m)
 | [],_=>⟨[],fun p hp=>(nomatch hp),fun m _ _=>rfl⟩
 |o::T,k=>by
  obtain⟨ps,k1,k2⟩:=lines h sg fun o' ho'=>k o' (l_ o ho');obtain⟨ho,le⟩:=k o p_;obtain⟨f,f1,f2,f3⟩:=DP sg ho;obtain⟨g,g1,g2,g3⟩:=Ea sg ho;refine⟨(f,g)::ps,fun p hp=>?_,fun m h1 h2=>by rw[g_,g_,k2 m h1 h2,f3 m h1 h2,g3 m h1 h2]⟩;rcases n_.mp hp with rfl|hp
  ·exact⟨f1,g1,by show f.at _<=g.at _;lia⟩
  exact k1 p hp
noncomputable def spn(T:List Oc)(m:Int):List (Int×Int):=T.map fun o=>(loM o m,hiM o m)
noncomputable def wF:List (Int×Int)->Int
 | []=>0
 |p::_=>p.1
theorem Cr{B:Nat}{os T:List Oc}{l r:Int}(h:l<r)(nc:Nc os l r)(vo:∀o∈os,Vo o)(bd:∀o∈os,Bd B o)(mem:∀o,o∈T↔o∈os/\2*o.a<=l/\r<=2*o.b)(so:(spn T (l+r)).Pairwise fun p q=>p.1<=q.1) :
  (r-l)*sw (wF (spn T (l+r))) (spn T (l+r))=Sm (fun j=>Lm B os (2*j+1)) l (r-l).toNat:=by
 have sg:=IJ h nc;obtain⟨ps,k1,k2⟩:=lines h sg (T:=T) fun o ho=>by obtain⟨a1,a2,a3⟩:=(mem o).mp ho;exact⟨a1,FV (vo o a1) (by lia) (by lia)⟩
 have so2:ps.Pairwise fun p q=>p.1.at (l+r)<=q.1.at (l+r):=by unfold spn at so;rw[k2 (l+r) (by lia) (by lia),Lw]at so;exact so
 have act:∀j o,l<=j->j<r->o∈os->(o∈T↔4*o.a<=2*j+1/\2*j+1<=4*o.b):=fun j o h1 h2 ho=>by have:=nc.1 o ho;rw[mem o];exact⟨fun z=>by lia,fun z=>⟨ho,by lia⟩⟩
 have ln:∃ α β:Int,∀m,2*l<=m->m<=2*r->sw (wF (spn T m)) (spn T m)=α+β*m:=by
  cases ps with
  |nil=>exact⟨0,0,fun m h1 h2=>by unfold spn;rw[k2 m h1 h2,MN];show 0=_;lia⟩
  |cons p ps=>
   obtain⟨α,β,e⟩:=ud sg (k1 p p_).1 k1;exact⟨α,β,fun m h1 h2=>by unfold spn;rw[k2 m h1 h2];exact e m h1 h2⟩
 obtain⟨α,β,e⟩:=ln;have cnt:∀j,l<=j->j<l+(r-l).toNat->Lm B os (2*j+1)=α+β*(2*j+1):=fun j h1 h2=>by
  rw[<-e (2*j+1) (by lia) (by lia)];have so3:(spn T (2*j+1)).Pairwise fun p q=>p.1<=q.1:=by unfold spn;rw[k2 _ (by lia) (by lia),Lw];refine Mh (fun{p q} hp hq hpq=>?_) so2;exact sg _ _ (k1 p hp).1 (k1 q hq).1 hpq _ (by lia) (by lia)
  have bb:∀p∈spn T (2*j+1),p.1<=p.2/\-(8*B:Nat)<=p.1/\p.2<=-(8*B:Nat)+((16*B:Nat):Int):=fun p hp=>by
   obtain⟨o,ho,rfl⟩:=t_.mp hp;obtain⟨a1,a2,a3⟩:=(mem o).mp ho;obtain⟨_,b3,b4⟩:=bd o a1;refine⟨FV (vo o a1) (by lia) (by lia),?_,?_⟩
   ·show _<=loM o _;unfold loM;lia
   show hiM o _<=_;unfold hiM;lia
  have t0:∀p∈spn T (2*j+1),wF (spn T (2*j+1))<=p.1:=fun p hp=>by
   generalize spn T (2*j+1)=sp at so3 hp;cases sp with
   |nil=>cases hp
   |cons q sp=>
    rcases n_.mp hp with rfl|hp
    ·exact LW _
    exact(LX.mp so3).1 p hp
  by_cases ne:spn T (2*j+1)=[]
  ·have nT:T=[]:=MU.mp ne;rw[ne];show _=0;refine fR fun y _ _=>if_neg ?_;rintro⟨o,ho,c,_⟩;have:=(act j o h1 (by lia) ho).mpr c;rw[nT]at this;cases this
  have lo:-(8*B:Nat)<=wF (spn T (2*j+1)):=by
   generalize spn T (2*j+1)=sp at ne bb;cases sp with
   |nil=>exact absurd rfl ne
   |cons q sp=>exact(bb q p_).2.1
  rw[<-qU so3 bb lo];refine cq fun y _ _=>yu ⟨?_,?_⟩
  ·rintro⟨o,ho,c,c1,c2⟩;have hT:=(act j o h1 (by lia) ho).mpr c;have hp:(loM o (2*j+1),hiM o (2*j+1))∈spn T (2*j+1):=t_.mpr ⟨o,hT,rfl⟩;have:=t0 _ hp;exact⟨by dsimp only at this;lia,_,hp,c1,c2⟩
  rintro⟨_,p,hp,c1,c2⟩;obtain⟨o,hT,rfl⟩:=t_.mp hp;have ho:=((mem o).mp hT).1;exact⟨o,ho,(act j o h1 (by lia) ho).mp hT,c1,c2⟩
 rw[cq cnt,AO,e (l+r) (by lia) (by lia),show((r-l).toNat:Int)=r-l by lia,show l+(l+(r-l))=l+r by lia]
theorem C6{B:Nat}{os:List Oc}{w e:Int}(h1:∀o∈os,w<=2*o.a)(h2:∀o∈os,2*o.b<=e)(h3:w<=e)(h4:-(2*B:Nat)<=w)(h5:e<=(2*B:Nat)):Sm (fun j=>Lm B os (2*j+1)) w (e-w).toNat=Ar B os:=by refine(FR h4 (by lia) fun x hx=>?_).symm;refine fR fun y _ _=>if_neg ?_;rintro⟨o,ho,c,_⟩;have:=h1 o ho;have:=h2 o ho;lia
abbrev Qt:=Int×Int×Nat
noncomputable def px(s:Nat):Int:=[6,4,2,4].getD s 0
noncomputable def py(s:Nat):Int:=[5,7,3,1].getD s 0
noncomputable def inL(o:Oc)(q:Qt):Prop:=((8*o.a<=8*q.1+px q.2.2/\8*q.1+px q.2.2<=8*o.b)/\8*o.c<=8*q.2.1+py q.2.2/\8*q.2.1+py q.2.2<=8*o.d)/\(8*o.e<=8*q.1+px q.2.2+(8*q.2.1+py q.2.2)/\8*q.1+px q.2.2+(8*q.2.1+py q.2.2)<=8*o.f)/\8*o.g<=8*q.1+px q.2.2-(8*q.2.1+py q.2.2)/\8*q.1+px q.2.2-(8*q.2.1+py q.2.2)<=8*o.h
instance (o:Oc) (q:Qt):Decidable (inL o q):=by unfold inL;infer_instance
noncomputable def inU(os:List Oc)(q:Qt):Prop:=∃o∈os,inL o q
instance (os:List Oc) (q:Qt):Decidable (inU os q):=by unfold inU;infer_instance
theorem j8{k e z c:Int}(hk:0<k):k*e<=k*z+c↔e<=z+c/k:=by rw[O9 z,<-Int.add_mul_ediv_left c z (Int.ne_of_gt hk),Int.le_ediv_iff_mul_le hk,M' e,O9 c]
theorem si{k b z c:Int}(hk:0<k):k*z+c<=k*b↔¬b<=z+(c-1)/k:=by rw[<-j8 hk];generalize k*z=u;generalize k*b=v;lia
theorem HB:∀q∈[((1:Int),(0:Nat),(3:Nat)),(3,0,3),(1,1,2),(1,2,2),(3,1,0),(3,2,0),(1,3,1),(3,3,1)],(q.1/4=px q.2.2/8/\(q.1-1)/4=(px q.2.2-1)/8)/\((q.2.1:Int)/4=py q.2.2/8/\(q.2.1:Int)/4=(py q.2.2-1)/8)/\((q.1+(q.2.1:Int))/4=(px q.2.2+py q.2.2)/8/\(q.1+(q.2.1:Int))/4=(px q.2.2+py q.2.2-1)/8)/\(q.1-(q.2.1:Int)-1)/4=(px q.2.2-py q.2.2)/8/\(q.1-(q.2.1:Int)-1)/4=(px q.2.2-py q.2.2-1)/8:=by decide
theorem Jw{o:Oc}{X Y:Int}{i:Int}{j s:Nat}(h:(i,j,s)∈[((1:Int),0,3),(3,0,3),(1,1,2),(1,2,2),(3,1,0),(3,2,0),(1,3,1),(3,3,1)]):Co o (4*X+i) (4*Y+j)↔inL o (X,Y,s):=by
 obtain⟨⟨f1,f2⟩,⟨f3,f4⟩,⟨f5,f6⟩,f7,f8⟩:=HB _ h;clear h;dsimp only at *;have u1:=j8 (k:=4) (e:=o.a) (z:=X) (c:=i) (by decide);have u2:=si (k:=4) (b:=o.b) (z:=X) (c:=i) (by decide);have u3:=j8 (k:=4) (e:=o.c) (z:=Y) (c:=j) (by decide);have u4:=j8 (k:=4) (e:=o.d) (z:=Y) (c:=j) (by decide);have u5:=j8 (k:=4) (e:=o.e) (z:=X+Y) (c:=i+j) (by decide);have u6:=j8 (k:=4) (e:=o.f) (z:=X+Y) (c:=i+j) (by decide);have u7:=j8 (k:=4) (e:=o.g) (z:=X-Y) (c:=i-j-1) (by decide);have u8:=si (k:=4) (b:=o.h) (z:=X-Y) (c:=i-j) (by decide);have v1:=j8 (k:=8) (e:=o.a) (z:=X) (c:=px s) (by decide);have v2:=si (k:=8) (b:=o.b) (z:=X) (c:=px s) (by decide);have v3:=j8 (k:=8) (e:=o.c) (z:=Y) (c:=py s) (by decide);have v4:=si (k:=8) (b:=o.d) (z:=Y) (c:=py s) (by decide);have v5:=j8 (k:=8) (e:=o.e) (z:=X+Y) (c:=px s+py s) (by decide);have v6:=si (k:=8) (b:=o.f) (z:=X+Y) (c:=px s+py s) (by decide);have v7:=j8 (k:=8) (e:=o.g) (z:=X-Y) (c:=px s-py s) (by decide);have v8:=si (k:=8) (b:=o.h) (z:=X-Y) (c:=px s-py s) (by decide);rw[f1,<-v1]at u1;rw[f2,<-v2]at u2;rw[f3,<-v3]at u3;rw[f4]at u4;rw[f5,<-v5]at u5;rw[f6]at u6;rw[f7,<-v7]at u7;rw[f8,<-v8]at u8;unfold Co inL loM hiM;dsimp only;rw[Ou,Ou,Qd,Qd];have w5:4*o.e-(4*X+i)<=4*Y+j↔8*o.e<=8*X+px s+(8*Y+py s):=by rw[show 8*X+px s+(8*Y+py s)=8*(X+Y)+(px s+py s) by lia,<-u5];lia
 have w6:4*Y+(j:Int)<4*o.f-(4*X+i)↔8*X+px s+(8*Y+py s)<=8*o.f:=by rw[show 8*X+px s+(8*Y+py s)=8*(X+Y)+(px s+py s) by lia,v6,<-u6];lia
 have w7:4*Y+(j:Int)<4*X+i-4*o.g↔8*o.g<=8*X+px s-(8*Y+py s):=by rw[show 8*X+px s-(8*Y+py s)=8*(X-Y)+(px s-py s) by lia,<-u7];lia
 have w8:4*X+i-4*o.h<=4*Y+(j:Int)↔8*X+px s-(8*Y+py s)<=8*o.h:=by rw[show 8*X+px s-(8*Y+py s)=8*(X-Y)+(px s-py s) by lia,<-u8];lia
 have w4:4*Y+(j:Int)<4*o.d↔8*Y+py s<=8*o.d:=by rw[v4,<-u4];lia
 rw[u1,u2,u3,w5,w8,w4,w6,w7];exact⟨fun⟨⟨a,b⟩,⟨⟨c,e⟩,h⟩,⟨d,f⟩,g⟩=>⟨⟨⟨a,b⟩,c,d⟩,⟨e,f⟩,g,h⟩,fun⟨⟨⟨a,b⟩,c,d⟩,⟨e,f⟩,g,h⟩=>⟨⟨a,b⟩,⟨⟨c,e⟩,h⟩,⟨d,f⟩,g⟩⟩
noncomputable def cl4(p:Nat->Prop)[DecidablePred p](x y:Int):List Qt:=((A_ 4).filter p).map fun s=>(x,y,s)
theorem DA{p:Nat->Prop}[DecidablePred p]{x y:Int}:((cl4 p x y).length:Int)=bi (p 0)+bi (p 1)+(bi (p 2)+bi (p 3)):=by unfold cl4;rw[a_,show A_ 4=[0,1,2,3]from rfl];unfold bi;by_cases h0:p 0 <;> by_cases h1:p 1 <;> by_cases h2:p 2 <;> by_cases h3:p 3 <;> simp[h0,h1,h2,h3]
noncomputable def oQ{α:Type}(f:Int->List α)(a:Int)(n:Nat):List α:=(A_ n).flatMap fun(j:Nat)=>f (a+j)
theorem fA{α:Type}{f:Int->List α}{a:Int}{n:Nat}:oQ f a (n+1)=oQ f a n++f (a+n):=by unfold oQ;rw[Nr,Nm,OO]
theorem bM{α:Type}{f:Int->List α}{a:Int}{n:Nat}{x:α}:x∈oQ f a n↔∃i,a<=i/\i<a+n/\x∈f i:=by
 unfold oQ;rw[Pm];constructor
 ·rintro⟨j,m,e⟩;have:=Lr.mp m;exact⟨_,by lia,by lia,e⟩
 rintro⟨i,h1,h2,e⟩;exact⟨(i-a).toNat,Lr.mpr (by lia),by rw[show a+((i-a).toNat:Int)=i by lia];exact e⟩
theorem vn{α:Type}{f:Int->List α}{g:Int->Int}{a:Int}(h:∀i,((f i).length:Int)=g i)(n:Nat):((oQ f a n).length:Int)=Sm g a n:=by
 induction n with
 |zero=>rfl
 |succ n ih=>rw[fA,f',Sm,<-ih,<-h];lia
theorem yR{α:Type}{f:Int->List α}{a:Int}{n:Nat}(hp:∀y,(f y).Nodup)(hR:∀y y',y≠y'->∀u∈f y,u ∉ f y'):(oQ f a n).Nodup:=by
 induction n with
 |zero=>exact Mk
 |succ n ih=>
  rw[fA,Mn];refine⟨ih,hp _,fun u mu v mv e=>?_⟩;obtain⟨i,h1,h2,mi⟩:=bM.mp mu;subst e;exact hR i (a+n) (by lia) u mi mv
theorem dB{p:Nat->Prop}[DecidablePred p]{x y:Int}{q:Qt}:q∈cl4 p x y↔q.1=x/\q.2.1=y/\q.2.2<4/\p q.2.2:=by
 unfold cl4;rw[t_];constructor
 ·rintro⟨s,m,rfl⟩;rw[J_]at m;exact⟨rfl,rfl,Lr.mp m.1,of_decide_eq_true m.2⟩
 rintro⟨rfl,rfl,h1,h2⟩;exact⟨q.2.2,J_.mpr ⟨Lr.mpr h1,decide_eq_true h2⟩,rfl⟩
noncomputable def qsU(B:Nat)(os:List Oc):List Qt:=oQ (fun X=>oQ (fun Y=>cl4 (fun s=>inU os (X,Y,s)) X Y) (-(2*B:Nat)) (4*B)) (-(B:Nat)) (2*B)
theorem xw{f:Int->Int}{a:Int}:∀{n:Nat},Sm (fun x=>2*f x) a n=2*Sm f a n
 |0=>rfl
 |n+1=>by rw[Sm,Sm,xw];lia
theorem v9{os:List Oc}{X Y:Int}{i:Int}{j s:Nat}(h:(i,j,s)∈[((1:Int),0,3),(3,0,3),(1,1,2),(1,2,2),(3,1,0),(3,2,0),(1,3,1),(3,3,1)]):bi (Cu os (4*X+i) (4*Y+j))=bi (inU os (X,Y,s)):=
 yu ⟨fun⟨o,ho,c⟩=>⟨o,ho,(Jw h).mp c⟩,fun⟨o,ho,c⟩=>⟨o,ho,(Jw h).mpr c⟩⟩
theorem Le(B:Nat)(os:List Oc):Ar B os=2*((qsU B os).length:Int):=by unfold Ar qsU;rw[show -((2*B:Nat):Int)=2 * -(B:Int) by lia,show 4*B=2*(2*B) by lia,tL,vn (g:=fun X=>Sm (fun Y=>bi (inU os (X,Y,0))+bi (inU os (X,Y,1))+(bi (inU os (X,Y,2))+bi (inU os (X,Y,3)))) (2 * -(B:Int)) (2*(2*B))) (fun X=>vn (fun Y=>DA) _),<-xw];refine cq fun X _ _=>?_;unfold Lm;rw[show -((8*B:Nat):Int)=4*(2 * -(B:Int)) by lia,show 16*B=4*(2*(2*B)) by lia,xX,xX,<-wM,<-xw];refine cq fun Y _ _=>?_;rw[show 2*(2*X)+1=4*X+1 by lia,show 2*(2*X+1)+1=4*X+3 by lia];have e1:=v9 (os:=os) (X:=X) (Y:=Y) (i:=1) (j:=0) (s:=3) (by decide);have e2:=v9 (os:=os) (X:=X) (Y:=Y) (i:=3) (j:=0) (s:=3) (by decide);have e3:=v9 (os:=os) (X:=X) (Y:=Y) (i:=1) (j:=1) (s:=2) (by decide);have e4:=v9 (os:=os) (X:=X) (Y:=Y) (i:=1) (j:=2) (s:=2) (by decide);have e5:=v9 (os:=os) (X:=X) (Y:=Y) (i:=3) (j:=1) (s:=0) (by decide);have e6:=v9 (os:=os) (X:=X) (Y:=Y) (i:=3) (j:=2) (s:=0) (by decide);have e7:=v9 (os:=os) (X:=X) (Y:=Y) (i:=1) (j:=3) (s:=1) (by decide);have e8:=v9 (os:=os) (X:=X) (Y:=Y) (i:=3) (j:=3) (s:=1) (by decide);rw[show((0:Nat):Int)=0 from rfl,N1]at e1 e2;rw[e1,e2];have e3:bi (Cu os (4*X+1) (4*Y+1))=_:=e3;have e4:bi (Cu os (4*X+1) (4*Y+2))=_:=e4;have e5:bi (Cu os (4*X+3) (4*Y+1))=_:=e5;have e6:bi (Cu os (4*X+3) (4*Y+2))=_:=e6;have e7:bi (Cu os (4*X+1) (4*Y+3))=_:=e7;have e8:bi (Cu os (4*X+3) (4*Y+3))=_:=e8;rw[e3,e4,e5,e6,e7,e8];lia
theorem Gq{B:Nat}{os:List Oc}:(qsU B os).Nodup:=by
 unfold qsU;refine yR (fun X=>yR (fun Y=>?_) fun y y' ne u h1 h2=>ne ((dB.mp h1).2.1.symm.trans (dB.mp h2).2.1)) fun y y' ne u h1 h2=>?_
 ·unfold cl4;refine Lw.mpr (Pe (fun{a b} ne e=>ne ?_) (List.Pairwise.filter _ List.nodup_range));exact congrArg (fun q:Qt=>q.2.2) e
 obtain⟨_,_,_,g1⟩:=bM.mp h1;obtain⟨_,_,_,g2⟩:=bM.mp h2;exact ne ((dB.mp g1).1.symm.trans (dB.mp g2).1)
theorem Fo{B:Nat}{os:List Oc}(bd:∀o∈os,Bd B o){q:Qt}:q∈qsU B os↔q.2.2<4/\inU os q:=by
 unfold qsU;rw[bM];constructor
 ·rintro⟨X,_,_,h⟩;obtain⟨Y,_,_,h⟩:=bM.mp h;obtain⟨rfl,rfl,h1,h2⟩:=dB.mp h;exact⟨h1,h2⟩
 rintro⟨h1,o,ho,h2⟩;obtain⟨⟨b1,b2⟩,b3,b4⟩:=bd o ho;have h3:=h2;obtain⟨⟨⟨i1,i2⟩,i3,i4⟩,_⟩:=h2;have hx:px q.2.2<8/\0<px q.2.2/\0<py q.2.2/\py q.2.2<8:=by
  match q.2.2,h1 with
  |0,_=>decide
  |1,_=>decide
  |2,_=>decide
  |3,_=>decide
 exact⟨q.1,by lia,by lia,bM.mpr ⟨q.2.1,by lia,by lia,dB.mpr ⟨rfl,rfl,h1,o,ho,h3⟩⟩⟩
theorem DK{B:Nat}{os:List Oc}(bd:∀o∈os,Bd B o){qs:List Qt}(nd:qs.Nodup)(mem:∀q,q∈qs↔q.2.2<4/\inU os q):2*(qs.length:Int)=Ar B os:=by rw[Le,((List.perm_ext_iff_of_nodup nd Gq).mpr fun q=>(mem q).trans (Fo bd).symm).length_eq]
theorem Gw{B:Nat}{os os':List Oc}(h:∀o,o∈os↔o∈os'):Ar B os=Ar B os':=by unfold Ar Lm;refine cq fun j _ _=>cq fun y _ _=>yu ⟨fun⟨o,ho,c⟩=>⟨o,(h o).mp ho,c⟩,fun⟨o,ho,c⟩=>⟨o,(h o).mpr ho,c⟩⟩
theorem uF{α:Type}[DecidableEq α]{l:List α}:∀{m:List α},l.Nodup->(∀x∈l,x∈m)->l.length<=m.length:=by
 induction l with
 |nil=>exact fun _ _=>B_ _
 |cons x l ih=>
  intro m nd h;obtain⟨n1,n2⟩:=F'.mp nd;have hx:=h x p_;have:=ih (m:=m.erase x) n2 fun y hy=>(List.mem_erase_of_ne (fun e:y=x=>n1 (by rw[<-e];exact hy))).mpr (h y (l_ _ hy))
  rw[List.length_erase_of_mem hx]at this;have:=List.length_pos_of_mem hx;rw[h_];lia
theorem G3{l:List Int}(h:l.Pairwise (·<·)):l.Nodup:=h.imp fun{a b} h e=>by lia
noncomputable def Cd(os:List Oc)(c:Int->Prop):Prop:=(∀o∈os,c (2*o.a)/\c (2*o.b))/\∀o∈os,∀t,t=o.c\/t=o.d->∀o'∈os,∀u,u=o'.e\/u=o'.f->∀o''∈os,∀v,v=o''.g\/v=o''.h->c (2*(u-t))/\c (2*(v+t))/\c (u+v)
noncomputable def lF(B:Nat)(os:List Oc):Prop:=os.length<=200/\B<2 ^ 50/\(os.length<=14\/B<=800)/\(∀o∈os,Vo o)/\∀o∈os,Bd B o
noncomputable def Sds(B:Nat)(os:List Oc)(S:List Int):Prop:=S.Pairwise (·<·)/\S.length<100000/\(os=[]->S=[])/\(os≠[]->∃w e:Int,S[0]?=some w/\S[S.length-1]?=some e/\-((2*B:Nat):Int)<=w/\w<=e/\e<=((2*B:Nat):Int)/\∀o∈os,w<=2*o.a/\2*o.b<=e)/\∀(i:Nat) (l r:Int),S[i]?=some l->S[i+1]?=some r->Nc os l r
theorem Jl{os:List Oc}{c:Int->Prop}{l r:Int}(cd:Cd os c)(h:∀z,c z->z<=l\/r<=z):Nc os l r:=
 ⟨fun o ho=>⟨h _ (cd.1 o ho).1,h _ (cd.1 o ho).2⟩,fun o ho t et o' ho' u eu o'' ho'' v ev=>⟨h _ (cd.2 o ho t et o' ho' u eu o'' ho'' v ev).1,h _ (cd.2 o ho t et o' ho' u eu o'' ho'' v ev).2.1,h _ (cd.2 o ho t et o' ho' u eu o'' ho'' v ev).2.2⟩⟩
theorem lM{S:List Int}(h:S.Pairwise (·<·)){i j:Nat}{x y:Int}(hi:S[i]?=some x)(hj:S[j]?=some y)(hij:i<j):x<y:=by obtain⟨a,rfl⟩:=d_.mp hi;obtain⟨b,rfl⟩:=d_.mp hj;exact MM.mp h i j a b hij
theorem yE{B:Nat}{os:List Oc}{W E:Int}{S:List Int}{c:Int->Prop}(ne:os≠[])(vo:∀o∈os,Vo o)(bd:∀o∈os,Bd B o)(w1:∃o∈os,W=o.a)(w2:∀o∈os,W<=o.a)(e1:∃o∈os,E=o.b)(e2:∀o∈os,o.b<=E)(cd:Cd os c)
  (h1:S.Pairwise (·<·)) (h2:∀z,z∈S↔c z/\2*W<=z/\z<=2*E) (h3:S.length<100000):Sds B os S:=by
 obtain⟨o1,m1,r1⟩:=w1;obtain⟨o2,m2,r2⟩:=e1;have hWE:W<=E:=by have g1:=(vo o1 m1).1.1;have g2:=e2 o1 m1;lia
 have iW:2*W∈S:=(h2 _).mpr ⟨by rw[r1];exact(cd.1 o1 m1).1,by lia,by lia⟩;have iE:2*E∈S:=(h2 _).mpr ⟨by rw[r2];exact(cd.1 o2 m2).2,by lia,by lia⟩;obtain⟨jW,lW,gW⟩:=LF.mp iW;obtain⟨jE,lE,gE⟩:=LF.mp iE;have gW':S[jW]?=some (2*W):=by rw[c_ lW,gW]
 have gE':S[jE]?=some (2*E):=by rw[c_ lE,gE]
 have s0:S[0]?=some (2*W):=by
  by_cases z:jW=0
  ·rw[<-z];exact gW'
  have l0:0<S.length:=by lia
  have e0:=c_ l0;have:=lM h1 e0 gW' (by lia);have:=((h2 _).mp (G_ e0)).2;lia
 have sl:S[S.length-1]?=some (2*E):=by
  by_cases z:jE=S.length-1
  ·rw[<-z];exact gE'
  have l0:S.length-1<S.length:=by lia
  have e0:=c_ l0;have:=lM h1 gE' e0 (by lia);have:=((h2 _).mp (G_ e0)).2;lia
 refine⟨h1,h3,fun z=>absurd z ne,fun _=>⟨2*W,2*E,s0,sl,?_,by lia,?_,fun o ho=>?_⟩,fun i l r el er=>Jl cd fun z hz=>?_⟩
 ·have:=(bd o1 m1).1.1;lia
 ·have:=(bd o2 m2).1.2;lia
 ·have a:=w2 o ho;have b:=e2 o ho;lia
 have hl:=((h2 _).mp (G_ el)).2;have hr:=((h2 _).mp (G_ er)).2;by_cases g1:z<2*W
 ·exact .inl (by lia)
 by_cases g2:2*E<z
 ·exact .inr (by lia)
 obtain⟨j,lj,gj⟩:=LF.mp ((h2 z).mpr ⟨hz,by lia,by lia⟩);have gj':S[j]?=some z:=by rw[c_ lj,gj]
 by_cases c1:j<i
 ·have:=lM h1 gj' el c1;exact .inl (by lia)
 by_cases c2:j=i
 ·subst c2;rw[el]at gj';cases gj';exact .inl (LW _)
 by_cases c3:j=i+1
 ·subst c3;rw[er]at gj';cases gj';exact .inr (LW _)
 have:=lM h1 er gj' (by lia);exact .inr (by lia)
theorem A3{B:Nat}{os:List Oc}{W E:Int}(ne:os≠[])(vo:∀o∈os,Vo o)(bd:∀o∈os,Bd B o)(w1:∃o∈os,W=o.a)(w2:∀o∈os,W<=o.a)(e1:∃o∈os,E=o.b)(e2:∀o∈os,o.b<=E)(hl:2*E-2*W<=50000) :
  Sds B os ((A_ (2*E+1-2*W).toNat).map fun(j:Nat)=>2*W+(j:Int)):=by
 refine yE (c:=fun _=>True) ne vo bd w1 w2 e1 e2 ⟨fun _ _=>⟨trivial,trivial⟩,fun _ _ _ _ _ _ _ _ _ _ _ _=>⟨trivial,trivial,trivial⟩⟩ ?_ (fun z=>?_) ?_
 ·rw[Lw];exact NL.imp fun{a b} h=>by lia
 ·rw[t_];exact⟨fun⟨j,m,e⟩=>by have:=Lr.mp m;exact⟨trivial,by lia,by lia⟩,fun⟨_,a,b⟩=>⟨(z-2*W).toNat,Lr.mpr (by lia),by lia⟩⟩
 rw[a_,LP];lia
noncomputable def ocT(o:Oc):T:=.tup [.int o.a,.int o.b,.int o.c,.int o.d,.int o.e,.int o.f,.int o.g,.int o.h]
theorem kq{o:Oc}:er (ocT o)=ocT o:=rfl
theorem dF{o:Oc}:bO (ocT o)=true:=rfl
theorem cP{o:Oc}:aP (ocT o)=true:=rfl
theorem dc{o:Oc}:isAny (ocT o)=false:=rfl
noncomputable def ocL(o:Oc):List Int:=[o.a,o.b,o.c,o.d,o.e,o.f,o.g,o.h]
theorem GX(o:Oc):ocT o=iT (ocL o):=rfl
noncomputable def gA(i:Nat)(o:Oc):Int:=(ocL o).getD i 0
theorem k9{o:Oc}{i:Int}{k:T->Prop}:ixT (ocT o) (.int i) k=ixT (.tup [.int o.a,.int o.b,.int o.c,.int o.d,.int o.e,.int o.f,.int o.g,.int o.h]) (.int i) k:=rfl
theorem FJ{o:Oc}{i:Nat}(h:i<8):atI [T.int o.a,.int o.b,.int o.c,.int o.d,.int o.e,.int o.f,.int o.g,.int o.h] (i:Int)=some (.int (gA i o)):=by
 match i,h with
 |0,_=>rfl
 |1,_=>rfl
 |2,_=>rfl
 |3,_=>rfl
 |4,_=>rfl
 |5,_=>rfl
 |6,_=>rfl
 |7,_=>rfl
theorem sizeLine_eq:sizeLine=16777216:=rfl
theorem cL{α:Type}{ps:List α}{g:α->Int}:intsOf (ps.map fun p=>T.int (g p))=some (ps.map g):=by
 induction ps with
 |nil=>rfl
 |cons p ps ih=>rw[g_,intsOf,ih];rfl
theorem AB{α β:Type}{ps:List α}{qs:List β}{g:α->Int}{h:β->Int}:intsOf ((ps.map fun p=>T.int (g p))++qs.map fun p=>T.int (h p))=some (ps.map g++qs.map h):=by
 have e:(ps.map fun p=>T.int (g p))++(qs.map fun p=>T.int (h p))=(ps.map g++qs.map h).map fun x=>T.int x:=by rw[q_,B',B'];rfl
 rw[e,cL,PV]
theorem dQ{ns:List Int}:intsOf (ns.map T.int)=some ns:=by have:=cL (ps:=ns) (g:=fun x=>x);rwa[PV]at this
theorem c2(x:Int):vB 2 x:=.inl ⟨by decide,by decide⟩
theorem c4(x:Int):vB 4 x:=.inl ⟨by decide,by decide⟩
theorem oS{os:List Oc}{i:Nat}{ms:List Int}(h1:ms.Pairwise (·<·))(h2:∀z,z∈ms↔∃o∈os,z=gA i o\/z=gA (i+1) o):ms.length<=2*os.length:=by
 have:=uF (m:=os.map (gA i)++os.map (gA (i+1))) (G3 h1) fun z hz=>by obtain⟨o,m,e⟩:=(h2 z).mp hz;rw[v_,t_,t_];exact e.elim (fun e=>.inl ⟨o,m,e.symm⟩) fun e=>.inr ⟨o,m,e.symm⟩
 rw[f',a_,a_]at this;lia
abbrev Pt:=Int×Int
noncomputable def ptP(p:Pt):T:=pt p.1 p.2
theorem bC{p:Pt}:er (ptP p)=ptP p:=rfl
theorem aR{p:Pt}:bO (ptP p)=true:=rfl
theorem aG{p:Pt}:aP (ptP p)=true:=rfl
theorem bg{p:Pt}:isAny (ptP p)=false:=rfl
theorem b7{p:Pt}{k:T->Prop}:ixT (ptP p) (.int 0) k=k (.int p.1):=rfl
theorem bR{p:Pt}{k:T->Prop}:ixT (ptP p) (.int 1) k=k (.int p.2):=rfl
theorem bc{p:Pt}{k:T->Prop}:pD [ptP p] k=k (ptP p):=rfl
theorem BV{p q:Pt}{k:T->Prop}:eqT (ptP p) (ptP q) k=k (.bl (decide (p=q))):=by unfold ptP;rw[ji];congr 2;rw[decide_eq_decide];exact⟨fun h=>Nt h.1 h.2,fun h=>by rw[h];exact⟨rfl,rfl⟩⟩
noncomputable def IU:List Pt:=[(1,0),(1,1),(0,1),(-1,1),(-1,0),(-1,-1),(0,-1),(1,-1)]
noncomputable def st8(d:Nat):Pt:=IU.getD d (0,0)
noncomputable def uU(p:Pt)(d:Nat)(m:Int):Pt:=(p.1+(st8 d).1*m,p.2+(st8 d).2*m)
theorem B2{d:Nat}(h:d<8):atI [T.cst [.int 1,.int 0],.cst [.int 1,.int 1],.cst [.int 0,.int 1],.cst [.int (-1),.int 1],.cst [.int (-1),.int 0],.cst [.int (-1),.int (-1)],.cst [.int 0,.int (-1)],.cst [.int 1,.int (-1)]] (d:Int)=some (.cst [.int (st8 d).1,.int (st8 d).2]):=by
 match d,h with
 |0,_=>rfl
 |1,_=>rfl
 |2,_=>rfl
 |3,_=>rfl
 |4,_=>rfl
 |5,_=>rfl
 |6,_=>rfl
 |7,_=>rfl
theorem AA(d:Nat)(h:d<8):-1<=(st8 d).1/\(st8 d).1<=1/\-1<=(st8 d).2/\(st8 d).2<=1:=by
 match d,h with
 |0,_=>decide
 |1,_=>decide
 |2,_=>decide
 |3,_=>decide
 |4,_=>decide
 |5,_=>decide
 |6,_=>decide
 |7,_=>decide
noncomputable def far(p q:Pt):Int:=max ((q.1-p.1).natAbs:Int) ((q.2-p.2).natAbs:Int)
noncomputable def lead(p q:Pt):Option Nat:=if far p q=0 then none else(A_ 8).find? fun d=>decide (uU p d (far p q)=q)
noncomputable def zj(p q:Pt):T:=match lead p q with
 |none=>.non
 |some d=>.tup [.int (d:Int),.int (far p q)]
noncomputable def BR(o q:Oc):Oc:=⟨o.a+q.a,o.b+q.b,o.c+q.c,o.d+q.d,o.e+q.e,o.f+q.f,o.g+q.g,o.h+q.h⟩
noncomputable def oc1(p:Pt):Oc:=⟨p.1,p.1,p.2,p.2,p.1+p.2,p.1+p.2,p.1-p.2,p.1-p.2⟩
noncomputable def oc2(p q:Pt):Oc:=⟨min p.1 q.1,max p.1 q.1,min p.2 q.2,max p.2 q.2,min (p.1+p.2) (q.1+q.2),max (p.1+p.2) (q.1+q.2),min (p.1-p.2) (q.1-q.2),max (p.1-p.2) (q.1-q.2)⟩
noncomputable def gO(j:Nat)(p:Pt):Int:=[p.1,p.2,p.1+p.2,p.1-p.2].getD j 0
noncomputable def BS(ps:List Pt)(o:Oc):Prop:=((iP (ps.map (gO 0)) o.a/\iR (ps.map (gO 0)) o.b)/\(iP (ps.map (gO 1)) o.c/\iR (ps.map (gO 1)) o.d))/\(iP (ps.map (gO 2)) o.e/\iR (ps.map (gO 2)) o.f)/\iP (ps.map (gO 3)) o.g/\iR (ps.map (gO 3)) o.h
theorem AM{f:Nat->Int×Int}{m M:Int}{i:Nat}:(A_ (i+1)).flatMap (fun j=>[T.int (if j=i then(m,M)else f j).1,T.int (if j=i then(m,M)else f j).2])=(A_ i).flatMap (fun j=>[T.int (f j).1,T.int (f j).2])++[T.int m]++[T.int M]:=by
 rw[Nr,Nm,k_];have ec:(A_ i).flatMap (fun j=>[T.int (if j=i then(m,M)else f j).1,T.int (if j=i then(m,M)else f j).2])=(A_ i).flatMap fun j=>[T.int (f j).1,T.int (f j).2]:=by rw[Pn,Pn];refine congrArg List.flatten (Mo fun j hj=>?_);have:=Lr.mp hj;rw[if_neg (by lia)]
 rw[ec];congr 1;show [T.int (if i=i then(m,M)else f i).1,T.int (if i=i then(m,M)else f i).2]++[]=_;rw[if_pos rfl]
 rfl
theorem IQ{p:Pt}{o:Oc}(h:BS [p] o):o=oc1 p:=by
 obtain⟨⟨⟨h1,h2⟩,h3,h4⟩,⟨h5,h6⟩,h7,h8⟩:=h;have k:∀{x y:Int},iP [x] y->y=x:=fun h=>z_.mp h.1;have k':∀{x y:Int},iR [x] y->y=x:=fun h=>z_.mp h.1;obtain⟨a,b,c,d,e,f,g,h⟩:=o;have e1:=k h1;have e2:=k' h2;have e3:=k h3;have e4:=k' h4;have e5:=k h5;have e6:=k' h6;have e7:=k h7;have e8:=k' h8;dsimp only at e1 e2 e3 e4 e5 e6 e7 e8;rw[e1,e2,e3,e4,e5,e6,e7,e8]
 rfl
theorem Jc{p q:Pt}{o:Oc}(h:BS [p,q] o):o=oc2 p q:=by
 obtain⟨⟨⟨h1,h2⟩,h3,h4⟩,⟨h5,h6⟩,h7,h8⟩:=h;have k:∀{x z y:Int},iP [x,z] y->y=min x z:=fun{x z y} h=>by have a1:=h.2 x (.head _);have a2:=h.2 z (.tail _ (.head _));have a3:=h.1;simp only[n_,LO,or_false]at a3;lia
 have k':∀{x z y:Int},iR [x,z] y->y=max x z:=fun{x z y} h=>by have a1:=h.2 x (.head _);have a2:=h.2 z (.tail _ (.head _));have a3:=h.1;simp only[n_,LO,or_false]at a3;lia
 obtain⟨a,b,c,d,e,f,g,h⟩:=o;have e1:=k h1;have e2:=k' h2;have e3:=k h3;have e4:=k' h4;have e5:=k h5;have e6:=k' h6;have e7:=k h7;have e8:=k' h8;dsimp only at e1 e2 e3 e4 e5 e6 e7 e8;rw[e1,e2,e3,e4,e5,e6,e7,e8]
 rfl
noncomputable def mkO(r k:Int)(p:Pt):Oc:=BR ⟨-r,r,-r,r,-(r+k),r+k,-(r+k),r+k⟩ (oc1 p)
noncomputable def swO(r k:Int)(p q:Pt):Oc:=BR (mkO r k (0,0)) (oc2 p q)
noncomputable def mkQ(r R x y:Int):Oc:=⟨x-r,x+r,y-r,y+r,x+y-R,x+y+R,x-y-R,x-y+R⟩
noncomputable def swQ(r R x y x' y':Int):Oc:=⟨min x x'-r,max x x'+r,min y y'-r,max y y'+r,min (x+y) (x'+y')-R,max (x+y) (x'+y')+R,min (x-y) (x'-y')-R,max (x-y) (x'-y')+R⟩
theorem lZ{r R x y x' y':Int}:swQ r R x y x' y'=swQ r R x' y' x y:=by unfold swQ;simp only[Int.min_comm,Int.max_comm]
theorem IL{r R α β:Int}(h0:1<=r)(h1:r<R)(b1:-(8*r)<=β)(b2:β<=8*r)(a1:-(8*r)<=α)(s1:-(8*R)<=α+β)(d1:-(8*R)<=α-β):∀n:Nat,α<=8*n+8*r->α+β<=8*n+8*R->α-β<=8*n+8*R->∃i:Nat,i<=n/\(-(8*r)<=α-8*i/\α-8*i<=8*r)/\(-(8*R)<=α+β-8*i/\α+β-8*i<=8*R)/\-(8*R)<=α-β-8*i/\α-β-8*i<=8*R
 |0,a2,s2,d2=>⟨0,b_ _,by lia⟩
 |n+1,a2,s2,d2=>by
  by_cases g:α<=8*n+8*r/\α+β<=8*n+8*R/\α-β<=8*n+8*R
  ·obtain⟨i,hi,k⟩:=IL h0 h1 b1 b2 a1 s1 d1 n g.1 g.2.1 g.2.2;exact⟨i,NI hi,k⟩
  exact⟨n+1,b_ _,by lia⟩
theorem Hc{r R α β:Int}(h0:1<=r)(h1:r<R)(h2:R<2*r)(c1:-(8*R)<=α-β)(c2:α-β<=8*R)(a1:-(8*r)<=α)(b1:-(8*r)<=β)(s1:-(8*R)<=α+β):∀n:Nat,α<=8*n+8*r->β<=8*n+8*r->α+β<=16*n+8*R->∃i:Nat,i<=n/\(-(8*r)<=α-8*i/\α-8*i<=8*r)/\(-(8*r)<=β-8*i/\β-8*i<=8*r)/\-(8*R)<=α+β-16*i/\α+β-16*i<=8*R
 |0,a2,b2,s2=>⟨0,b_ _,by lia⟩
 |n+1,a2,b2,s2=>by
  by_cases g:α<=8*n+8*r/\β<=8*n+8*r/\α+β<=16*n+8*R
  ·obtain⟨i,hi,k⟩:=Hc h0 h1 h2 c1 c2 a1 b1 s1 n g.1 g.2.1 g.2.2;exact⟨i,NI hi,k⟩
  exact⟨n+1,b_ _,by lia⟩
theorem iS{a:Int}{n:Nat}:(min a (a+n)=a/\max a (a+n)=a+n)/\min a (a-n)=a-n/\max a (a-n)=a:=⟨⟨OJ (by lia),NR (by lia)⟩,OC (by lia),N2 (by lia)⟩
theorem zP{r R x y:Int}{n:Nat}:swQ r R x y (x+n) y=⟨x-r,x+n+r,y-r,y+r,x+y-R,x+y+n+R,x-y-R,x-y+n+R⟩/\swQ r R x y (x+n) (y+n)=⟨x-r,x+n+r,y-r,y+n+r,x+y-R,x+y+(n+n:Nat)+R,x-y-R,x-y+R⟩/\swQ r R x y x (y+n)=⟨x-r,x+r,y-r,y+n+r,x+y-R,x+y+n+R,x-y-n-R,x-y+R⟩/\swQ r R x y (x+n) (y-n)=⟨x-r,x+n+r,y-n-r,y+r,x+y-R,x+y+R,x-y-R,x-y+(n+n:Nat)+R⟩:=by
 unfold swQ;refine⟨?_,?_,?_,?_⟩
 ·rw[show x+n+y=x+y+n by lia,show x+n-y=x-y+n by lia];simp only[iS.1.1,iS.1.2,OD,OE]
 ·rw[show x+n+(y+n)=x+y+(n+n:Nat) by lia,show x+n-(y+n)=x-y by lia];simp only[iS.1.1,iS.1.2,OD,OE]
 ·rw[show x+(y+n)=x+y+n by lia,show x-(y+n)=x-y-n by lia];simp only[iS.1.1,iS.1.2,iS.2.1,iS.2.2,OD,OE]
 rw[show x+n+(y-n)=x+y by lia,show x+n-(y-n)=x-y+(n+n:Nat) by lia];simp only[iS.1.1,iS.1.2,iS.2.1,iS.2.2,OD,OE]
theorem Kj{r R x y:Int}{n:Nat}{q:Qt}(h4:q.2.2<4)(h0:1<=r)(h1:r<R)(h2:R<2*r)(h:inL (swQ r R x y (x+n) y) q):∃i:Nat,i<=n/\inL (mkQ r R (x+i) y) q:=by rw[zP.1]at h;unfold inL at *;obtain⟨⟨⟨k1,k2⟩,k3,k4⟩,⟨k5,k6⟩,k7,k8⟩:=h;generalize 8*q.1+px q.2.2=U at *;generalize 8*q.2.1+py q.2.2=V at *;dsimp only at *;obtain⟨i,hi,⟨j1,j2⟩,⟨j3,j4⟩,j5,j6⟩:=IL (α:=U-8*x) (β:=V-8*y) h0 h1 (by lia) (by lia) (by lia) (by lia) (by lia) n (by lia) (by lia) (by lia);refine⟨i,hi,?_⟩;unfold mkQ;dsimp only;lia
theorem Jm{r R x y:Int}{n:Nat}{q:Qt}(h4:q.2.2<4)(h0:1<=r)(h1:r<R)(h2:R<2*r)(h:inL (swQ r R x y x (y+n)) q):∃i:Nat,i<=n/\inL (mkQ r R x (y+i)) q:=by rw[zP.2.2.1]at h;unfold inL at *;obtain⟨⟨⟨k1,k2⟩,k3,k4⟩,⟨k5,k6⟩,k7,k8⟩:=h;generalize 8*q.1+px q.2.2=U at *;generalize 8*q.2.1+py q.2.2=V at *;dsimp only at *;obtain⟨i,hi,⟨j1,j2⟩,⟨j3,j4⟩,j5,j6⟩:=IL (α:=V-8*y) (β:=U-8*x) h0 h1 (by lia) (by lia) (by lia) (by lia) (by lia) n (by lia) (by lia) (by lia);refine⟨i,hi,?_⟩;unfold mkQ;dsimp only;lia
theorem Km{r R x y:Int}{n:Nat}{q:Qt}(h4:q.2.2<4)(h0:1<=r)(h1:r<R)(h2:R<2*r)(h:inL (swQ r R x y (x+n) (y+n)) q):∃i:Nat,i<=n/\inL (mkQ r R (x+i) (y+i)) q:=by rw[zP.2.1]at h;unfold inL at *;obtain⟨⟨⟨k1,k2⟩,k3,k4⟩,⟨k5,k6⟩,k7,k8⟩:=h;generalize 8*q.1+px q.2.2=U at *;generalize 8*q.2.1+py q.2.2=V at *;dsimp only at *;obtain⟨i,hi,⟨j1,j2⟩,⟨j3,j4⟩,j5,j6⟩:=Hc (α:=U-8*x) (β:=V-8*y) h0 h1 h2 (by lia) (by lia) (by lia) (by lia) (by lia) n (by lia) (by lia) (by lia);refine⟨i,hi,?_⟩;unfold mkQ;dsimp only;lia
theorem Kg{r R x y:Int}{n:Nat}{q:Qt}(h4:q.2.2<4)(h0:1<=r)(h1:r<R)(h2:R<2*r)(h:inL (swQ r R x y (x+n) (y-n)) q):∃i:Nat,i<=n/\inL (mkQ r R (x+i) (y-i)) q:=by rw[zP.2.2.2]at h;unfold inL at *;obtain⟨⟨⟨k1,k2⟩,k3,k4⟩,⟨k5,k6⟩,k7,k8⟩:=h;generalize 8*q.1+px q.2.2=U at *;generalize 8*q.2.1+py q.2.2=V at *;dsimp only at *;obtain⟨i,hi,⟨j1,j2⟩,⟨j3,j4⟩,j5,j6⟩:=Hc (α:=U-8*x) (β:=8*y-V) h0 h1 h2 (by lia) (by lia) (by lia) (by lia) (by lia) n (by lia) (by lia) (by lia);refine⟨i,hi,?_⟩;unfold mkQ;dsimp only;lia
theorem btw{a e:Int}{i n:Nat}(h:i<=n):min a (a+n*e)<=a+i*e/\a+i*e<=max a (a+n*e):=by
 rcases Mr 0 e with g|g
 ·have k1:=Int.mul_nonneg (NA i) g;have k2:=Int.mul_le_mul_of_nonneg_right (PX.mpr h) g;generalize (i:Int)*e=u at *;generalize (n:Int)*e=v at *;exact⟨LC (LU _ _) (by lia),LC (by lia) (Mj _ _)⟩
 have k1:=Int.mul_nonpos_of_nonneg_of_nonpos (NA i) g;have k2:=Int.mul_le_mul_of_nonpos_right (PX.mpr h) g;generalize (i:Int)*e=u at *;generalize (n:Int)*e=v at *;exact⟨LC (Mi _ _) (by lia),LC (by lia) (LV _ _)⟩
noncomputable def Et:List (Int×Int):=[(1,0),(1,1),(0,1),(-1,1),(-1,0),(-1,-1),(0,-1),(1,-1)]
theorem Fc{a b r U:Int}(h:a<=b)(k:8*(b-r)<=U):8*(a-r)<=U:=by lia
theorem DX{a b r U:Int}(h:b<=a)(k:U<=8*(b+r)):U<=8*(a+r):=by lia
theorem En{r R x y x' y':Int}{n:Nat}{q:Qt}{d:Int×Int}(ex:x'=x+n*d.1)(ey:y'=y+n*d.2){i:Nat}(hi:i<=n)(g:inL (mkQ r R (x+i*d.1) (y+i*d.2)) q):inL (swQ r R x y x' y') q:=by have u1:=btw (a:=x) (e:=d.1) hi;have u2:=btw (a:=y) (e:=d.2) hi;have u3:=btw (a:=x+y) (e:=d.1+d.2) hi;have u4:=btw (a:=x-y) (e:=d.1-d.2) hi;rw[P9,P9,show x+y+(n*d.1+n*d.2)=x'+y' by rw[ex,ey];lia,show x+y+(i*d.1+i*d.2)=x+i*d.1+(y+i*d.2) by lia]at u3;rw[P_,P_,show x-y+(n*d.1-n*d.2)=x'-y' by rw[ex,ey];lia,show x-y+(i*d.1-i*d.2)=x+i*d.1-(y+i*d.2) by lia]at u4;rw[<-ex]at u1;rw[<-ey]at u2;obtain⟨⟨⟨k1,k2⟩,k3,k4⟩,⟨k5,k6⟩,k7,k8⟩:=g;exact⟨⟨⟨Fc u1.1 k1,DX u1.2 k2⟩,Fc u2.1 k3,DX u2.2 k4⟩,⟨Fc u3.1 k5,DX u3.2 k6⟩,Fc u4.1 k7,DX u4.2 k8⟩
theorem Iw{n:Int}:n * -1=-n/\n*1=n/\n*0=0:=⟨by lia,Pg n,Int.mul_zero n⟩
theorem H0{r R x y x' y':Int}{n:Nat}{q:Qt}(h4:q.2.2<4)(h0:1<=r)(h1:r<R)(h2:R<2*r){d:Int×Int}(hd:d∈Et)(ex:x'=x+n*d.1)(ey:y'=y+n*d.2):inL (swQ r R x y x' y') q↔∃i:Nat,i<=n/\inL (mkQ r R (x+i*d.1) (y+i*d.2)) q:=by
 constructor
 ·intro h;simp only[Et,n_,LO,or_false]at hd;have bk:∀{i:Nat},i<=n->((n-i:Nat):Int)=n-i:=fun h=>Int.ofNat_sub h;rcases hd with rfl|rfl|rfl|rfl|rfl|rfl|rfl|rfl <;> simp only[Iw,N1]at ex ey ⊢
  ·subst ex ey;exact Kj h4 h0 h1 h2 h
  ·subst ex ey;exact Km h4 h0 h1 h2 h
  ·subst ex ey;exact Jm h4 h0 h1 h2 h
  ·rw[lZ,show x=x'+n by lia,show y=y'-n by lia]at h;obtain⟨i,hi,g⟩:=Kg h4 h0 h1 h2 h;exact⟨n-i,LZ _ _,by rw[bk hi,show x + -((n:Int)-i)=x'+i by lia,show y+((n:Int)-i)=y'-i by lia];exact g⟩
  ·rw[lZ,show x=x'+n by lia,ey]at h;obtain⟨i,hi,g⟩:=Kj h4 h0 h1 h2 h;exact⟨n-i,LZ _ _,by rw[bk hi,show x + -((n:Int)-i)=x'+i by lia];exact g⟩
  ·rw[lZ,show x=x'+n by lia,show y=y'+n by lia]at h;obtain⟨i,hi,g⟩:=Km h4 h0 h1 h2 h;exact⟨n-i,LZ _ _,by rw[bk hi,show x + -((n:Int)-i)=x'+i by lia,show y + -((n:Int)-i)=y'+i by lia];exact g⟩
  ·rw[lZ,ex,show y=y'+n by lia]at h;obtain⟨i,hi,g⟩:=Jm h4 h0 h1 h2 h;exact⟨n-i,LZ _ _,by rw[bk hi,show y + -((n:Int)-i)=y'+i by lia];exact g⟩
  rw[ex,show y'=y-n by lia]at h;exact Kg h4 h0 h1 h2 h
 rintro⟨i,hi,g⟩;exact En ex ey hi g
noncomputable def stp(k:Nat):Int×Int:=Et.getD k (0,0)
noncomputable def gon(a:Pt)(k:Nat)(m:Int):Pt:=(a.1+(stp k).1*m,a.2+(stp k).2*m)
noncomputable def mny(a b:Pt):Int:=max ((b.1-a.1).natAbs:Int) ((b.2-a.2).natAbs:Int)
noncomputable def tm(a b:Pt):Option (Nat×Int):=if mny a b=0 then none else((A_ 8).find? fun k=>decide (gon a k (mny a b)=b)).map fun k=>(k,mny a b)
noncomputable def gOn(w:Pt×Pt)(c:Pt):Bool:=if c=w.2 then true else match tm w.1 c with
 |none=>false
 |some (k,m)=>match tm w.1 w.2 with
  |none=>decide (m=1)
  |some (k',m')=>decide (k=k'/\m=m'+1)
noncomputable def WOk(w:Pt×Pt):Prop:=∃k,k<8/\∃n:Nat,w.2=gon w.1 k n
noncomputable def onW(w:Pt×Pt)(p:Pt):Prop:=∃k,k<8/\∃n i:Nat,i<=n/\w.2=gon w.1 k n/\p=gon w.1 k i
theorem CI{k:Nat}(h:k<8):stp k∈Et/\-1<=(stp k).1/\(stp k).1<=1/\-1<=(stp k).2/\(stp k).2<=1/\((stp k).1=1\/(stp k).1=-1\/(stp k).2=1\/(stp k).2=-1):=by
 have:k=0\/k=1\/k=2\/k=3\/k=4\/k=5\/k=6\/k=7:=by lia
 rcases this with rfl|rfl|rfl|rfl|rfl|rfl|rfl|rfl <;> decide
theorem Fv{k k':Nat}(h:k<8)(h':k'<8)(e:stp k=stp k'):k=k':=by
 have d:∀k<8,∀k'<8,stp k=stp k'->k=k':=by decide
 exact d k h k' h' e
theorem sZ{a:Pt}{k n:Nat}(h:k<8):mny a (gon a k n)=n:=by
 have e:∀x d:Int,((x+d*n-x).natAbs:Int)=(d.natAbs:Int)*n:=fun x d=>by rw[O9,O_,Int.natAbs_mul,Int.natAbs_natCast,Int.natCast_mul]
 have c:∀k<8,((stp k).1.natAbs=1\/(stp k).1.natAbs=0/\(stp k).2.natAbs=1)/\(stp k).2.natAbs<=1:=by decide
 obtain⟨c1,c2⟩:=c k h;unfold mny gon;dsimp only;rw[e,e];rcases c1 with g|⟨g,g'⟩
 ·rw[g,OK,Pj];refine N2 ?_;rcases Nat.le_one_iff_eq_zero_or_eq_one.mp c2 with z|z <;> rw[z]
  ·rw[Po,PY];exact NA n
  rw[OK,Pj];exact LW _
 rw[g,g',Po,PY,OK,Pj];exact NR (NA n)
theorem y4{a:Pt}{k k' n n':Nat}(h:k<8)(h':k'<8)(e:gon a k n=gon a k' n'):n=n'/\(n=0\/k=k'):=by
 have e1:n=n':=by have:=sZ (a:=a) (n:=n) h;rw[e,sZ h']at this;lia
 subst e1;refine⟨rfl,?_⟩;by_cases z:n=0
 ·exact .inl z
 refine .inr (Fv h h' ?_);unfold gon at e;obtain⟨e1,e2⟩:=P8 e;have f:∀{u v:Int},u*(n:Int)=v*(n:Int)->u=v:=fun g=>Int.eq_of_mul_eq_mul_right (by lia) g
 exact Nt (f (by lia)) (f (by lia))
theorem nP{a b:Pt}{k:Nat}{m:Int}(h:tm a b=some (k,m)):k<8/\∃n:Nat,1<=n/\m=n/\b=gon a k n:=by
 unfold tm at h;split at h
 ·cases h
 rename_i z;cases e:(A_ 8).find? fun k=>decide (gon a k (mny a b)=b)with
 |none=>rw[e]at h;cases h
 |some j=>
  rw[e]at h;cases h;have h1:=List.mem_of_find?_eq_some e;have h2:decide (gon a k (mny a b)=b)=true:=List.find?_some (p:=fun k=>decide (gon a k (mny a b)=b)) e;have h2:=of_decide_eq_true h2;refine⟨Lr.mp h1,(mny a b).toNat,?_,?_,?_⟩
  ·unfold mny at *;lia
  ·unfold mny at *;lia
  rw[show((mny a b).toNat:Int)=mny a b by unfold mny at *;lia];exact h2.symm
theorem F4{a:Pt}{k n:Nat}(h:k<8)(hn:1<=n):tm a (gon a k n)=some (k,(n:Int)):=by
 have e:mny a (gon a k n)=n:=sZ h;cases s:tm a (gon a k n)with
 |some p=>
  obtain⟨k',m⟩:=p;obtain⟨h',n',h1,rfl,h2⟩:=nP s;obtain⟨rfl,z|rfl⟩:=y4 h h' h2
  ·lia
  ·rfl
 |none=>
  unfold tm at s;rw[if_neg (by rw[e];lia),Option.map_eq_none_iff,List.find?_eq_none]at s;have:=s k (Lr.mpr h);rw[e]at this;simp at this
theorem iG{w:Pt×Pt}{k n:Nat}(h:k<8)(e:w.2=gon w.1 k n){p:Pt}:onW w p↔∃i:Nat,i<=n/\p=gon w.1 k i:=by
 constructor
 ·rintro⟨k',h',n',i,hi,e',rfl⟩;obtain⟨rfl,z|rfl⟩:=y4 h h' (e.symm.trans e')
  ·have:i=0:=by lia
   subst this;exact⟨0,B_ _,by unfold gon;simp⟩
  exact⟨i,hi,rfl⟩
 rintro⟨i,hi,rfl⟩;exact⟨k,h,n,i,hi,e,rfl⟩
theorem xY{c:Pt}:WOk (c,c)/\∀p,onW (c,c) p↔p=c:=by
 have e:c=gon c 0 (0:Nat):=by unfold gon;simp
 refine⟨⟨0,by decide,0,e⟩,fun p=>?_⟩;rw[iG (w:=(c,c)) (k:=0) (n:=0) (by decide) e];constructor
 ·rintro⟨i,hi,rfl⟩;rw[Nat.le_zero.mp hi];exact e.symm
 rintro rfl;exact⟨0,b_ _,e⟩
theorem GB{w:Pt×Pt}{c:Pt}(hw:WOk w)(h:gOn w c=true):WOk (w.1,c)/\∀p,onW (w.1,c) p↔onW w p\/p=c:=by
 obtain⟨k,hk,n,e⟩:=hw;unfold gOn at h;split at h
 ·rename_i z;subst z;refine⟨⟨k,hk,n,e⟩,fun p=>⟨.inl,?_⟩⟩;rintro(g|rfl)
  ·exact g
  exact(iG hk e).mpr ⟨n,b_ _,e⟩
 rename_i z;have step:∀{k' n':Nat},k'<8->w.2=gon w.1 k' n'->c=gon w.1 k' (n'+1:Nat)->WOk (w.1,c)/\∀p,onW (w.1,c) p↔onW w p\/p=c:=by
  intro k' n' h' e' ec;refine⟨⟨k',h',n'+1,ec⟩,fun p=>?_⟩;rw[iG (w:=(w.1,c)) h' ec,iG h' e'];constructor
  ·rintro⟨i,hi,rfl⟩;by_cases g:i<=n'
   ·exact .inl ⟨i,g,rfl⟩
   have:i=n'+1:=by lia
   subst this;exact .inr ec.symm
  rintro(⟨i,hi,rfl⟩|rfl)
  ·exact⟨i,by lia,rfl⟩
  exact⟨n'+1,b_ _,ec⟩
 split at h
 ·cases h
 rename_i k1 m1 s1;obtain⟨h1,n1,g1,rfl,e1⟩:=nP s1;split at h
 ·rename_i s2;have hm:=of_decide_eq_true h;have n0:n=0:=by
   by_cases q:n=0
   ·exact q
   rw[e,F4 hk (by lia)]at s2;cases s2
  subst n0;refine step h1 (n':=0) (by rw[e];unfold gon;simp) ?_;rw[e1,show n1=0+1 by lia]
 rename_i k2 m2 s2;obtain⟨h2,n2,g2,rfl,e2⟩:=nP s2;obtain⟨rfl,hm⟩:=of_decide_eq_true h;refine step h2 e2 ?_;rw[e1,show n1=n2+1 by lia]
theorem Cb{r R:Int}{w:Pt×Pt}{q:Qt}(h4:q.2.2<4)(h0:1<=r)(h1:r<R)(h2:R<2*r)(hw:WOk w):inL (swQ r R w.1.1 w.1.2 w.2.1 w.2.2) q↔∃p,onW w p/\inL (mkQ r R p.1 p.2) q:=by
 obtain⟨k,hk,n,e⟩:=hw;rw[H0 (n:=n) h4 h0 h1 h2 (CI hk).1 (by rw[e,M'];rfl) (by rw[e,M'];rfl)];constructor
 ·rintro⟨i,hi,g⟩;refine⟨gon w.1 k i,(iG hk e).mpr ⟨i,hi,rfl⟩,?_⟩;unfold gon;rw[M' (stp k).1,M' (stp k).2];exact g
 rintro⟨p,hp,g⟩;obtain⟨i,hi,rfl⟩:=(iG hk e).mp hp;refine⟨i,hi,?_⟩;unfold gon at g;rw[M' (stp k).1,M' (stp k).2]at g;exact g
noncomputable def wy1(l:Int)(cz:Pt×Int)(s:List (Pt×Pt)×Bool):List (Pt×Pt)×Bool:=if cz.2<=l then(s.1,false)else match s.1 with
 | []=>([(cz.1,cz.1)],true)
 |w::W=>if s.2&&gOn w cz.1 then((w.1,cz.1)::W,true)else((cz.1,cz.1)::w::W,true)
noncomputable def wys(l:Int):List (Pt×Int)->List (Pt×Pt)×Bool->List (Pt×Pt)×Bool
 | [],s=>s
 |cz::ps,s=>wys l ps (wy1 l cz s)
noncomputable def onU(W:List (Pt×Pt))(p:Pt):Prop:=∃w∈W,onW w p
theorem tN{l:Int}:∀{ps:List (Pt×Int)}{W:List (Pt×Pt)}{b:Bool},(∀w∈W,WOk w)->(∀w∈(wys l ps (W,b)).1,WOk w)/\(∀p,onU (wys l ps (W,b)).1 p↔onU W p\/∃z,(p,z)∈ps/\l<z)/\(wys l ps (W,b)).1.length<=W.length+ps.length
 | [],W,b,h=>⟨h,fun p=>⟨.inl,fun g=>g.elim id fun⟨z,m,_⟩=>by cases m⟩,b_ _⟩
 | (c,z)::ps,W,b,h=>by
  rw[wys,wy1];dsimp only;have add:∀{W2:List (Pt×Pt)}{b2:Bool},(∀w∈W2,WOk w)->(∀p,onU W2 p↔onU W p\/p=c/\l<z)->W2.length<=W.length+1->(∀w∈(wys l ps (W2,b2)).1,WOk w)/\(∀p,onU (wys l ps (W2,b2)).1 p↔onU W p\/∃z',(p,z')∈(c,z)::ps/\l<z')/\(wys l ps (W2,b2)).1.length<=W.length+(ps.length+1):=by
   intro W2 b2 a1 a2 a3;obtain⟨i1,i2,i3⟩:=tN (l:=l) (ps:=ps) (W:=W2) (b:=b2) a1;refine⟨i1,fun p=>?_,by lia⟩;rw[i2 p,a2 p,or_assoc];refine or_congr_right ⟨?_,?_⟩
   ·rintro(⟨rfl,hz⟩|⟨z',m,hz⟩)
    ·exact⟨z,p_,hz⟩
    exact⟨z',l_ _ m,hz⟩
   rintro⟨z',m,hz⟩;rcases n_.mp m with e|m
   ·cases e;exact .inl ⟨rfl,hz⟩
   exact .inr ⟨z',m,hz⟩
  have cons:∀{v:Pt×Pt}{V:List (Pt×Pt)}{p:Pt},onU (v::V) p↔onW v p\/onU V p:=by intro v V p;unfold onU;simp only[n_,exists_eq_or_imp]
  by_cases g:z<=l
  ·rw[if_pos g];exact add h (fun p=>⟨.inl,fun q=>q.elim id fun⟨_,hz⟩=>absurd hz (by lia)⟩) (by lia)
  rw[if_neg g];have new:(∀w∈(c,c)::W,WOk w)/\∀p,onU ((c,c)::W) p↔onU W p\/p=c/\l<z:=by refine⟨fun w m=>(n_.mp m).elim (fun e=>e▸xY.1) (h w),fun p=>?_⟩;rw[cons,xY.2,or_comm];exact or_congr_right ⟨fun e=>⟨e,by lia⟩,fun e=>e.1⟩
  cases W with
  |nil=>exact add new.1 new.2 (b_ _)
  |cons w W'=>
   show _/\_;dsimp only;by_cases gb:(b&&gOn w c)=true
   ·rw[if_pos gb];rw[Lz]at gb;obtain⟨k1,k2⟩:=GB (h w p_) gb.2;refine add (fun v m=>(n_.mp m).elim (fun e=>e▸k1) fun m=>h v (l_ _ m)) (fun p=>?_) (by rw[h_,h_];lia);rw[cons,cons,k2];constructor
    ·rintro((q|rfl)|q)
     ·exact .inl (.inl q)
     ·exact .inr ⟨rfl,by lia⟩
     exact .inl (.inr q)
    rintro((q|q)|⟨rfl,_⟩)
    ·exact .inl (.inl q)
    ·exact .inr q
    exact .inl (.inr rfl)
   rw[if_neg gb];exact add new.1 new.2 (b_ _)
theorem mxn{a b c d:Int}:(max a b+min c d<=max (a+c) (b+d)/\min (a+c) (b+d)<=min a b+max c d)/\min (a-c) (b-d)+min c d<=min a b/\max a b<=max (a-c) (b-d)+max c d:=by
 refine⟨⟨?_,?_⟩,?_,?_⟩
 ·rcases Mr a b with h|h
  ·rw[NR h];exact LC (Nn (Mi _ _) _) (Mj _ _)
  rw[N2 h];exact LC (Nn (LU _ _) _) (LV _ _)
 ·rcases Mr a b with h|h
  ·rw[OJ h];exact LC (LU _ _) (Nn (LV _ _) _)
  rw[OC h];exact LC (Mi _ _) (Nn (Mj _ _) _)
 ·refine PJ.mpr ⟨?_,?_⟩
  ·have:=MD (LU (a-c) (b-d)) (LU c d);rwa[NB]at this
  have:=MD (Mi (a-c) (b-d)) (Mi c d);rwa[NB]at this
 refine Ou.mpr ⟨?_,?_⟩
 ·have:=MD (LV (a-c) (b-d)) (LV c d);rwa[NB]at this
 have:=MD (Mj (a-c) (b-d)) (Mj c d);rwa[NB]at this
theorem mm{a b:Int}:min a b<=max a b:=LC (LU _ _) (LV _ _)
theorem Ji{r R:Int}{w:Pt×Pt}(h0:1<=r)(h1:r<R)(h2:R<2*r):Vo (swQ r R w.1.1 w.1.2 w.2.1 w.2.2):=by
 unfold Vo swQ;dsimp only;generalize w.1.1=x;generalize w.1.2=y;generalize w.2.1=x';generalize w.2.2=y';have m1:=mm (a:=x) (b:=x');have m2:=mm (a:=y) (b:=y');have m3:=mm (a:=x+y) (b:=x'+y');have m4:=mm (a:=x-y) (b:=x'-y');obtain⟨⟨n1,n2⟩,n3,n4⟩:=mxn (a:=x) (b:=x') (c:=y) (d:=y');have n5:min (x+y) (x'+y')+min (x-y) (x'-y')<=2*min x x':=by
  rcases Mr x x' with h|h
  ·have:=MD (LU (x+y) (x'+y')) (LU (x-y) (x'-y'));rw[OJ h];lia
  have:=MD (Mi (x+y) (x'+y')) (Mi (x-y) (x'-y'));rw[OC h];lia
 have n6:2*max x x'<=max (x+y) (x'+y')+max (x-y) (x'-y'):=by
  rcases Mr x x' with h|h
  ·have:=MD (Mj (x+y) (x'+y')) (Mj (x-y) (x'-y'));rw[NR h];lia
  have:=MD (LV (x+y) (x'+y')) (LV (x-y) (x'-y'));rw[N2 h];lia
 generalize min x x'=a1 at *;generalize max x x'=a2 at *;generalize min y y'=a3 at *;generalize max y y'=a4 at *;generalize min (x+y) (x'+y')=a5 at *;generalize max (x+y) (x'+y')=a6 at *;generalize min (x-y) (x'-y')=a7 at *;generalize max (x-y) (x'-y')=a8 at *;clear x y x' y';refine⟨⟨?_,?_⟩,⟨?_,?_⟩,⟨?_,?_⟩,⟨?_,?_⟩,?_,?_⟩ <;> lia
theorem JF{r R B C:Int}{w:Pt×Pt}(h1:-C<=w.1.1/\w.1.1<=C/\-C<=w.1.2/\w.1.2<=C)(h2:-C<=w.2.1/\w.2.1<=C/\-C<=w.2.2/\w.2.2<=C)(h:C+r<=B):Bd B (swQ r R w.1.1 w.1.2 w.2.1 w.2.2):=by unfold Bd swQ;dsimp only;lia
inductive Od where
 |tk (i:Nat)
 |ov (hi:Bool) (x y:Int)
 |ct (ps:List (Pt×Int))
noncomputable def wls(l:Int):List Od->Nat->List (Nat×Pt×Pt)
 | [],_=>[]
 | .tk i::P,_=>wls l P i
 | .ov _ _ _::P,t=>wls l P t
 | .ct ps::P,t=>((wys l ps ([],false)).1.reverse.map fun w=>(t,w))++wls l P t
noncomputable def sps(l:Int):List Od->Nat->List (Nat×Pt)
 | [],_=>[]
 | .tk i::P,_=>sps l P i
 | .ov _ _ _::P,t=>sps l P t
 | .ct ps::P,t=>((ps.filter fun p=>decide (l<p.2)).map fun p=>(t,p.1))++sps l P t
theorem pB{l:Int}:∀{P:List Od}{t:Nat},(∀v∈wls l P t,WOk v.2)/\∀i p,(∃v∈wls l P t,v.1=i/\onW v.2 p)↔(i,p)∈sps l P t
 | [],t=>⟨(fun v m=>by cases m),fun i p=>⟨(fun⟨v,m,_⟩=>by cases m),fun m=>by cases m⟩⟩
 | .tk i::P,t=>pB (P:=P) (t:=i)
 | .ov _ _ _::P,t=>pB (P:=P) (t:=t)
 | .ct ps::P,t=>by
  obtain⟨a1,a2⟩:=pB (l:=l) (P:=P) (t:=t);obtain⟨b1,b2,_⟩:=tN (l:=l) (ps:=ps) (W:=[]) (b:=false) fun w m=>by cases m
  rw[wls,sps];refine⟨fun v m=>?_,fun i p=>?_⟩
  ·rcases v_.mp m with m|m
   ·obtain⟨w,mw,rfl⟩:=t_.mp m;exact b1 w (MO.mp mw)
   exact a1 v m
  rw[v_,<-a2 i p];constructor
  ·rintro⟨v,m,rfl,h⟩;rcases v_.mp m with m|m
   ·obtain⟨w,mw,rfl⟩:=t_.mp m;obtain u|⟨z,mz,hz⟩:=(b2 p).mp ⟨w,MO.mp mw,h⟩
    ·obtain⟨_,z,_⟩:=u;cases z
    exact .inl (t_.mpr ⟨(p,z),J_.mpr ⟨mz,decide_eq_true hz⟩,rfl⟩)
   exact .inr ⟨v,m,rfl,h⟩
  rintro(m|⟨v,m,rfl,h⟩)
  ·obtain⟨⟨c,z⟩,mc,e⟩:=t_.mp m;cases e;obtain⟨m1,m2⟩:=J_.mp mc;obtain⟨w,mw,h⟩:=(b2 c).mpr (.inr ⟨z,m1,of_decide_eq_true m2⟩);exact⟨_,w_ _ (t_.mpr ⟨w,MO.mpr mw,rfl⟩),rfl,h⟩
  exact⟨v,o_ _ m,rfl,h⟩
noncomputable def DV(t:Int×Int):Prop:=1<=t.1/\t.1<t.2/\t.2<2*t.1
noncomputable def swT(t:Int×Int)(w:Pt×Pt):Oc:=swQ t.1 t.2 w.1.1 w.1.2 w.2.1 w.2.2
noncomputable def mkT(t:Int×Int)(p:Pt):Oc:=mkQ t.1 t.2 p.1 p.2
theorem Ij{l:Int}{P:List Od}{t:Nat}{T:Nat->Int×Int}{os:List Oc}(ho:∀o,o∈os↔∃v∈wls l P t,o=swT (T v.1) v.2)(ht:∀v∈sps l P t,DV (T v.1)){q:Qt}(h4:q.2.2<4):inU os q↔∃v∈sps l P t,inL (mkT (T v.1) v.2) q:=by
 obtain⟨a1,a2⟩:=pB (l:=l) (P:=P) (t:=t);have tl:∀v∈wls l P t,DV (T v.1):=fun v m=>by obtain⟨k,hk,n,e⟩:=a1 v m;exact ht (v.1,v.2.1) ((a2 _ _).mp ⟨v,m,rfl,(iG hk e).mpr ⟨0,B_ _,by unfold gon;simp⟩⟩)
 constructor
 ·rintro⟨o,mo,h⟩;obtain⟨v,mv,rfl⟩:=(ho o).mp mo;obtain⟨k0,k1,k2⟩:=tl v mv;obtain⟨p,hp,g⟩:=(Cb h4 k0 k1 k2 (a1 v mv)).mp h;exact⟨(v.1,p),(a2 _ _).mp ⟨v,mv,rfl,hp⟩,g⟩
 rintro⟨⟨i,p⟩,m,g⟩;obtain⟨v,mv,rfl,hp⟩:=(a2 i p).mpr m;obtain⟨k0,k1,k2⟩:=tl v mv;exact⟨_,(ho _).mpr ⟨v,mv,rfl⟩,(Cb h4 k0 k1 k2 (a1 v mv)).mpr ⟨p,hp,g⟩⟩
abbrev Ed:=Pt×Pt
noncomputable def edT(e:Ed):T:=.tup [ptP e.1,ptP e.2]
theorem lq{e:Ed}:er (edT e)=edT e:=rfl
theorem dR{e:Ed}:bO (edT e)=true:=rfl
theorem cU{e:Ed}:aP (edT e)=true:=rfl
theorem dv{e:Ed}:isAny (edT e)=false:=rfl
theorem gn{e:Ed}{k:T->Prop}:ixT (edT e) (.int 0) k=k (ptP e.1):=rfl
theorem ik{e:Ed}{k:T->Prop}:ixT (edT e) (.int 1) k=k (ptP e.2):=rfl
theorem rV{p q:Pt}:tm p q=(lead p q).map fun d=>(d,far p q):=by
 unfold tm lead;by_cases h:far p q=0
 ·rw[if_pos h,if_pos (show mny p q=0 from h)];rfl
 rw[if_neg h,if_neg (show ¬mny p q=0 from h)];rfl
theorem AX{w:Pt×Pt}{c:Pt}(h:¬c=w.2):gOn w c=match lead w.1 c with
 |none=>false
 |some d=>match lead w.1 w.2 with
  |none=>decide (far w.1 c=1)
  |some d'=>decide (d=d'/\far w.1 c=far w.1 w.2+1):=by
 unfold gOn;rw[if_neg h,rV,rV];cases lead w.1 c with
 |none=>rfl
 |some d=>cases lead w.1 w.2 <;> rfl
theorem uT{α:Type}{L:α}{Ls:List α}{g:α->T}:atI ((L::Ls).reverse.map g) (-1)=some (g L):=by
 unfold atI ixN;rw[if_neg (by decide),if_pos (by rw[a_,Lx,h_];lia)];show(I_ g (L::Ls).reverse)[_]?=_;rw[D_,show(-1+(((L::Ls).reverse.map g).length:Int)).toNat=Ls.reverse.length by rw[a_,Lx,h_,Lx];lia,M5,List.getElem?_concat_length]
 rfl
section
variable{α:Type}{ρ:α->List Int}
noncomputable def dG(ρ:α->List Int)(l:List α):List (List Key×T):=l.map fun a=>(kI (ρ a),T.bl true)
noncomputable def o7(ρ:α->List Int)(l:List α)(a:α):List α:=if ρ a∈l.map ρ then l else l++[a]
noncomputable def cv(ρ:α->List Int)(l:List α):List α->List α
 | []=>l
 |a::r=>cv ρ (o7 ρ l a) r
theorem t7{l:List α}{a:α}:nu (dG ρ l) (kI (ρ a)) (.bl true)=dG ρ (o7 ρ l a):=by
 unfold nu dG o7;by_cases m:ρ a∈l.map ρ
 ·rw[if_pos m,if_pos]
  ·rw[B'];refine Mo fun r mr=>?_;show(if kI (ρ r)=kI (ρ a)then(kI (ρ r),T.bl true)else(kI (ρ r),T.bl true))=_;split <;> rfl
  obtain⟨b,mb,e⟩:=t_.mp m;exact MR.mpr ⟨_,t_.mpr ⟨b,mb,rfl⟩,decide_eq_true (congrArg kI e)⟩
 rw[if_neg m,if_neg]
 ·rw[q_]
  rfl
 intro g;obtain⟨kv,mk,e⟩:=MR.mp g;obtain⟨b,mb,rfl⟩:=t_.mp mk;exact m (HH (of_decide_eq_true e)▸LG mb)
theorem nO(l:List α):(dG ρ l).length=l.length:=a_ ..
theorem kx(l:List α):erT (dG ρ l)=dG ρ l:=by
 unfold dG;induction l with
 |nil=>rfl
 |cons a l ih=>rw[g_,erT,ih];rfl
theorem d3(l:List α):nr (dG ρ l)=true:=by
 unfold dG;induction l with
 |nil=>rfl
 |cons a l ih=>rw[g_,nr,ih];rfl
theorem eM(l:List α):oF (dG ρ l)=true:=by
 unfold dG;induction l with
 |nil=>rfl
 |cons a l ih=>rw[g_,oF,ih];rfl
theorem HP(r:List Int):kyT (kI r)=iT r:=by
 unfold kyT kI iT;rw[B']
 rfl
theorem pq(l:List α):(dG ρ l).map (fun p=>kyT p.1)=l.map fun a=>iT (ρ a):=by unfold dG;rw[B'];exact Mo fun a _=>HP _
variable(inj:∀a b,ρ a=ρ b->a=b)
include inj
theorem D6{l:List α}{a x:α}:x∈o7 ρ l a↔x∈l\/x=a:=by
 unfold o7;by_cases m:ρ a∈l.map ρ
 ·rw[if_pos m];obtain⟨b,mb,e⟩:=t_.mp m;cases inj _ _ e;exact⟨.inl,fun h=>h.elim id fun e=>e▸mb⟩
 rw[if_neg m,v_,z_]
theorem Ej{l:List α}{a:α}(h:l.Nodup):(o7 ρ l a).Nodup:=by
 unfold o7;by_cases m:ρ a∈l.map ρ
 ·rw[if_pos m];exact h
 rw[if_neg m,Mn];exact⟨h,F'.mpr ⟨(nomatch ·),Mk⟩,fun b hb c hc e=>by rw[z_.mp hc]at e;exact m (e▸LG hb)⟩
theorem fB:∀{r l:List α}{x:α},x∈cv ρ l r↔x∈l\/x∈r
 | [],_,x=>⟨.inl,fun h=>h.elim id (nomatch ·)⟩
 |a::r,l,x=>by rw[cv,fB,D6 inj,n_,or_assoc]
theorem tG:∀{r l:List α},l.Nodup->(cv ρ l r).Nodup
 | [],_,h=>h
 |a::r,l,h=>tG (r:=r) (Ej inj h)
omit inj
theorem Bi{l:List α}{a:α}(h:ρ a ∉ l.map ρ):o7 ρ l a=l++[a]:=if_neg h
theorem Bc{l:List α}{a:α}:(o7 ρ l a).length<=l.length+1:=by
 unfold o7;by_cases m:ρ a∈l.map ρ
 ·rw[if_pos m];lia
 rw[if_neg m,f'];exact b_ _
theorem dE:∀{r l:List α},(cv ρ l r).length<=l.length+r.length
 | [],_=>b_ _
 |a::r,l=>by have h1:=dE (r:=r) (l:=o7 ρ l a);have h2:=Bc (ρ:=ρ) (l:=l) (a:=a);rw[cv,h_];lia
theorem fD:∀{r l s:List α},cv ρ l (r++s)=cv ρ (cv ρ l r) s
 | [],_,_=>rfl
 |a::r,l,s=>fD (r:=r) (l:=o7 ρ l a)
theorem rG{l r:List α}{i:Nat}{a:α}(h:r[i]?=some a):cv ρ l (r.take (i+1))=o7 ρ (cv ρ l (r.take i)) a:=by
 rw[LL,h,fD]
 rfl
end
noncomputable def cD(q:Qt):List Int:=[q.1,q.2.1,(q.2.2:Int)]
theorem qf(q r:Qt)(h:cD q=cD r):q=r:=by unfold cD at h;simp only[Mw,and_true]at h;exact Nt h.1 (Nt h.2.1 (by have:=h.2.2;lia))
noncomputable def fG(v:Nat×Pt):List Int:=[(v.1:Int),v.2.1,v.2.2]
theorem qJ(v w:Nat×Pt)(h:fG v=fG w):v=w:=by unfold fG at h;simp only[Mw,and_true]at h;exact Nt (by have:=h.1;lia) (Nt h.2.1 h.2.2)
theorem yn(o p:Oc)(h:ocL o=ocL p):o=p:=by
 obtain⟨a,b,c,d,e,f,g,i⟩:=o;unfold ocL at h;simp only[Mw,and_true]at h;obtain⟨h1,h2,h3,h4,h5,h6,h7,h8⟩:=h;subst h1 h2 h3 h4 h5 h6 h7 h8
 rfl
theorem xU(v:Nat×Pt):iT (fG v)=.tup [.int (v.1:Int),.int v.2.1,.int v.2.2]:=rfl
theorem x4(q:Qt):iT (cD q)=.tup [.int q.1,.int q.2.1,.int (q.2.2:Int)]:=rfl
theorem gB{kvs:List (List Key×T)}{o:Oc}{t:T}{k:T->Prop}:uX (.dT true kvs) (ocT o) t k=uX (.dT true kvs) (.tup [.int o.a,.int o.b,.int o.c,.int o.d,.int o.e,.int o.f,.int o.g,.int o.h]) t k:=rfl
abbrev Tl:=Int×Int×Int×Int×Int
noncomputable def sqB(b u:Bool)(ts:List T):T:=if b then .lst u ts else .tup ts
theorem iM{b u:Bool}{ts:List T}:er (sqB b u ts)=sqB b false (erL ts):=by cases b <;> rfl
theorem cX{b u:Bool}{ts:List T}:items (sqB b u ts)=some ts:=by cases b <;> rfl
theorem cf{b u:Bool}{ts:List T}:isAny (sqB b u ts)=false:=by cases b <;> rfl
theorem cc{b:Bool}{ts:List T}:aP (sqB b false ts)=bD ts:=by cases b <;> simp only[sqB,aP,N7,Mt,if_true,if_false,Kk]
theorem dD{u:Bool}{ts:List T}:bO (sqB false u ts)=cp ts:=rfl
theorem kj{b u:Bool}{ts:List T}{i:Int}{k:T->Prop}:ixT (sqB b u ts) (.int i) k=dg (atI ts i) (k:=⟨k⟩):=by cases b <;> rfl
noncomputable def tvT(b u:Bool)(t:Tl):T:=sqB b u [.int t.1,.int t.2.1,.int t.2.2.1,.int t.2.2.2.1,.int t.2.2.2.2]
noncomputable def tlO(t:Tl):Prop:=2<=t.1/\t.1<=6/\1<=t.2.1/\t.2.1<t.1
noncomputable def tR(tl:List Tl)(i:Nat):Int×Int:=((tl.getD i (0,0,0,0,0)).1,(tl.getD i (0,0,0,0,0)).1+(tl.getD i (0,0,0,0,0)).2.1)
theorem kX{b u:Bool}{t:Tl}:er (tvT b u t)=tvT b false t:=iM
theorem d9{b u:Bool}{t:Tl}:isAny (tvT b u t)=false:=cf
theorem dm{b:Bool}{t:Tl}:aP (tvT b false t)=true:=cc
theorem eW{u:Bool}{t:Tl}:bO (tvT false u t)=true:=rfl
theorem h9{b u:Bool}{t:Tl}{k:T->Prop}:ixT (tvT b u t) (.int 0) k=k (.int t.1):=by cases b <;> rfl
theorem hX{b u:Bool}{t:Tl}{k:T->Prop}:ixT (tvT b u t) (.int 1) k=k (.int t.2.1):=by cases b <;> rfl
abbrev Plc:=Pt×Int
noncomputable def plT(p:Plc):T:=.tup [.int p.1.1,.int p.1.2,.int p.2]
theorem gK{p:Plc}:er (plT p)=plT p:=rfl
theorem cG{p:Plc}:aP (plT p)=true:=rfl
theorem cH{p:Plc}:bO (plT p)=true:=rfl
noncomputable def hS(h:Bool):Str:=if h then "high" else "low"
noncomputable def odT(b u:Bool):Od->T
 | .tk i=>sqB b u [.str "take",.int (i:Int)]
 | .ov h x y=>sqB b u [.str "over",.str (hS h),.int x,.int y]
 | .ct ps=>sqB b u [.str "cut",sqB b u (ps.map plT)]
theorem sQ{b u:Bool}{i:Nat}:odT b u (.tk i)=sqB b u [.str "take",.int (i:Int)]:=rfl
theorem tY{b u h:Bool}{x y:Int}:odT b u (.ov h x y)=sqB b u [.str "over",.str (hS h),.int x,.int y]:=rfl
theorem sP{b u:Bool}{ps:List Plc}:odT b u (.ct ps)=sqB b u [.str "cut",sqB b u (ps.map plT)]:=rfl
theorem lC{b u:Bool}{o:Od}:er (odT b u o)=odT b false o:=by cases o <;> simp only[odT,iM,er,erL,cg,gK]
theorem Au{b u:Bool}{o:Od}:isAny (odT b u o)=false:=by cases o <;> exact cf
theorem cS{b:Bool}{o:Od}:aP (odT b false o)=true:=by cases o <;> simp only[odT,cc,aP,bD,bT,cG,dM,Mt,NM]
theorem eT{u:Bool}{o:Od}:bO (odT false u o)=true:=by cases o <;> simp only[odT,dD,bO,cp,bq,cH,dM,Mt,NM]
theorem xG:(("over":Str)="take")=False:=by decide +kernel
theorem xK:(("cut":Str)="take")=False:=by decide +kernel
theorem xy:(("over":Str)="cut")=False:=by decide +kernel
theorem xc:(("take":Str)="cut")=False:=by decide +kernel
noncomputable def tlA:List Od->Nat->Nat
 | [],t=>t
 | .tk i::P,_=>tlA P i
 | .ov _ _ _::P,t=>tlA P t
 | .ct _::P,t=>tlA P t
theorem jD{l:Int}{Q:List Od}:∀{P:List Od}{t:Nat},wls l (P++Q) t=wls l P t++wls l Q (tlA P t)/\sps l (P++Q) t=sps l P t++sps l Q (tlA P t)/\tlA (P++Q) t=tlA Q (tlA P t)
 | [],t=>⟨rfl,rfl,rfl⟩
 | .tk i::P,t=>jD (P:=P) (t:=i)
 | .ov _ _ _::P,t=>jD (P:=P) (t:=t)
 | .ct ps::P,t=>by
  obtain⟨h1,h2,h3⟩:=jD (l:=l) (Q:=Q) (P:=P) (t:=t);refine⟨?_,?_,h3⟩
  ·show _++wls l (P++Q) t=(_++wls l P t)++_;rw[h1,k_]
   rfl
  show _++sps l (P++Q) t=(_++sps l P t)++_;rw[h2,k_]
  rfl
noncomputable def Ia:Od->Nat
 | .ct ps=>ps.length
 | _=>0
noncomputable def nPl(P:List Od):Nat:=(P.map Ia).sum
theorem oR{l:Int}:∀{P:List Od}{t:Nat},(wls l P t).length<=nPl P
 | [],t=>b_ _
 | .tk i::P,t=>by have:=oR (l:=l) (P:=P) (t:=i);show(wls l P i).length<=_;unfold nPl at *;rw[g_,Mu];lia
 | .ov _ _ _::P,t=>by have:=oR (l:=l) (P:=P) (t:=t);show(wls l P t).length<=_;unfold nPl at *;rw[g_,Mu];lia
 | .ct ps::P,t=>by have:=oR (l:=l) (P:=P) (t:=t);have:=(tN (l:=l) (ps:=ps) (W:=[]) (b:=false) fun w m=>by cases m).2.2;unfold nPl at *;rw[wls,f',a_,Lx,g_,Mu];show _<=ps.length+_;rw[LR]at this;lia
theorem mC{l:Int}:∀{P:List Od}{t:Nat},(sps l P t).length<=nPl P
 | [],t=>b_ _
 | .tk i::P,t=>by have:=mC (l:=l) (P:=P) (t:=i);show(sps l P i).length<=_;unfold nPl at *;rw[g_,Mu];lia
 | .ov _ _ _::P,t=>by have:=mC (l:=l) (P:=P) (t:=t);show(sps l P t).length<=_;unfold nPl at *;rw[g_,Mu];lia
 | .ct ps::P,t=>by have:=mC (l:=l) (P:=P) (t:=t);unfold nPl at *;rw[sps,f',a_,g_,Mu];exact Nat.add_le_add (LQ _ _) this
noncomputable def Hk(m:Nat)(C:Int):Od->Prop
 | .tk i=>i<m
 | .ov _ _ _=>True
 | .ct ps=>∀p∈ps,(-C<=p.1.1/\p.1.1<=C)/\-C<=p.1.2/\p.1.2<=C
noncomputable def OkP(m:Nat)(C:Int)(N:Nat)(P:List Od):Prop:=(∀o,P[0]?=some o->∃i,o=.tk i)/\P.length<=300/\nPl P<=N/\∀o∈P,Hk m C o
theorem sw_eq{r k:Int}{p q:Pt}:swO r k p q=swT (r,r+k) (p,q):=by unfold swO mkO BR oc1 oc2 swT swQ;dsimp only;congr 1 <;> lia
theorem Ka{b u:Bool}{tl:List Tl}{j:Nat}(h:j<tl.length):atI (tl.map (tvT b u)) (j:Int)=some (tvT b u (tl.getD j (0,0,0,0,0))):=by
 refine cK ?_;rw[D_,c_ h,LB,c_ h]
 rfl
noncomputable def cj(l:Int)(tl:List Tl)(P:List Od):List Oc:=cv ocL [] ((wls l P 0).map fun v=>swT (tR tl v.1) v.2)
theorem mB{l:Int}{tl:List Tl}{P:List Od}{o:Oc}:o∈cj l tl P↔∃v∈wls l P 0,o=swT (tR tl v.1) v.2:=by unfold cj;rw[fB yn,t_];exact⟨fun h=>h.elim (nomatch ·) fun⟨v,m,e⟩=>⟨v,m,e.symm⟩,fun⟨v,m,e⟩=>.inr ⟨v,m,e.symm⟩⟩
theorem pxy{s:Nat}(h:s<4):(0<px s/\px s<8)/\0<py s/\py s<8:=by
 match s,h with
 |0,_=>decide
 |1,_=>decide
 |2,_=>decide
 |3,_=>decide
noncomputable def edL:List (List Pt):=[[(1,0),(1,1)],[(0,1),(1,1)],[(0,0),(0,1)],[(0,0),(1,0)]]
noncomputable def ptM(q:Qt):List Pt:=(2*q.1+1,2*q.2.1+1)::(edL.getD q.2.2 []).map fun e=>(2*(q.1+e.1),2*(q.2.1+e.2))
noncomputable def inM(R:Int)(q:Qt):Bool:=(ptM q).all fun p=>decide ((p.1.natAbs:Int)+p.2.natAbs<=2*R)
theorem zI{s:Nat}(h:s<4):atI [T.lst true [.tup [.int 1,.int 0],.tup [.int 1,.int 1]],.lst true [.tup [.int 0,.int 1],.tup [.int 1,.int 1]],.lst true [.tup [.int 0,.int 0],.tup [.int 0,.int 1]],.lst true [.tup [.int 0,.int 0],.tup [.int 1,.int 0]]] (s:Int)=some (.lst true ((edL.getD s []).map ptP))/\(edL.getD s []).length=2:=by
 match s,h with
 |0,_=>exact⟨rfl,rfl⟩
 |1,_=>exact⟨rfl,rfl⟩
 |2,_=>exact⟨rfl,rfl⟩
 |3,_=>exact⟨rfl,rfl⟩
theorem oj{α:Type}(f:α->Bool)(l:List α):boolsOf (l.map fun x=>T.bl (f x))=some (l.map f):=by
 induction l with
 |nil=>rfl
 |cons x l ih=>rw[g_,boolsOf,ih];rfl
instance (o:Oc) (q:Qt):Decidable (inL o q):=by unfold inL;infer_instance
theorem F7:∀r∈[(2:Int),3,4,5,6],∀k∈[(1:Int),2,3,4,5],∀x∈A_ 12,∀y∈A_ 12,∀s∈A_ 4,(((-6+(x:Int),-6+(y:Int),s):Qt) |> fun q=>decide (k<r/\(-r<=q.1/\q.1<r)/\(-r<=q.2.1/\q.2.1<r))=true->decide (inM (r+k) q=true↔inL (mkQ r (r+k) 0 0) q)=true):=by
 decide +kernel
theorem Bf{r k:Int}{q:Qt}(h4:q.2.2<4)(hr:2<=r/\r<=6)(hk:1<=k/\k<r)(hx:-r<=q.1/\q.1<r)(hy:-r<=q.2.1/\q.2.1<r):inM (r+k) q=true↔inL (mkQ r (r+k) 0 0) q:=by obtain⟨x,y,s⟩:=q;dsimp only at *;have:=F7 r (by simp only[n_,LO,or_false];lia) k (by simp only[n_,LO,or_false];lia) (x+6).toNat (Lr.mpr (by lia)) (y+6).toNat (Lr.mpr (by lia)) s (Lr.mpr h4);rw[show -6+((x+6).toNat:Int)=x by lia,show -6+((y+6).toNat:Int)=y by lia]at this;exact of_decide_eq_true (this (decide_eq_true ⟨hk.2,hx,hy⟩))
noncomputable def mkC(r R x:Int)(m:Nat):List Qt:=oQ (fun y=>cl4 (fun s=>inM R (x,y,s)=true) x y) (-r) m
noncomputable def mkN(r R:Int)(n:Nat):List Qt:=oQ (fun x=>mkC r R x (r - -r).toNat) (-r) n
theorem yo{r k:Int}{q:Qt}(hr:2<=r/\r<=6)(hk:1<=k/\k<r):q∈mkN r (r+k) (r - -r).toNat↔q.2.2<4/\inL (mkQ r (r+k) 0 0) q:=by
 unfold mkN mkC;rw[bM];constructor
 ·rintro⟨x,x1,x2,m⟩;obtain⟨y,y1,y2,m⟩:=bM.mp m;obtain⟨rfl,rfl,h4,hm⟩:=dB.mp m;exact⟨h4,(Bf h4 hr hk ⟨x1,by lia⟩ ⟨y1,by lia⟩).mp hm⟩
 rintro⟨h4,hi⟩;have hb:(-r<=q.1/\q.1<r)/\-r<=q.2.1/\q.2.1<r:=by have:=pxy h4;unfold inL mkQ at hi;dsimp only at hi;omega
 exact⟨q.1,hb.1.1,by lia,bM.mpr ⟨q.2.1,hb.2.1,by lia,dB.mpr ⟨rfl,rfl,h4,(Bf h4 hr hk hb.1 hb.2).mpr hi⟩⟩⟩
theorem Gx{r R:Int}{i j s:Nat}:cD (-r+(i:Int),-r+(j:Int),s) ∉ (mkN r R i++mkC r R (-r+i) j++((A_ s).filter fun s=>decide (inM R (-r+i,-r+j,s)=true)).map fun s=>(-r+(i:Int),-r+(j:Int),s)).map cD:=by
 intro h;obtain⟨q,mq,e⟩:=t_.mp h;cases qf _ _ e;rcases v_.mp mq with h|h
 ·rcases v_.mp h with h|h
  ·unfold mkN mkC at h;obtain⟨k,_,hk,mk⟩:=bM.mp h;obtain⟨k',_,_,mk'⟩:=bM.mp mk;have:=(dB.mp mk').1;dsimp only at this;lia
  unfold mkC at h;obtain⟨k,_,hk,mk⟩:=bM.mp h;have:=(dB.mp mk).2.1;dsimp only at this;lia
 obtain⟨s',m',e⟩:=t_.mp h;have:=Lr.mp (J_.mp m').1;have:=(PZ.mp (PZ.mp e).2).2;dsimp only at this;omega
theorem zD{p:Nat->Prop}[DecidablePred p]{x y:Int}:(cl4 p x y).length<=4:=by unfold cl4;rw[a_];exact m_ (LQ _ _) (by rw[LP];exact b_ _)
theorem mV{α:Type}{f:Int->List α}{a:Int}{m:Nat}(h:∀y,(f y).length<=m)(n:Nat):(oQ f a n).length<=m*n:=by
 induction n with
 |zero=>exact B_ _
 |succ n ih=>
  have:=h (a+n);rw[fA,f',Nat.mul_succ];lia
theorem Gn{r R:Int}{i j s:Nat}(hm:(r - -r).toNat<=100):(mkN r R i++mkC r R (-r+i) j++((A_ s).filter fun s=>decide (inM R (-r+i,-r+j,s)=true)).map fun s=>((-r+(i:Int),-r+(j:Int),s):Qt)).length<=400*i+4*j+s:=by have lc:∀x m,(mkC r R x m).length<=4*m:=fun x m=>mV (fun y=>zD) m;have l1:(mkN r R i).length<=400*i:=mV (fun x=>m_ (lc x _) (by lia)) i;have l2:=lc (-r+i) j;have l3:=LQ (fun s=>decide (inM R (-r+i,-r+j,s)=true)) (A_ s);rw[LP]at l3;rw[f',f',a_];lia
theorem zE{m:Nat}{C:Int}{N:Nat}{P:List Od}(h:OkP m C N P){i:Nat}{o:Od}(e:P[i]?=some o):P.take (i+1)=P.take i++[o]/\(i=0->∃j,o=.tk j):=by refine⟨by rw[LL,e];rfl,fun z=>?_⟩;subst z;exact h.1 o e
theorem tO:∀{P:List Od}{ps:List Plc},Od.ct ps∈P->ps.length<=nPl P
 |o::P,ps,m=>by
  unfold nPl;rw[g_,Mu];rcases n_.mp m with e|m
  ·subst e;exact Nf _ _
  have:=tO m;unfold nPl at this;lia
theorem A1{os:List Oc}:bO (.lst true (os.map ocT))=true:=by simp only[bO,bq,dF,dM,Mt]
theorem wg{P:List Od}{i:Nat}:nPl (P.take i)<=nPl P:=by
 unfold nPl
 conv=>rhs;rw[<-F_ i P,q_,OL]
 exact Nf _ _
theorem mn{l:Int}{tl:List Tl}{P:List Od}:(cj l tl P).length<=nPl P:=by have h1:=dE (ρ:=ocL) (l:=[]) (r:=(wls l P 0).map fun v=>swT (tR tl v.1) v.2);have h2:=oR (l:=l) (P:=P) (t:=0);rw[a_,LR]at h1;unfold cj;lia
noncomputable def mkA(t:Tl):List Qt:=mkN t.1 (t.1+t.2.1) (t.1 - -t.1).toNat
noncomputable def mvQ(p:Pt)(m:Qt):Qt:=(m.1+p.1,m.2.1+p.2,m.2.2)
theorem zm{t:Tl}(h:tlO t):(mkA t).length<=576:=by
 obtain⟨h1,h2,_⟩:=h;have l1:∀x,(mkC t.1 (t.1+t.2.1) x (t.1 - -t.1).toNat).length<=48:=fun x=>m_ (mV (fun y=>zD) _) (by lia)
 exact m_ (mV l1 _) (by lia)
theorem BP{r R:Int}{p:Pt}{m:Qt}:inL (mkQ r R p.1 p.2) (mvQ p m)↔inL (mkQ r R 0 0) m:=by unfold inL mkQ mvQ;dsimp only;lia
theorem yx{t:Tl}(h:tlO t){p:Pt}{q:Qt}:(∃m∈mkA t,q=mvQ p m)↔q.2.2<4/\inL (mkQ t.1 (t.1+t.2.1) p.1 p.2) q:=by
 obtain⟨h1,h2,h3,h4⟩:=h;constructor
 ·rintro⟨m,mm,rfl⟩;obtain⟨a,b⟩:=(yo ⟨h1,h2⟩ ⟨h3,h4⟩).mp mm;exact⟨a,BP.mpr b⟩
 rintro⟨a,b⟩;have e:q=mvQ p (q.1-p.1,q.2.1-p.2,q.2.2):=by unfold mvQ;exact Nt (by dsimp only;lia) (Nt (by dsimp only;lia) rfl)
 rw[e]at b;exact⟨(q.1-p.1,q.2.1-p.2,q.2.2),(yo ⟨h1,h2⟩ ⟨h3,h4⟩).mpr ⟨a,BP.mp b⟩,e⟩
theorem tU{m:Nat}{l:Int}:∀{P:List Od}{t:Nat},t<m->(∀i,Od.tk i∈P->i<m)->∀v∈sps l P t,v.1<m
 | [],_,_,_,_,h=>by cases h
 | .tk i::P,t,_,h,v,hv=>tU (P:=P) (t:=i) (h i p_) (fun j mj=>h j (l_ _ mj)) v hv
 | .ov _ _ _::P,t,ht,h,v,hv=>tU (P:=P) (t:=t) ht (fun j mj=>h j (l_ _ mj)) v hv
 | .ct ps::P,t,ht,h,v,hv=>by
  rw[sps]at hv;rcases v_.mp hv with hv|hv
  ·obtain⟨p,_,rfl⟩:=t_.mp hv;exact ht
  exact tU (P:=P) (t:=t) ht (fun j mj=>h j (l_ _ mj)) v hv
theorem B5{m:Nat}{C:Int}{N:Nat}{P:List Od}(h:OkP m C N P){l:Int}:∀v∈sps l P 0,v.1<m:=by
 obtain⟨h0,_,_,h⟩:=h;cases P with
 |nil=>intro v mv;cases mv
 |cons o P=>
  obtain⟨i,rfl⟩:=h0 o rfl;exact tU (P:=P) (t:=i) (h _ p_) fun j mj=>h _ (l_ _ mj)
noncomputable def fnd(tl:List Tl)(S:List (Nat×Pt)):List Qt:=S.flatMap fun v=>(mkA (tl.getD v.1 (0,0,0,0,0))).map (mvQ v.2)
theorem wm{tl:List Tl}(h:∀t∈tl,tlO t){i:Nat}(hi:i<tl.length):tlO (tl.getD i (0,0,0,0,0)):=by rw[LB,c_ hi];exact h _ (LY hi)
theorem Ff{tl:List Tl}(ht:∀t∈tl,tlO t){S:List (Nat×Pt)}(hS:∀v∈S,v.1<tl.length){q:Qt}:q∈fnd tl S↔q.2.2<4/\∃v∈S,inL (mkT (tR tl v.1) v.2) q:=by
 unfold fnd;rw[Pm];constructor
 ·rintro⟨v,mv,m⟩;obtain⟨x,mx,rfl⟩:=t_.mp m;obtain⟨a,b⟩:=(yx (wm ht (hS v mv)) (p:=v.2)).mp ⟨x,mx,rfl⟩;exact⟨a,v,mv,b⟩
 rintro⟨a,v,mv,b⟩;obtain⟨x,mx,e⟩:=(yx (wm ht (hS v mv)) (p:=v.2)).mpr ⟨a,b⟩;exact⟨v,mv,t_.mpr ⟨x,mx,e.symm⟩⟩
theorem yL{tl:List Tl}(ht:∀t∈tl,tlO t):∀{S:List (Nat×Pt)},(∀v∈S,v.1<tl.length)->(fnd tl S).length<=576*S.length
 | [],_=>b_ _
 |v::S,h=>by have h1:=yL ht (S:=S) fun w mw=>h w (l_ _ mw);have h2:=zm (wm ht (h v p_));unfold fnd at *;rw[List.flatMap_cons,f',a_,h_];lia
theorem D3{tl:List Tl}{S:List (Nat×Pt)}{v:Nat×Pt}:fnd tl (S++[v])=fnd tl S++(mkA (tl.getD v.1 (0,0,0,0,0))).map (mvQ v.2):=by unfold fnd;rw[Nm,OO]
theorem IW{tl:List Tl}{j:Nat}{o:Bool}(h:j<tl.length):atI (tl.map fun t=>T.dT o (dG cD (mkA t))) (j:Int)=some (.dT o (dG cD (mkA (tl.getD j (0,0,0,0,0))))):=by
 refine cK ?_;rw[D_,c_ h,LB,c_ h]
 rfl
theorem tS{l:Int}:∀{P:List Od}{t:Nat}{v:Nat×Pt},v∈sps l P t->∃ps p,Od.ct ps∈P/\p∈ps/\p.1=v.2
 | [],_,_,h=>by cases h
 | .tk i::P,t,v,h=>by obtain⟨ps,p,m,r⟩:=tS (P:=P) (t:=i) h;exact⟨ps,p,l_ _ m,r⟩
 | .ov _ _ _::P,t,v,h=>by obtain⟨ps,p,m,r⟩:=tS (P:=P) (t:=t) h;exact⟨ps,p,l_ _ m,r⟩
 | .ct ps::P,t,v,h=>by
  rw[sps]at h;rcases v_.mp h with h|h
  ·obtain⟨p,m,rfl⟩:=t_.mp h;exact⟨ps,p,p_,(J_.mp m).1,rfl⟩
  obtain⟨ps,p,m,r⟩:=tS (P:=P) (t:=t) h;exact⟨ps,p,l_ _ m,r⟩
theorem F6{l:Int}{P:List Od}{t:Nat}{v:Nat×Pt×Pt}(h:v∈wls l P t):(v.1,v.2.1)∈sps l P t/\(v.1,v.2.2)∈sps l P t:=by obtain⟨a1,a2⟩:=pB (l:=l) (P:=P) (t:=t);obtain⟨k,hk,n,e⟩:=a1 v h;exact⟨(a2 _ _).mp ⟨v,h,rfl,(iG hk e).mpr ⟨0,B_ _,by unfold gon;simp⟩⟩,(a2 _ _).mp ⟨v,h,rfl,(iG hk e).mpr ⟨n,b_ _,e⟩⟩⟩
theorem FF{m:Nat}{C:Int}{N:Nat}{P:List Od}(h:OkP m C N P){l:Int}{v:Nat×Pt}(hv:v∈sps l P 0):(-C<=v.2.1/\v.2.1<=C)/\-C<=v.2.2/\v.2.2<=C:=by obtain⟨ps,p,m1,m2,e⟩:=tS hv;rw[<-e];exact h.2.2.2 _ m1 p m2
theorem Gi{tl:List Tl}(ht:∀t∈tl,tlO t){i:Nat}(hi:i<tl.length):DV (tR tl i)/\(tR tl i).1<=6:=by obtain⟨h1,h2,h3,h4⟩:=wm ht hi;unfold DV tR;dsimp only;lia
theorem Dk{tl:List Tl}{C l:Int}{N:Nat}{P:List Od}(hP:OkP tl.length C N P)(ht:∀t∈tl,tlO t){o:Oc}(h:o∈cj l tl P):∃r R p q,o=swT (r,R) (p,q)/\(1<=r/\r<R/\R<2*r)/\r<=6/\(-C<=p.1/\p.1<=C/\-C<=p.2/\p.2<=C)/\-C<=q.1/\q.1<=C/\-C<=q.2/\q.2<=C:=by obtain⟨v,mv,rfl⟩:=mB.mp h;obtain⟨e1,e2⟩:=F6 mv;obtain⟨k1,k2⟩:=Gi ht (B5 hP _ e1);have b1:=FF hP e1;have b2:=FF hP e2;dsimp only at b1 b2;exact⟨_,_,v.2.1,v.2.2,rfl,k1,k2,by lia,by lia⟩
theorem yZ{tl:List Tl}{C l:Int}{N B:Nat}{P:List Od}(hP:OkP tl.length C N P)(ht:∀t∈tl,tlO t)(hl:(cj l tl P).length<=200)(hB:C+6<=B)(h8:B<=800):lF B (cj l tl P):=by
 refine⟨hl,by lia,.inr h8,fun o m=>?_,fun o m=>?_⟩
 ·obtain⟨r,R,p,q,rfl,h,_⟩:=Dk hP ht m;exact Ji (w:=(p,q)) h.1 h.2.1 h.2.2
 obtain⟨r,R,p,q,rfl,h,h6,b1,b2⟩:=Dk hP ht m;exact JF (w:=(p,q)) b1 b2 (by lia)
noncomputable def Cuts(l:Int)(tl:List Tl)(P:List Od)(qs:List Qt):Prop:=qs.Nodup/\∀q,q∈qs↔q.2.2<4/\∃v∈sps l P 0,inL (mkT (tR tl v.1) v.2) q
theorem qL{tl:List Tl}{C l:Int}{N B:Nat}{P:List Od}{qs:List Qt}(hP:OkP tl.length C N P)(ht:∀t∈tl,tlO t)(hs:lF B (cj l tl P))(hq:Cuts l tl P qs):Ar B (cj l tl P)/2=(qs.length:Int):=by have:=DK hs.2.2.2.2 hq.1 fun q=>(hq.2 q).trans (and_congr_right fun h4=>(Ij (T:=tR tl) (fun o=>mB) (fun v m=>(Gi ht (B5 hP v m)).1) h4).symm);lia
theorem fV{ts:List T}{i:Int}{t:T}{k:T->Prop}:uX (.lst true ts) (.int i) t k=dg (ixN ts.length i) (k:=⟨fun j=>k (.lst true (ts.set j t))⟩):=rfl
noncomputable def PrO(m:Nat)(P:List Od)(N L:Nat):Prop:=(∃i P',P=.tk i::P')/\nPl P<=N/\P.length<=L/\∀o∈P,Hk m 100 o
theorem KU{m i:Nat}(h:i<m):PrO m [.tk i] 0 1:=⟨⟨i,[],rfl⟩,b_ _,b_ _,fun o mo=>by rw[z_.mp mo];exact h⟩
theorem rQ{m:Nat}{P:List Od}{N L N' L':Nat}(h:PrO m P N L)(hN:N<=N')(hL:L<=L'):PrO m P N' L':=⟨h.1,m_ h.2.1 hN,m_ h.2.2.1 hL,h.2.2.2⟩
theorem qr{m:Nat}{P:List Od}{N L N' L':Nat}(o:Od)(h:PrO m P N L)(hN:Ia o+N<=N')(hL:L+1<=L')(ho:Hk m 100 o):PrO m (P++[o]) N' L':=by
 obtain⟨⟨i,P',rfl⟩,h1,h2,h3⟩:=h;refine⟨⟨i,P'++[o],rfl⟩,?_,?_,fun x mx=>?_⟩
 ·unfold nPl at *;rw[q_,OL];show _+(Ia o+0)<=N';lia
 ·rw[f'];exact m_ (NP h2) hL
 rcases v_.mp mx with mx|mx
 ·exact h3 x mx
 rw[z_.mp mx];exact ho
theorem JR{m:Nat}{P:List Od}{N L:Nat}(h:PrO m P N L)(hL:L<=300):OkP m 100 N P:=by obtain⟨⟨i,P',rfl⟩,h1,h2,h3⟩:=h;exact⟨fun o e=>⟨i,(G' e).symm⟩,m_ h2 hL,h1,h3⟩
theorem IY{d:Int}(h0:0<=d)(h1:d<2):∃h,atI [T.str "low",T.str "high"] d=some (.str (hS h)):=by
 rcases(by lia:d=0\/d=1)with rfl|rfl
 ·exact⟨false,rfl⟩
 exact⟨true,rfl⟩
theorem Du{l:Int}{tl:List Tl}{P:List Od}:(cj l tl P).Nodup:=tG yn Mk
theorem sN{l:Int}{P:List Od}{h:Bool}{x y:Int}(hP:∀o,P[0]?=some o->∃i,o=.tk i)(t:Nat):wls l (P++.ov h x y::P) t=wls l P t++wls l P t/\sps l (P++.ov h x y::P) t=sps l P t++sps l P t:=by
 obtain⟨h1,h2,_⟩:=jD (l:=l) (Q:=.ov h x y::P) (P:=P) (t:=t);rw[h1,h2];cases P with
 |nil=>exact⟨rfl,rfl⟩
 |cons o P=>
  obtain⟨i,rfl⟩:=hP o rfl;exact⟨rfl,rfl⟩
theorem Bo{m:Nat}{C:Int}{N:Nat}{P:List Od}{h:Bool}{x y:Int}(hP:OkP m C N P)(hl:P.length<=100)(hne:P≠[]):OkP m C (2*N) (P++.ov h x y::P):=by
 obtain⟨h0,_,h2,h3⟩:=hP;refine⟨fun o e=>?_,by rw[f',h_];lia,?_,fun o mo=>?_⟩
 ·cases P with
  |nil=>exact absurd rfl hne
  |cons p P=>exact h0 o e
 ·unfold nPl at *;rw[q_,OL,g_,Mu];show _+(0+_)<=_;lia
 rcases v_.mp mo with mo|mo
 ·exact h3 o mo
 rcases n_.mp mo with e|mo
 ·subst e;trivial
 exact h3 o mo
theorem xR{l:Int}{tl:List Tl}{P:List Od}{h:Bool}{x y:Int}(hP:∀o,P[0]?=some o->∃i,o=.tk i):(cj l tl (P++.ov h x y::P)).length<=nPl P:=by
 haveI:DecidableEq Oc:=fun a b=>W6 (a=b)
 refine m_ (uF (m:=cj l tl P) Du fun o mo=>?_) mn;obtain⟨v,mv,e⟩:=mB.mp mo;rw[(sN hP 0).1]at mv;exact mB.mpr ⟨v,(v_.mp mv).elim id id,e⟩
theorem x9{l:Int}{tl:List Tl}{P:List Od}{h:Bool}{x y:Int}{qs:List Qt}(hP:∀o,P[0]?=some o->∃i,o=.tk i)(hq:Cuts l tl P qs):Cuts l tl (P++.ov h x y::P) qs:=by refine⟨hq.1,fun q=>(hq.2 q).trans (and_congr_right fun _=>?_)⟩;rw[(sN hP 0).2];exact⟨fun⟨v,mv,r⟩=>⟨v,w_ _ mv,r⟩,fun⟨v,mv,r⟩=>⟨v,(v_.mp mv).elim id id,r⟩⟩
theorem mR{l l':Int}(hl:l<=l'):∀{P:List Od}{t:Nat}{v:Nat×Pt},v∈sps l' P t->v∈sps l P t
 | [],_,_,h=>h
 | .tk i::P,t,v,h=>mR hl (P:=P) (t:=i) h
 | .ov _ _ _::P,t,v,h=>mR hl (P:=P) (t:=t) h
 | .ct ps::P,t,v,h=>by
  rw[sps]at h ⊢;rcases v_.mp h with h|h
  ·obtain⟨p,mp,rfl⟩:=t_.mp h;obtain⟨m1,m2⟩:=J_.mp mp;exact w_ _ (t_.mpr ⟨p,J_.mpr ⟨m1,decide_eq_true (Int.lt_of_le_of_lt hl (of_decide_eq_true m2))⟩,rfl⟩)
  exact o_ _ (mR hl (P:=P) (t:=t) h)
theorem Af{l l':Int}{tl:List Tl}{P:List Od}{qs qs':List Qt}(hl:l<=l')(h:Cuts l tl P qs)(h':Cuts l' tl P qs'):qs'.length<=qs.length:=
 uF h'.1 fun q mq=>by obtain⟨a,v,mv,b⟩:=(h'.2 q).mp mq;exact(h.2 q).mpr ⟨a,v,mR hl mv,b⟩
noncomputable def Ab:Od->Bool
 | .ct _=>true
 | _=>false
theorem mP{l:Int}:∀{P:List Od}{t:Nat},sps l (P.filter fun o=>!Ab o) t=[]/\wls l (P.filter fun o=>!Ab o) t=[]
 | [],_=>⟨rfl,rfl⟩
 | .tk i::P,t=>mP (P:=P) (t:=i)
 | .ov _ _ _::P,t=>mP (P:=P) (t:=t)
 | .ct ps::P,t=>mP (P:=P) (t:=t)
theorem Fb{m:Nat}{C:Int}{N:Nat}{P:List Od}(hP:OkP m C N P):OkP m C N (P.filter fun o=>!Ab o):=by
 obtain⟨h0,h1,h2,h3⟩:=hP;refine⟨fun o e=>?_,m_ (LQ _ _) h1,m_ ?_ h2,fun o mo=>h3 o (J_.mp mo).1⟩
 ·cases P with
  |nil=>exact h0 o e
  |cons p P=>
   obtain⟨i,rfl⟩:=h0 p rfl;exact⟨i,(G' e).symm⟩
 clear h0 h1 h2 h3;unfold nPl;induction P with
 |nil=>exact b_ _
 |cons o P ih=>
  rw[NQ,g_,Mu];split
  ·rw[g_,Mu];lia
  lia
theorem Ce{l:Int}{tl:List Tl}{P:List Od}(h:sps l P 0=[]):Cuts l tl P []:=⟨Mk,fun q=>⟨(nomatch ·),fun⟨_,v,mv,_⟩=>by rw[h]at mv;cases mv⟩⟩
theorem gU{i:Int}{k:T->Prop}:jU [.int i,.ty "dict"] k=k (.bl false):=rfl
theorem gS{i:Int}{k:T->Prop}:jU [.int i,.ty "list"] k=k (.bl false):=rfl
theorem fH{i:Int}{k:T->Prop}:jU [.int i,.ty "tuple"] k=k (.bl false):=rfl
theorem iK{i:Int}{k:T->Prop}:jU [.int i,.ty "str"] k=k (.bl false):=rfl
theorem iL{i:Int}{k:T->Prop}:jU [.int i,.ty "int"] k=k (.bl true):=rfl
theorem gP{i:Int}{k:T->Prop}:jU [.int i,.ty "bool"] k=k (.bl false):=rfl
theorem gq{x:Str}{k:T->Prop}:jU [.str x,.ty "tuple"] k=k (.bl false):=rfl
theorem iB{ts:List T}{k:T->Prop}:jU [.tup ts,.ty "tuple"] k=k (.bl true):=rfl
theorem Br{o:Od}:bO (odT true true o)=true:=by cases o <;> simp only[odT,sqB,bO,cp,bq,cH,dM,Mt,NM,if_true]
theorem JT{p:Plc}{n:Nat}:Gd (plT p) (n+1):=x6 (aW pR (aW pR (aW pR ig)))
theorem Kt{o:Od}:Gd (odT false false o) 3:=by
 cases o with
 |tk i=>exact x6 (aW EU (aW pR ig))
 |ov h x y=>exact x6 (aW EU (aW EU (aW pR (aW pR ig))))
 |ct ps=>exact x6 (aW EU (aW (x6 (sT fun _ _=>JT)) ig))
theorem JV{t:Tl}:Gd (tvT false false t) 3:=x6 (aW pR (aW pR (aW pR (aW pR (aW pR ig)))))
theorem ne_self{a:T}{n:Nat}{k:T->Prop}(g:Gd a n)(hn:n<100)(q:k (.bl false)):neT a a k:=by unfold neT;rw[jl];exact⟨g.1,g.1,Mg g.2 (y_ hn (by decide)),q⟩
noncomputable def odP:Od->List T
 | .tk i=>[.str "take",.int (i:Int)]
 | .ov h x y=>[.str "over",.str (hS h),.int x,.int y]
 | .ct ps=>[.str "cut",.tup (ps.map plT)]
noncomputable def lsP:T->T
 | .tup ts=>.lst true ts
 |t=>t
theorem e9{o:Od}:items (odT false false o)=some (odP o):=by cases o <;> rfl
theorem HR{o:Od}:erL (odP o)=odP o:=by cases o <;> simp only[odP,er,erL,cg,gK]
theorem Ep{o:Od}:(odP o).length<=4:=by cases o <;> exact Nat.le_of_ble_eq_true rfl
theorem JM{o:Od}:odT true true o=.lst true ((odP o).map lsP):=by cases o <;> rfl
theorem BO{o:Od}{t:T}(h:t∈odP o):(∃s,t=.str s)\/(∃i,t=.int i)\/∃ps:List Plc,t=.tup (ps.map plT):=by
 cases o <;> simp only[odP,n_,LO,or_false]at h
 ·rcases h with rfl|rfl
  ·exact .inl ⟨_,rfl⟩
  exact .inr (.inl ⟨_,rfl⟩)
 ·rcases h with rfl|rfl|rfl|rfl
  ·exact .inl ⟨_,rfl⟩
  ·exact .inl ⟨_,rfl⟩
  ·exact .inr (.inl ⟨_,rfl⟩)
  exact .inr (.inl ⟨_,rfl⟩)
 rcases h with rfl|rfl
 ·exact .inl ⟨_,rfl⟩
 exact .inr (.inr ⟨_,rfl⟩)
theorem gf{n:Nat}{gs:sV}{p:Pt}{env:Ev}{k:Ev->Prop}:gTp n gs (ptP p) env k=gTp n gs (.tup [.int p.1,.int p.2]) env k:=rfl
noncomputable def kO(p:Pt):List Int:=[p.1,p.2]
theorem pT{α β:Type}{f:α->β}{l m:List β}(p:l.Perm m):∀{xs:List α},m=xs.map f->∃ys:List α,ys.Perm xs/\l=ys.map f:=by
 induction p with
 |nil=>exact fun{xs} e=>⟨xs,.refl _,e⟩
 |cons x p ih=>
  intro xs e;cases xs with
  |nil=>cases e
  |cons y xs=>
   obtain⟨e1,e2⟩:=MJ e;obtain⟨ys,q,r⟩:=ih e2;exact⟨y::ys,.cons y q,by rw[r,e1];rfl⟩
 |swap x y l=>
  intro xs e
  match xs,e with
  |a::b::xs,e=>
   obtain⟨e1,e2⟩:=MJ e;obtain⟨e2,e3⟩:=MJ e2;exact⟨b::a::xs,.swap _ _ _,by rw[e1,e2,e3];rfl⟩
 |trans p q ih jh=>
  intro xs e;obtain⟨ys,y1,y2⟩:=jh e;obtain⟨zs,z1,z2⟩:=ih y2;exact⟨zs,z1.trans y1,z2⟩
noncomputable def DM(l:List Pt):List Pt:=(sR (l.map kO)).map fun r=>(r.getD 0 0,r.getD 1 0)
theorem sF(l:List Pt):∃ys:List Pt,ys.Perm l/\sR (l.map kO)=ys.map kO/\DM l=ys:=by obtain⟨ys,y1,y2⟩:=pT (nj (lt:=ZS.ltL) (l.map kO)) (f:=kO) (xs:=l) rfl;refine⟨ys,y1,y2,?_⟩;unfold DM;rw[show sR (l.map kO)=ys.map kO from y2,B'];exact N_ _
theorem kZ{o:Bool}{l:List Pt}{k:T->Prop}:uy [.lst o (l.map ptP)] k=k (.lst true ((DM l).map ptP)):=by
 obtain⟨ys,y1,y2,y3⟩:=sF l;rw[y3];show got (rowsOf (l.map ptP)) (fun ks=>k (.lst true ((sR ks).map iT)))=_;have e:rowsOf (l.map ptP)=some (l.map kO):=oC ptP kO (fun x=>rfl) (fun x=>NS _ _) _;rw[e];show k (.lst true ((sR (l.map kO)).map iT))=_;rw[y2,B']
 rfl
theorem Dx{os:List Oc}{m:Int}:∃U:List Oc,U.Perm os/\DM (spn os m)=spn U m/\(spn U m).Pairwise fun p q=>p.1<=q.1:=by
 obtain⟨ys,y1,y2,y3⟩:=sF (spn os m);obtain⟨U,p,r⟩:=pT y1 (f:=fun o=>(loM o m,hiM o m)) (xs:=os) rfl;refine⟨U,p,y3.trans r,?_⟩;have s:=jx ZS.Cf ((spn os m).map kO);rw[show wq ZS.ltL ((spn os m).map kO)=ys.map kO from y2,Lw,r]at s;refine s.imp fun{a b} h=>Pp fun z=>?_;have:ZS.ltL (kO b) (kO a)=true:=by show(if b.1=a.1 then _ else decide (b.1<a.1))=true;rw[if_neg (by lia)];exact decide_eq_true z
 rw[this]at h;cases h
theorem AQ{os:List Oc}{m:Int}{i:Nat}{x:Oc}(h:os[i]?=some x):spn (os.take (i+1)) m=spn (os.take i) m++[(loM x m,hiM x m)]:=by
 unfold spn;rw[LL,h,q_]
 rfl
noncomputable def obT(b u:Bool)(o:Oc):T:=if b then .lst u ((ocL o).map T.int)else ocT o
noncomputable def ogT(c o b u:Bool)(os:List Oc):T:=if c then .tup (os.map (obT b u))else .lst o (os.map (obT b u))
theorem jd{b u:Bool}{o:Oc}:er (obT b u o)=obT b false o:=by cases b <;> rfl
theorem dw{b u:Bool}{o:Oc}:isAny (obT b u o)=false:=by cases b <;> rfl
theorem cY{b:Bool}{o:Oc}:aP (obT b false o)=true:=by cases b <;> rfl
theorem gZ{b u:Bool}{o:Oc}{k:T->Prop}:pD [obT b u o] k=k (ocT o):=by cases b <;> rfl
theorem Bb{b u:Bool}{os:List Oc}:erL (os.map (obT b u))=os.map (obT b false):=by rw[cg];exact Mo fun k _=>jd
theorem jt{c o b u:Bool}{os:List Oc}:er (ogT c o b u os)=ogT c false b false os:=by
 cases c
 ·show er (.lst o (os.map (obT b u)))=.lst false (os.map (obT b false));rw[er,Bb]
 show er (.tup (os.map (obT b u)))=.tup (os.map (obT b false));rw[er,Bb]
theorem cQ{c o b u:Bool}{os:List Oc}:items (ogT c o b u os)=some (os.map (obT b u)):=by cases c <;> rfl
theorem d7{c o b u:Bool}{os:List Oc}:isAny (ogT c o b u os)=false:=by cases c <;> rfl
theorem d8{c b:Bool}{os:List Oc}:aP (ogT c false b false os)=true:=by have:er (ogT c false b false os)=ogT c false b false os:=jt;rw[<-this];exact bj _
theorem Ey{ws:List Oc}(h:(ws.map ocL).Pairwise fun x y=>ZS.ltL x y=false):ws.Pairwise fun x y=>y.a<=x.a:=by
 rw[Lw]at h;refine h.imp fun{x y} g=>Pp fun z=>?_;have:ZS.ltL (ocL x) (ocL y)=true:=by show(if x.a=y.a then _ else decide (x.a<y.a))=true;rw[if_neg (by lia)];exact decide_eq_true z
 rw[this]at g;cases g
theorem CY{B:Nat}{os ws:List Oc}(l:ws.length<=os.length)(m:∀x∈ws,x∈os)(h:lF B os):lF B ws:=⟨m_ l h.1,h.2.1,h.2.2.1.elim (fun z=>.inl (m_ l z)) .inr,fun x hx=>h.2.2.2.1 x (m x hx),fun x hx=>h.2.2.2.2 x (m x hx)⟩
theorem L7{ts:List T}:rg ts (some 1) none=ts.drop 1:=A5 ts 1
theorem Bq{S:List Int}:I_ (fun p:T×T=>T.tup [p.1,p.2]) ((I_ (fun x=>T.int x) S).zip (erL (List.drop 1 (I_ (fun x=>T.int x) S))))=(S.zip (S.drop 1)).map ptP:=by
 rw[<-O0,cg,P0,B']
 rfl
theorem Gz{S:List Int}{i:Nat}{l r:Int}(h:(S.zip (S.drop 1))[i]?=some (l,r)):S[i]?=some l/\S[i+1]?=some r:=by rw[Oo]at h;refine⟨h.1,?_⟩;have:=h.2;rw[MF,Nat.add_comm]at this;exact this
theorem F8(V:List Oc)(x:Oc):atI (I_ (fun x=>ocT x) (V.concat x)) (-1)=some (ocT x):=by
 have e:I_ (fun x=>ocT x) (V.concat x)=V.map ocT++[ocT x]:=by rw[MI,q_];rfl
 rw[e];unfold atI ixN;rw[f',OP,if_neg (by lia),if_pos (by lia)];show(V.map ocT++[ocT x])[_]?=_;rw[show((-1:Int)+((I_ ocT V).length+1:Nat)).toNat=(V.map ocT).length by lia,Ly (b_ _),MP]
 rfl
theorem vY(V:List Oc)(x:Oc):(I_ ocT (V.concat x))[(V.concat x).length-1]?=some (ocT x)/\(I_ ocT (V.concat x)).dropLast=V.map ocT:=by
 rw[O',MI,q_,Nat.add_sub_cancel];refine⟨?_,NY⟩;rw[Ly (by rw[a_];exact b_ _),a_,MP]
 rfl
noncomputable def AK(ws:List Oc)(l:Int)(V th:List Oc):Prop:=(V.Pairwise fun x y=>y.a<=x.a)/\(∀x∈V,x∈ws)/\(∀x∈th,x∈ws/\2*x.a<=l)/\(∀x∈ws,x∈V\/x∈th\/2*x.b<l)/\V.length+th.length<=ws.length
theorem HL{ws:List Oc}{l:Int}{V th:List Oc}{x:Oc}(h:AK ws l (V.concat x) th)(g:2*x.a<=l):AK ws l V (th++[x]):=by
 obtain⟨h1,h2,h3,h4,h5⟩:=h;rw[MI]at h1 h2 h4 h5;refine⟨(C_.mp h1).1,fun y m=>h2 y (w_ _ m),fun y m=>?_,fun y m=>?_,by rw[f']at h5 ⊢;exact(by lia)⟩
 ·rcases v_.mp m with m|m
  ·exact h3 y m
  rw[z_.mp m];exact⟨h2 x (o_ _ p_),g⟩
 rcases h4 y m with m|m|m
 ·rcases v_.mp m with m|m
  ·exact .inl m
  exact .inr (.inl (o_ _ m))
 ·exact .inr (.inl (w_ _ m))
 exact .inr (.inr m)
noncomputable def AJ(B:Nat)(ws:List Oc)(S:List Int)(i:Nat)(V th:List Oc)(D:Int):Prop:=(S=[]->D=0)/\∀l,S[i]?=some l->AK ws l V th/\∀w,S[0]?=some w->w<=l/\D=Sm (fun j=>Lm B ws (2*j+1)) w (l-w).toNat
theorem KS{B:Nat}{ws:List Oc}{S:List Int}(h:ws.Pairwise fun x y=>y.a<=x.a):AJ B ws S 0 ws [] 0:=⟨fun _=>rfl,fun l e=>⟨⟨h,fun x m=>m,(fun x m=>by cases m),fun x m=>.inl m,by rw[LR];lia⟩,fun w e'=>by rw[e]at e';cases e';exact⟨LW _,by rw[show(l-l).toNat=0 by lia];rfl⟩⟩⟩
theorem C7{B:Nat}{ws:List Oc}{S:List Int}{i:Nat}{l r:Int}(hw:lF B ws)(hS:Sds B ws S)(sl:S[i]?=some l)(sr:S[i+1]?=some r):l<r/\-(2 ^ 60)<l/\r<2 ^ 60:=by
 obtain⟨u,_,n,s,_⟩:=hS;have ne:ws≠[]:=fun z=>by rw[n z]at sl;cases sl
 obtain⟨w,e,s0,s1,b1,b2,b3,_⟩:=s ne;have hB:=hw.2.1;have lr:=lM u sl sr (MT i);have il:=(d_.mp sl).1;have ir:=(d_.mp sr).1;have g1:w<=l:=by
  by_cases z:i=0
  ·subst z;rw[s0]at sl;cases sl;exact LW _
  exact P4 (lM u s0 sl (by lia))
 have g2:r<=e:=by
  by_cases z:i+1=S.length-1
  ·rw[<-z,sr]at s1;cases s1;exact LW _
  exact P4 (lM u sr s1 (by omega))
 exact⟨lr,by lia,by lia⟩
theorem Eo{B:Nat}{ws:List Oc}{S:List Int}{i:Nat}{V th U:List Oc}{D l r:Int}(hw:lF B ws)(hS:Sds B ws S)(sl:S[i]?=some l)(sr:S[i+1]?=some r)(J0:∀w,S[0]?=some w->w<=l/\D=Sm (fun j=>Lm B ws (2*j+1)) w (l-w).toNat)(K:AK ws l V th)(hV:∀x∈V,l<2*x.a)(pU:U.Perm (th.filter fun x=>decide (r<=2*x.b)))(sU:(spn U (l+r)).Pairwise fun p q=>p.1<=q.1) :
  AJ B ws S (i+1) V (th.filter fun x=>decide (r<=2*x.b)) (D+(r-l)*sw (wF (spn U (l+r))) (spn U (l+r))):=by
 obtain⟨lr,_⟩:=C7 hw hS sl sr;obtain⟨k1,k2,k3,k4,k5⟩:=K;have fl:=LQ (fun x:Oc=>decide (r<=2*x.b)) th;have mem:∀x,x∈U↔x∈ws/\2*x.a<=l/\r<=2*x.b:=fun x=>by
  rw[pU.mem_iff,J_,decide_eq_true_iff];refine⟨fun⟨a,b⟩=>⟨(k3 x a).1,(k3 x a).2,b⟩,fun⟨a,b,c⟩=>⟨?_,c⟩⟩;rcases k4 x a with m|m|m
  ·have:=hV x m;lia
  ·exact m
  lia
 refine⟨fun z=>(by rw[z]at sl;cases sl),fun r' er=>?_⟩;rw[sr]at er;cases er;refine⟨⟨k1,k2,fun x m=>?_,fun x m=>?_,by lia⟩,fun w ew=>?_⟩
 ·have:=(k3 x (J_.mp m).1);exact⟨this.1,by lia⟩
 ·rcases k4 x m with m'|m'|m'
  ·exact .inl m'
  ·by_cases c:r<=2*x.b
   ·exact .inr (.inl (J_.mpr ⟨m',decide_eq_true c⟩))
   exact .inr (.inr (by lia))
  exact .inr (.inr (by lia))
 obtain⟨g1,g2⟩:=J0 w ew;refine⟨by lia,?_⟩;rw[g2,Cr (B:=B) lr (hS.2.2.2.2 i l r sl sr) hw.2.2.2.1 hw.2.2.2.2 mem sU,show(r-w).toNat=(l-w).toNat+(r-l).toNat by lia,uk,show w+((l-w).toNat:Int)=l by lia]
theorem IE{B:Nat}{ws:List Oc}{S:List Int}{V th:List Oc}{D:Int}(hw:lF B ws)(hS:Sds B ws S)(J:AJ B ws S ((S.zip (S.drop 1)).map ptP).length V th D):D=Ar B ws:=by
 rw[a_,PD,H_,show min S.length (S.length-1)=S.length-1 by lia]at J;obtain⟨u,_,n,s,_⟩:=hS;by_cases ne:ws=[]
 ·rw[J.1 (n ne),ne];unfold Ar Lm;exact(fR fun j _ _=>fR fun y _ _=>if_neg fun⟨o,ho,_⟩=>by cases ho).symm
 obtain⟨w,e,s0,s1,b1,b2,b3,b4⟩:=s ne;rw[((J.2 e s1).2 w s0).2];exact C6 (fun x m=>(b4 x m).1) (fun x m=>(b4 x m).2) b2 b1 b3
noncomputable def xA:=And.intro @Mp.BV (@Mp.BV)
noncomputable def xQ:=@PL.bj
end Mp
local macro_rules | `(tactic| walk_at "go")=>do
 let l<-("!PL.qH !PL.kD !PL.qq !PL.fP !PL.lg !PL.lL !PL.hU !PL.kC !PL.gR !PL.hJ !PL.cO !PL.dZ !PL.iH !PL.eJ !PL.iu !PL.i5 !PL.kU !PL.gx !PL.eG !PL.gp !PL.ip !PL.kA !PL.iD !PL.iI !PL.i7 !PL.gQ !PL.eR !PL.eV !PL.kY !PL.iq !PL.gG !PL.dX !PL.gL !PL.dW !PL.iA !PL.lG !PL.gI !PL.i6 !PL.kc !PL.fX !PL.cT !PL.fY !PL.qN !PL.i8 !PL.eP !PL.fZ !PL.dU !PL.gY !PL.kW !PL.lD !PL.jX !PL.lV !PL.kH !PL.gF !PL.fL !PL.fN !PL.fI !PL.ij !PL.eN !PL.kh !PL.kF !PL.lN !PL.lu !PL.kG !PL.kB !PL.l9 !PL.kT !PL.ji !PL.iJ !PL.eA !PL.iF !PL.gX !PL.i9 !PL.dY !PL.eC !PL.iw !PL.kR !PL.kM !PL.kS !PL.lT !PL.kJ !PL.lA !PL.lI !PL.fU !PL.hZ !PL.eK !PL.lH !PL.qA !PL.kN !PL.jZ !PL.cA !PL.cB !PL.gc !PL.kK !PL.hC PL.kQ PL.fO PL.eF PL.dS PL.pC PL.qp PL.pX PL.pK PL.pF PL.qh PL.pP PL.pA PL.dh PL.dI PL.cE PL.gy PL.cg PL.fT PL.bT PL.bj PL.bq PL.dM PL.dr PL.iC PL.cZ PL.eE PL.d0 PL.gD PL.d4 PL.d6 PL.dk PL.fJ PL.cR PL.cV PL.d5 PL.eQ PL.iy PL.df PL.du PL.er PL.erL PL.aP PL.bD PL.bO PL.cp PL.lend PL.back PL.outs PL.frA PL.vv g_ MN h_ LR a_ MV Mz O5 Oa MB LN NX List.zipWith_cons_cons List.zipWith_nil_left List.zipWith_nil_right decide_eq_true_eq decide_true decide_false OZ N7 Mt Bool.and_self Kk true_and Option.map_some Nw MP PySem.sizeLine_eq PL.Th.v if_true if_false Mp.fM Nat.reduceAdd Nat.reduceSub Nat.reduceLeDiff Mp.kq Mp.dF Mp.cP Mp.dc !Mp.k9 !PL.gH !PL.fW !PL.lU !PL.g9 Mp.cL Mp.dQ Mp.bC Mp.aR Mp.aG Mp.bg !Mp.b7 !Mp.bR !Mp.bc Mp.bC Mp.aR Mp.aG Mp.bg !Mp.b7 !Mp.bR !Mp.bc Mp.lq Mp.dR Mp.cU Mp.dv !Mp.gn !Mp.ik !PL.iz !PL.qk Mp.pq Mp.kx Mp.d3 Mp.eM !Mp.gB Mp.xU Mp.x4 Mp.iM Mp.cX Mp.cf Mp.cc Mp.dD !Mp.kj Mp.kX Mp.d9 Mp.dm Mp.eW !Mp.h9 !Mp.hX Mp.gK Mp.cG Mp.cH Mp.lC Mp.cS Mp.eT Mp.xG Mp.xK Mp.xy Mp.xc !Mp.fV !Mp.gU !Mp.gS !Mp.fH !Mp.iK !Mp.iL !Mp.gP !Mp.gq !Mp.iB Mp.e9 Mp.bC Mp.aR Mp.aG !Mp.b7 !Mp.gf !Mp.kZ Mp.jd Mp.dw Mp.cY !Mp.gZ Mp.jt Mp.cQ Mp.d7 Mp.d8 !Mp.xA Mp.xQ".splitOn " ").toArray.mapM fun s=>let i:Lean.Ident:=Lean.mkIdent (s.replace "!" "").toName;if s.front=='!' then `(Lean.Parser.Tactic.simpLemma|↓$i:ident) else `(Lean.Parser.Tactic.simpLemma|$i:ident)
 `(tactic| simp only[$l,*])
local macro_rules | `(tactic| walk_at "take")=>`(tactic| refine⟨_,_,_,rfl,by lia,by first|decide|lia,by first|decide|lia,?_⟩)
namespace Mp
open PySem L2 PL
noncomputable def oB:FP:=fun ts k=>∃(o:Bool) (os:List Oc) (i:Nat),ts=[.lst o (os.map ocT),.int (i:Int)]/\i<7/\os.length<=200/\∀(ms:List Int) (z:T),ms.Pairwise (·<·)->(∀z,z∈ms↔∃o∈os,z=gA i o\/z=gA (i+1) o)->k (.lst true (ms.map T.int)) [.lst o (os.map ocT),.int (i:Int)]
section
variable{P:Qv}{w:Qy}{K:Qg}{mg:Str->Option Qf}{base:Qz}
theorem n9:FnScope ["octos","at"] ["octos","at"] (ax jo):=⟨rfl,rfl,rfl,by decide +kernel,rfl,by decide +kernel,by decide +kernel⟩
theorem tB{f:Qh}{fd:QF}(F:Fun K "bounds_at" "bounds_at" jo f fd)(TX:Txt mg)  :FnOk P w K mg base CX0 1 f fd ["octos","at"] (aS K 2 oB):=by
 refine bS F n9 [true,true] rfl (fun cdv A outer s H E hr=>?_);have sc:=@n9;have nd1:(["octo","at"]:List Str).Nodup:=by decide +kernel
 have nd2:(["octo","at"]:List Str).Nodup:=by decide +kernel
 refine⟨_,(ai (aL (aB (mQ (by rfl) (by rfl) TX.sorted (by rfl) TX.set (aj az (bz sc ["octo","at"] [none,some 1] nd1 (by decide +kernel) (aQ (ae 0)) (fun _ _ _=>(ak (i:=0) nd1 (by rfl) (e_ rfl) (by rfl) (hf:=(s_ rfl)))) (fun _ _ _=>b8) (fun _ _ _=>(ay hr (ae 0) (ae 1)))) (bz sc ["octo","at"] [none,some 1] nd2 (by decide +kernel) (aQ (ae 0)) (fun _ _ _=>(ak (i:=0) nd2 (by rfl) (e_ rfl) (by rfl) (hf:=(s_ rfl)))) (fun _ _ _=>b8) (fun _ _ _=>(ay hr (ae 0) (aj az (ae 1) ge_int))))))))),fun ts kk hl hp=>?_⟩;clear hl;obtain⟨o,os,i,rfl,hi,hz,q⟩:=hp;walk_at "go";refine aH (by rw[a_,sizeLine_eq];lia) (fun j acc ie=>∃z1,acc=(os.take j).map (fun o=>T.int (gA i o))/\ie=[z1,.int (i:Int)]) ⟨_,rfl,rfl⟩ ?_ ?_
 ·rintro j t _ _ ⟨z1,rfl,rfl⟩ ei;obtain⟨o',eo,rfl⟩:=aI ei;walk_at "go";refine b6 (FJ (by lia)) ?_;walk_at "go";exact⟨_,by rw[map_take eo],rfl⟩
 rintro _ _ ⟨z1,rfl,rfl⟩;rw[a_,u_];walk_at "go";refine aH (by rw[a_,sizeLine_eq];lia) (fun j acc ie=>∃z1,acc=(os.take j).map (fun o=>T.int (gA (i+1) o))/\ie=[z1,.int (i:Int)]) ⟨_,rfl,rfl⟩ ?_ ?_
 ·rintro j t _ _ ⟨z1,rfl,rfl⟩ ei;obtain⟨o',eo,rfl⟩:=aI ei;walk_at "go";refine b6 (FJ (i:=i+1) (by lia)) ?_;walk_at "go";exact⟨_,by rw[map_take eo],rfl⟩
 rintro _ _ ⟨z1,rfl,rfl⟩;rw[a_,u_];walk_at "go";refine⟨by lia,b6 AB ?_⟩;walk_at "go";refine⟨by rw[f',a_,a_];lia,fun ms h1 h2=>?_⟩;refine q ms .non h1 fun z=>?_;rw[h2 z,v_,t_,t_];exact⟨fun h=>h.elim (fun⟨o,m,e⟩=>⟨o,m,.inl e.symm⟩) fun⟨o,m,e⟩=>⟨o,m,.inr e.symm⟩,fun⟨o,m,e⟩=>e.elim (fun e=>.inl ⟨o,m,e.symm⟩) fun e=>.inr ⟨o,m,e.symm⟩⟩
end
noncomputable def jT:FP:=fun ts k=>∃(o:Bool) (os:List Oc) (B:Nat),ts=[.lst o (os.map ocT)]/\lF B os/\∀(S:List Int),Sds B os S->k (.lst true (S.map T.int)) [.lst o (os.map ocT)]
section
variable{P:Qv}{w:Qy}{K:Qg}{mg:Str->Option Qf}{base:Qz}
theorem js:FnScope ["octos","west","east","levels","falls","rises","sides","fall","rise"] ["octos"] (ax fj):=⟨rfl,rfl,rfl,by decide +kernel,rfl,by decide +kernel,by decide +kernel⟩
theorem qa{f:Qh}{fd:QF}(F:Fun K "strip_sides" "strip_sides" fj f fd)(TX:Txt mg)  (G_bounds_at:Cal P w K mg base 1 "bounds_at" ["octos","at"] (aS K 2 oB)):FnOk P w K mg base CX0 2 f fd ["octos"] (aS K 1 jT):=by
 refine bS F js [true] rfl (fun cdv A outer s H E hr=>?_);have sc:=@js;have nd1:(["octo"]:List Str).Nodup:=by decide +kernel
 have nd2:(["octo"]:List Str).Nodup:=by decide +kernel
 have nd3:(["bound"]:List Str).Nodup:=by decide +kernel
 have nd4:(["level","fall"]:List Str).Nodup:=by decide +kernel
 have nd5:(["rise","fall"]:List Str).Nodup:=by decide +kernel
 have nd6:(["level","rise"]:List Str).Nodup:=by decide +kernel
 have nd7:(["side","west","east"]:List Str).Nodup:=by decide +kernel
 refine⟨_,(af (bA (cN (pO (cC (ae 0)))) (ai (aL (aB (bh ag)))) aT) (af (av (i:=1) sc.nd (by rfl) (s_ rfl) (by rfl) (aB (aj aU ge_int (aA (jI rfl) (by rfl) TX.min (by decide +kernel) (ab (bz sc ["octo"] [none] nd1 (by decide +kernel) (aQ (ae 0)) (fun _ _ _=>(ak (i:=0) nd1 (by rfl) (e_ rfl) (by rfl) (hf:=(s_ rfl)))) (fun _ _ _=>b8) (fun _ _ _=>(ay hr (ae 0) ge_int))) ag))))) (af (av (i:=2) sc.nd (by rfl) (s_ rfl) (by rfl) (aB (aj aU ge_int (aA (fF rfl) (by rfl) TX.max (by decide +kernel) (ab (bz sc ["octo"] [none] nd2 (by decide +kernel) (aQ (ae 0)) (fun _ _ _=>(ak (i:=0) nd2 (by rfl) (e_ rfl) (by rfl) (hf:=(s_ rfl)))) (fun _ _ _=>b8) (fun _ _ _=>(ay hr (ae 0) ge_int))) ag))))) (af (av (i:=3) sc.nd (by rfl) (e_ rfl) (by rfl) (aB (au G_bounds_at hr (by rfl) (ah (ae 0) (ah ge_int aq))))) (af (av (i:=4) sc.nd (by rfl) (e_ rfl) (by rfl) (aB (au G_bounds_at hr (by rfl) (ah (ae 0) (ah ge_int aq))))) (af (av (i:=5) sc.nd (by rfl) (e_ rfl) (by rfl) (aB (au G_bounds_at hr (by rfl) (ah (ae 0) (ah ge_int aq))))) (af (bA (cN (aY nW (aj bJ (ae 2) (ae 1)) (aj az (aj aU (aA bG (by rfl) TX.len (by decide +kernel) (ab (ae 3) ag)) (aj az (aA bG (by rfl) TX.len (by decide +kernel) (ab (ae 4) ag)) (aA bG (by rfl) TX.len (by decide +kernel) (ab (ae 5) ag)))) (aj aU (aA bG (by rfl) TX.len (by decide +kernel) (ab (ae 4) ag)) (aA bG (by rfl) TX.len (by decide +kernel) (ab (ae 5) ag)))) (aJ _))) (ai (aL (aB (rb (by rfl) (by rfl) TX.list (by rfl) TX.range (ab (ae 1) (ab (aj az (ae 2) ge_int) ag)))))) aT) (af (iV sc (i:=6) ["bound"] [none] nd3 (by decide +kernel) (by rfl) (e_ rfl) (by rfl) (aQ (au G_bounds_at hr (by rfl) (ah (ae 0) (ah ge_int aq)))) (fun _ _ _=>(ak (i:=0) nd3 (by rfl) (e_ rfl) (by rfl) (hf:=(s_ rfl)))) (fun _ _ _=>b8) (fun _ _ _=>(aj aU ge_int (ae 0))) (by rfl)) (af (bB QG (by rfl) (aQ (bp 4)) (ak (i:=7) sc.nd (by rfl) (s_ rfl) (by rfl)) (af (bP (bQ 6 SK SM lx (ab (aB (bz sc ["level","fall"] [none,some 7] nd4 (by decide +kernel) (aQ (ae 3)) (fun _ _ _=>(ak (i:=0) nd4 (by rfl) (e_ rfl) (by rfl) (hf:=(s_ rfl)))) (fun _ _ _=>b8) (fun _ _ _=>(aj aU ge_int (aj bJ (ae 1) (ae 0)))))) ag))) (ai (bP (bQ 6 SK SM lx (ab (aB (bz sc ["rise","fall"] [none,some 7] nd5 (by decide +kernel) (aQ (ae 5)) (fun _ _ _=>(ak (i:=0) nd5 (by rfl) (e_ rfl) (by rfl) (hf:=(s_ rfl)))) (fun _ _ _=>b8) (fun _ _ _=>(aj az (ae 1) (ae 0))))) ag)))))) (af (bB QG (by rfl) (aQ (bp 5)) (ak (i:=8) sc.nd (by rfl) (s_ rfl) (by rfl)) (ai (bP (bQ 6 SK SM lx (ab (aB (bz sc ["level","rise"] [none,some 8] nd6 (by decide +kernel) (aQ (ae 3)) (fun _ _ _=>(ak (i:=0) nd6 (by rfl) (e_ rfl) (by rfl) (hf:=(s_ rfl)))) (fun _ _ _=>b8) (fun _ _ _=>(aj aU ge_int (aj az (ae 1) (ae 0)))))) ag))))) (ai (aL (aB (mQ (by rfl) (by rfl) TX.sorted (by rfl) TX.set (bz sc ["side","west","east"] [none,some 1,some 2] nd7 (by decide +kernel) (aQ (ae 6)) (fun _ _ _=>(ak (i:=0) nd7 (by rfl) (e_ rfl) (by rfl) (hf:=(s_ rfl)))) (fun _ _ _=>(ug (Cg nW nW (ae 1) (ae 0) (ae 2)))) (fun _ _ _=>(ae 0))))))))))))))))),fun ts kk hl hp=>?_⟩;clear hl;obtain⟨o,os,B,rfl,⟨hz,hB,hc,vo,bd⟩,q⟩:=hp;walk_at "go";refine nS (fun h=>?_) (fun h=>?_)
 ·have e0:os=[]:=MU.mp (Pq.mp h);walk_at "go";refine q [] ⟨.nil,by decide,fun _=>rfl,fun z=>absurd e0 z,fun i l r e=>by cases e⟩
 have ne:os≠[]:=fun z=>by rw[z]at h;cases h
 have hne:∀j,os.map (gA j)≠[]:=fun j z=>ne (MU.mp z);walk_at "go";refine aH (by rw[a_,sizeLine_eq];lia) (fun j acc ie=>∃z1,acc=(os.take j).map (fun o=>T.int (gA 0 o))/\ie=[z1]) ⟨_,rfl,rfl⟩ ?_ ?_
 ·rintro j t _ _ ⟨z1,rfl,rfl⟩ ei;obtain⟨o',eo,rfl⟩:=aI ei;walk_at "go";exact⟨_,by rw[map_take eo];rfl,rfl⟩
 rintro _ _ ⟨z1,rfl,rfl⟩;rw[a_,u_];walk_at "go";refine⟨hne 0,fun W hW=>⟨c2 _,?_⟩⟩;refine aH (by rw[a_,sizeLine_eq];lia) (fun j acc ie=>∃z1,acc=(os.take j).map (fun o=>T.int (gA 1 o))/\ie=[z1]) ⟨_,rfl,rfl⟩ ?_ ?_
 ·rintro j t _ _ ⟨z1,rfl,rfl⟩ ei;obtain⟨o',eo,rfl⟩:=aI ei;walk_at "go";exact⟨_,by rw[map_take eo];rfl,rfl⟩
 rintro _ _ ⟨z1,rfl,rfl⟩;rw[a_,u_];walk_at "go";refine⟨hne 1,fun E hE=>⟨c2 _,?_⟩⟩;refine⟨false,os,2,rfl,by decide,by omega,fun lv _ lv1 lv2=>?_⟩;walk_at "go";refine⟨false,os,4,rfl,by decide,by omega,fun fa _ fa1 fa2=>?_⟩;walk_at "go";refine⟨false,os,6,rfl,by decide,by omega,fun ri _ ri1 ri2=>?_⟩;walk_at "go";have bl:=oS lv1 lv2;have bf:=oS fa1 fa2;have br:=oS ri1 ri2;have w1:∃o∈os,W=o.a:=by obtain⟨x,m,e⟩:=t_.mp hW.1;exact⟨x,m,e.symm⟩
 have w2:∀o∈os,W<=o.a:=fun x m=>hW.2 _ (LG (f:=gA 0) m);have e1:∃o∈os,E=o.b:=by obtain⟨x,m,e⟩:=t_.mp hE.1;exact⟨x,m,e.symm⟩
 have e2:∀o∈os,o.b<=E:=fun x m=>hE.2 _ (LG (f:=gA 1) m);have bW:-(B:Int)<=W/\W<=E/\E<=B:=by obtain⟨x,m,e⟩:=w1;obtain⟨y,m',e'⟩:=e1;have g1:=(bd x m).1;have g2:=(bd y m').1;have g3:=e2 x m;have g4:=(vo x m).1.1;lia
 refine⟨.inl ⟨by lia,by lia⟩,.inl ⟨by lia,by lia⟩,b9 (fun h2=>?_) (fun h2=>?_)⟩
 ·have hl:2*E-2*W<=50000:=by
   rcases hc with hc|hc
   ·have p1:lv.length*(fa.length+ri.length)<=128*256:=ME (by lia) (by lia);have p2:fa.length*ri.length<=128*128:=ME (by lia) (by lia);have p1':(lv.length:Int)*((fa.length:Int)+ri.length)<=128*256:=by exact_mod_cast p1
    have p2':(fa.length:Int)*ri.length<=128*128:=by exact_mod_cast p2
    lia
   lia
  walk_at "go";refine⟨⟨by lia,by lia,by lia,by lia,by lia⟩,?_⟩;have:=q _ (A3 ne vo bd w1 w2 e1 e2 hl);rw[B']at this;refine⟨?_,this⟩;unfold jQ;rw[bq];exact Nb.mpr fun _ _=>rfl
 walk_at "go";refine⟨false,os,0,rfl,by decide,by omega,fun xb _ xb1 xb2=>?_⟩;walk_at "go";have bx:=oS xb1 xb2;refine aH (by rw[a_,sizeLine_eq];lia) (fun j acc ie=>∃z1,acc=(xb.take j).map (fun x=>T.int (2*x))/\ie=[z1]) ⟨_,rfl,rfl⟩ ?_ ?_
 ·rintro j t _ _ ⟨z1,rfl,rfl⟩ ei;obtain⟨x,ex,rfl⟩:=aI ei;walk_at "go";exact⟨c2 _,_,by rw[map_take ex],rfl⟩
 rintro _ _ ⟨z1,rfl,rfl⟩;rw[a_,u_];walk_at "go";refine aZ (fun i env=>∃(L:List Int) (z7 z8:T),L.length=xb.length+i*(lv.length+ri.length)/\(∀x∈xb,2*x∈L)/\(∀f∈fa.take i,(∀l∈lv,2*(f-l)∈L)/\∀r∈ri,f+r∈L)/\env=[.lst o (os.map ocT),.int (2*W),.int (2*E),.lst true (lv.map T.int),.lst false (fa.map T.int),.lst true (ri.map T.int),.lst true (L.map T.int),z7,z8]) ⟨xb.map fun x=>2*x,_,_,by rw[a_];lia,fun x m=>t_.mpr ⟨x,m,rfl⟩,(fun f m=>by cases m),by rw[B'];rfl⟩ ?_ ?_
 ·rintro i t _ ⟨L,z7,z8,hL,k1,k2,rfl⟩ ei;obtain⟨f,ef,rfl⟩:=aI ei;have hi:i<fa.length:=(d_.mp ef).1;have hm:i*(lv.length+ri.length)<=400*800:=ME (by lia) (by lia);walk_at "go";refine aH (by rw[a_,sizeLine_eq];lia) (fun j acc ie=>∃z1,acc=(lv.take j).map (fun l=>T.int (2*(f-l)))/\ie=[z1,.int f]) ⟨_,rfl,rfl⟩ ?_ ?_
  ·rintro j t _ _ ⟨z1,rfl,rfl⟩ ej;obtain⟨x,ex,rfl⟩:=aI ej;walk_at "go";exact⟨c2 _,_,by rw[map_take ex],rfl⟩
  rintro _ _ ⟨z1,rfl,rfl⟩;rw[a_,u_];walk_at "go";refine⟨by lia,aH (by rw[a_,sizeLine_eq];lia) (fun j acc ie=>∃z1,acc=(ri.take j).map (fun r=>T.int (f+r))/\ie=[z1,.int f]) ⟨_,rfl,rfl⟩ ?_ ?_⟩
  ·rintro j t _ _ ⟨z1,rfl,rfl⟩ ej;obtain⟨x,ex,rfl⟩:=aI ej;walk_at "go";exact⟨_,by rw[map_take ex],rfl⟩
  rintro _ _ ⟨z1,rfl,rfl⟩;rw[a_,u_];walk_at "go";refine⟨by first|omega|(rw[f',a_,a_];lia),L++(lv.map fun l=>2*(f-l))++ri.map (fun r=>f+r),_,_,?_,fun x m=>w_ _ (w_ _ (k1 x m)),fun g m=>?_,by rw[q_,q_,B',B'];rfl⟩
  ·rw[f',f',a_,a_,hL,P5];lia
  rw[LL,ef]at m;rcases v_.mp m with m|m
  ·exact⟨fun l ml=>w_ _ (w_ _ ((k2 g m).1 l ml)),fun r mr=>w_ _ (w_ _ ((k2 g m).2 r mr))⟩
  obtain rfl:g=f:=z_.mp m;exact⟨fun l ml=>w_ _ (o_ _ (t_.mpr ⟨l,ml,rfl⟩)),fun r mr=>o_ _ (t_.mpr ⟨r,mr,rfl⟩)⟩
 rintro _ ⟨L,z7,z8,hL,k1,k2,rfl⟩;rw[a_]at hL k2;rw[u_]at k2;walk_at "go";have hm:fa.length*(lv.length+ri.length)<=400*800:=ME (by lia) (by lia);refine aZ (fun i env=>∃(M:List Int) (z7 z8:T),M.length=L.length+i*lv.length/\(∀x∈L,x∈M)/\(∀r∈ri.take i,∀l∈lv,2*(r+l)∈M)/\env=[.lst o (os.map ocT),.int (2*W),.int (2*E),.lst true (lv.map T.int),.lst false (fa.map T.int),.lst false (ri.map T.int),.lst true (M.map T.int),z7,z8]) ⟨L,_,_,by lia,fun x m=>m,(fun f m=>by cases m),rfl⟩ ?_ ?_
 ·rintro i t _ ⟨M,z7,z8,hM,j1,j2,rfl⟩ ei;obtain⟨r,er,rfl⟩:=aI ei;have hi:i<ri.length:=(d_.mp er).1;have hm2:i*lv.length<=400*400:=ME (by lia) (by lia);walk_at "go";refine aH (by rw[a_,sizeLine_eq];lia) (fun j acc ie=>∃z1,acc=(lv.take j).map (fun l=>T.int (2*(r+l)))/\ie=[z1,.int r]) ⟨_,rfl,rfl⟩ ?_ ?_
  ·rintro j t _ _ ⟨z1,rfl,rfl⟩ ej;obtain⟨x,ex,rfl⟩:=aI ej;walk_at "go";exact⟨c2 _,_,by rw[map_take ex],rfl⟩
  rintro _ _ ⟨z1,rfl,rfl⟩;rw[a_,u_];walk_at "go";refine⟨by lia,M++lv.map (fun l=>2*(r+l)),_,_,?_,fun x m=>w_ _ (j1 x m),fun g m l ml=>?_,by rw[q_,B'];rfl⟩
  ·rw[f',a_,hM,P5];lia
  rw[LL,er]at m;rcases v_.mp m with m|m
  ·exact w_ _ (j2 g m l ml)
  obtain rfl:g=r:=z_.mp m;exact o_ _ (t_.mpr ⟨l,ml,rfl⟩)
 rintro _ ⟨M,z7,z8,hM,j1,j2,rfl⟩;rw[a_]at hM j2;rw[u_]at j2;walk_at "go";have hm3:ri.length*lv.length<=400*400:=ME (by lia) (by lia);refine aH (by rw[a_,sizeLine_eq];lia) (fun j acc ie=>∃z1,acc=((M.take j).filter fun x=>decide (2*W<=x/\x<=2*E)).map T.int/\ie=[z1,.int (2*W),.int (2*E)]) ⟨_,rfl,rfl⟩ ?_ ?_
 ·rintro j t _ _ ⟨z1,rfl,rfl⟩ ej;obtain⟨x,ex,rfl⟩:=aI ej;walk_at "go";rw[jN ex];refine b9 (fun g1=>?_) (fun g1=>?_)
  ·walk_at "go";refine b9 (fun g2=>?_) (fun g2=>?_)
   ·walk_at "go";exact⟨_,by rw[if_pos ⟨g1,g2⟩],rfl⟩
   walk_at "go";exact⟨_,by rw[if_neg fun z=>g2 z.2,E_],rfl⟩
  walk_at "go";exact⟨_,by rw[if_neg fun z=>g1 z.1,E_],rfl⟩
 rintro _ _ ⟨z1,rfl,rfl⟩;rw[a_,u_];walk_at "go";have fl:=LQ (fun x=>decide (2*W<=x/\x<=2*E)) M;have small:M.length<4095:=by
  have n1:=Qa fa.length lv.length ri.length;have n2:=Qa lv.length fa.length ri.length;have n3:=P6 lv.length fa.length;have n4:=P6 lv.length ri.length;have h3:lv.length*(fa.length+ri.length)+fa.length*ri.length<(2*E-2*W).toNat:=by
   have:((lv.length*(fa.length+ri.length)+fa.length*ri.length:Nat):Int)<2*E-2*W:=by push_cast;lia
   lia
  rcases hc with hc|hc
  ·have m1:fa.length*(lv.length+ri.length)<=28*56:=ME (by lia) (by lia);have m2:ri.length*lv.length<=28*28:=ME (by lia) (by lia);lia
  lia
 refine⟨by omega,fun S h1 h2=>q S (yE (c:=fun z=>z∈M) ne vo bd w1 w2 e1 e2 ⟨fun x m=>?_,fun x m t' et y m' u eu y' m'' v ev=>?_⟩ h1 (fun z=>?_) ?_)⟩
 ·exact⟨j1 _ (k1 _ ((xb2 _).mpr ⟨x,m,.inl rfl⟩)),j1 _ (k1 _ ((xb2 _).mpr ⟨x,m,.inr rfl⟩))⟩
 ·have il:t'∈lv:=(lv2 _).mpr ⟨x,m,et⟩;have if':u∈fa:=(fa2 _).mpr ⟨y,m',eu⟩;have ir:v∈ri:=(ri2 _).mpr ⟨y',m'',ev⟩;exact⟨j1 _ ((k2 u if').1 _ il),j2 v ir _ il,j1 _ ((k2 u if').2 _ ir)⟩
 ·rw[h2 z,J_,decide_eq_true_iff]
 have:=uF (G3 h1) fun z hz=>(h2 z).mp hz;lia
end
noncomputable def jn:FP:=fun ts k=>∃(o:Bool) (os:List Oc) (m:Int),ts=[.lst o (os.map ocT),.int m]/\os.length<=1000/\∀(U:List Oc) (z:T),U.Perm os->(spn U m).Pairwise (fun p q=>p.1<=q.1)->k (.int (sw (wF (spn U m)) (spn U m))) [z,.int m]
section
variable{P:Qv}{w:Qy}{K:Qg}{mg:Str->Option Qf}{base:Qz}
theorem iQ:FnScope ["octos","middle","spans","octo","low","high","length","top"] ["octos","middle"] (ax eD):=⟨rfl,rfl,rfl,by decide +kernel,rfl,by decide +kernel,by decide +kernel⟩
theorem oN{f:Qh}{fd:QF}(F:Fun K "length_along" "length_along" eD f fd)(TX:Txt mg)  :FnOk P w K mg base CX0 1 f fd ["octos","middle"] (aS K 2 jn):=by
 refine bS F iQ [true,true] rfl (fun cdv A outer s H E hr=>?_);have sc:=@iQ;refine⟨_,(af (av (i:=2) sc.nd (by rfl) (e_ rfl) (by rfl) (aB (bh ag))) (af (bB QG (by rfl) (aQ (bp 0)) (ak (i:=3) sc.nd (by rfl) (e_ rfl) (by rfl)) (af (av (i:=4) sc.nd (by rfl) (e_ rfl) (by rfl) (aB (aA (fF rfl) (by rfl) TX.max (by decide +kernel) (ab (aj aU ge_int (ay hr (ae 3) ge_int)) (ab (aj bJ (aj aU ge_int (ay hr (ae 3) ge_int)) (ae 1)) (ab (aj bJ (ae 1) (aj aU ge_int (ay hr (ae 3) ge_int))) ag)))))) (af (av (i:=5) sc.nd (by rfl) (e_ rfl) (by rfl) (aB (aA (jI rfl) (by rfl) TX.min (by decide +kernel) (ab (aj aU ge_int (ay hr (ae 3) ge_int)) (ab (aj bJ (aj aU ge_int (ay hr (ae 3) ge_int)) (ae 1)) (ab (aj bJ (ae 1) (aj aU ge_int (ay hr (ae 3) ge_int))) ag)))))) (ai (bP (bQ 2 QP QQ bu (ab (aB (aD (ab (ae 4) (ab (ae 5) ag)))) ag))))))) (af (av (i:=2) sc.nd (by rfl) (e_ rfl) (by rfl) (aB (aA qX (by rfl) TX.sorted (by decide +kernel) (ab (ae 2) ag)))) (af (av (i:=6) sc.nd (by rfl) (e_ rfl) (by rfl) ge_int) (af (av (i:=7) sc.nd (by rfl) (e_ rfl) (by rfl) (aB (ge_if (cC (ae 2)) (ay hr (ay hr (ae 2) ge_int) ge_int) ge_int))) (af (bB QG (by rfl) (aQ (bp 2)) (dJ (n:=2) (by rfl) (aE (ak (i:=4) sc.nd (by rfl) (e_ rfl) (by rfl)) (aE (ak (i:=5) sc.nd (by rfl) (e_ rfl) (by rfl)) cw))) (ai (bA (cN (aY tP (ae 5) (ae 7) (aJ _))) (af (BI (i:=6) sc.nd (by rfl) (e_ rfl) (by rfl) (aB (aj bJ (ae 5) (aA (fF rfl) (by rfl) TX.max (by decide +kernel) (ab (ae 4) (ab (ae 7) ag))))) yS) (ai (av (i:=7) sc.nd (by rfl) (e_ rfl) (by rfl) (bp 5)))) aT))) (ai (aL (rX 6))))))))),fun ts kk hl hp=>?_⟩;clear hl;obtain⟨o,os,m,rfl,hz,q⟩:=hp;walk_at "go";refine aZ (fun i env=>∃z3 z4 z5,env=[.lst false (os.map ocT),.int m,.lst true ((spn (os.take i) m).map ptP),z3,z4,z5,.any,.any]) ⟨_,_,_,rfl⟩ ?_ ?_
 ·rintro i t _ ⟨z3,z4,z5,rfl⟩ ei;obtain⟨x,ex,rfl⟩:=aI ei;have hi:=(d_.mp ex).1;have ll:(spn (os.take i) m).length<=i:=by unfold spn;rw[a_,D'];lia
  walk_at "go";exact⟨c4 _,c4 _,c4 _,c4 _,c4 _,c4 _,by lia,_,_,_,by rw[AQ ex,q_];rfl⟩
 rintro _ ⟨z3,z4,z5,rfl⟩;rw[a_,u_];walk_at "go";obtain⟨U,pU,eU,sU⟩:=Dx (os:=os) (m:=m);rw[eU];have hq:∀z,kk _ _:=fun z=>q U z pU sU;clear q;have ln:(spn U m).length=os.length:=by unfold spn;rw[a_,pU.length_eq]
 generalize spn U m=sp at *;cases sp with
 |nil=>
  refine nS (fun _=>?_) (fun h=>by cases h);walk_at "go";refine aZ (fun i env=>env=[.lst false (os.map ocT),.int m,.lst false [],z3,z4,z5,.int 0,.int 0]) rfl (fun i t env _ e=>by cases e) ?_;rintro _ rfl;walk_at "go";exact hq _
 |cons p r=>
  refine nS (fun h=>by cases h) (fun _=>?_);walk_at "go";have el:ptP p::I_ (fun x=>ptP x) r=(p::r).map ptP:=rfl;rw[el];have e0:wF (p::r)=p.1:=rfl;rw[e0]at hq;generalize p.1=t0 at *;generalize p::r=sp at *;refine aZ (fun i env=>∃(a t:Int) (z4 z5:T),a+sw t (sp.drop i)=sw t0 sp/\env=[.lst false (os.map ocT),.int m,.lst false (sp.map ptP),z3,z4,z5,.int a,.int t]) ⟨0,t0,_,_,by rw[M8];lia,rfl⟩ ?_ ?_
  ·rintro i t _ ⟨a,t,z4,z5,ha,rfl⟩ ei;obtain⟨x,ex,rfl⟩:=aI ei;have hi:=(d_.mp ex).1;have ed:sp.drop i=x::sp.drop (i+1):=by rw[Np hi];congr 1;exact(d_.mp ex).2
   rw[ed,sw]at ha;walk_at "go";refine b9 (fun g=>?_) (fun g=>?_)
   ·rw[if_pos g]at ha;walk_at "go";exact⟨_,_,_,_,by rw[<-ha];lia,rfl⟩
   rw[if_neg g]at ha;walk_at "go";exact⟨_,_,_,_,ha,rfl⟩
  rintro _ ⟨a,t,z4,z5,ha,rfl⟩;rw[a_,List.drop_length]at ha;have ha:a+0=_:=ha;rw[N1]at ha;subst ha;walk_at "go";exact hq _
end
noncomputable def rB:FP:=fun ts k=>∃(c o b u:Bool) (os:List Oc) (B:Nat),ts=[ogT c o b u os]/\lF B os/\∀z:T,k (.int (Ar B os/2)) [z]
section
variable{P:Qv}{w:Qy}{K:Qg}{mg:Str->Option Qf}{base:Qz}
theorem qe:FnScope ["octos","waiting","sides","there","doubled","left","right"] ["octos"] (ax nh):=⟨rfl,rfl,rfl,by decide +kernel,rfl,by decide +kernel,by decide +kernel⟩
theorem xf{f:Qh}{fd:QF}(F:Fun K "area_of" "area_of" nh f fd)(TX:Txt mg)  (G_strip_sides:Cal P w K mg base 2 "strip_sides" ["octos"] (aS K 1 jT))(G_length_along:Cal P w K mg base 1 "length_along" ["octos","middle"] (aS K 2 jn)):FnOk P w K mg base CX0 3 f fd ["octos"] (aS K 1 rB):=by
 refine bS F qe [true] rfl (fun cdv A outer s H E hr=>?_);have sc:=@qe;have nd1:(["octo"]:List Str).Nodup:=by decide +kernel
 have nd2:(["octo","right"]:List Str).Nodup:=by decide +kernel
 refine⟨_,(af (av (i:=1) sc.nd (by rfl) (e_ rfl) (by rfl) (aB (uB (by rfl) TX.sorted (bz sc ["octo"] [none] nd1 (by decide +kernel) (aQ (ae 0)) (fun _ _ _=>(ak (i:=0) nd1 (by rfl) (e_ rfl) (by rfl) (hf:=(s_ rfl)))) (fun _ _ _=>b8) (fun _ _ _=>(bH cF (by rfl) TX.tuple (by decide +kernel) (ab (ae 0) ag))))))) (af (av (i:=2) sc.nd (by rfl) (e_ rfl) (by rfl) (aB (au G_strip_sides hr (by rfl) (ah (ae 1) aq)))) (af (av (i:=3) sc.nd (by rfl) (e_ rfl) (by rfl) (aB (bh ag))) (af (av (i:=4) sc.nd (by rfl) (e_ rfl) (by rfl) ge_int) (af (bB QG (by rfl) (CP (by rfl) TX.zip (ab (bp 2) (ab (aB (BM (ae 2) (Ee ge_int) DW)) ag))) (dJ (n:=2) (by rfl) (aE (ak (i:=5) sc.nd (by rfl) (e_ rfl) (by rfl)) (aE (ak (i:=6) sc.nd (by rfl) (s_ rfl) (by rfl)) cw))) (eX (B3 QG (cN (uP (nV (cC (ae 1)) (jM (aY nW (aj aU ge_int (ay hr (ay hr (ae 1) (cn ge_int)) ge_int)) (ae 5) (aJ _)))))) (ai (bP (bQ 3 QP QQ bu (ab (Ct 1 PySem.F.slot_list_pop PySem.F.type_list_pop DT) ag))))) (af (iV sc (i:=3) ["octo","right"] [none,some 6] nd2 (by decide +kernel) (by rfl) (e_ rfl) (by rfl) (aQ (ae 3)) (fun _ _ _=>(ak (i:=0) nd2 (by rfl) (e_ rfl) (by rfl) (hf:=(s_ rfl)))) (fun _ _ _=>(ug (aY Gv (aj aU ge_int (ay hr (ae 0) ge_int)) (ae 1) (aJ _)))) (fun _ _ _=>(ae 0)) (by rfl)) (ai (BI (i:=4) sc.nd (by rfl) (e_ rfl) (by rfl) (aB (aj aU (aj bJ (ae 6) (ae 5)) (au G_length_along hr (by rfl) (ah (ae 3) (ah (aj az (ae 5) (ae 6)) aq))))) yS))))) (ai (aL (aB (aj E9 (ae 4) ge_int))))))))),fun ts kk hl hp=>?_⟩;clear hl;obtain⟨c,o,b,u,os,B,rfl,hs,q⟩:=hp;walk_at "go";have hlen:=hs.1;refine aH (by rw[a_,sizeLine_eq];lia) (fun j acc ie=>∃z1,acc=(os.take j).map ocT/\ie=[z1]) ⟨_,rfl,rfl⟩ ?_ ?_
 ·rintro j t _ _ ⟨z1,rfl,rfl⟩ ei;obtain⟨x,ex,rfl⟩:=aI ei;walk_at "go";exact⟨_,by rw[map_take ex],rfl⟩
 rintro _ _ ⟨z1,rfl,rfl⟩;rw[a_,u_];walk_at "go";refine b6 (oC ocT ocL GX (fun x=>NS _ _) os) ?_;intro ls pl sl;obtain⟨ws,pw,rfl⟩:=pT pl rfl;have dn:=Ey sl;have hw:lF B ws:=CY (by rw[pw.length_eq];exact b_ _) (fun x m=>pw.mem_iff.mp m) hs;have hA:Ar B ws=Ar B os:=Gw fun x=>pw.mem_iff;rw[<-hA]at q;clear hA pl sl;have el:(ws.map ocL).map iT=ws.map ocT:=by rw[B'];rfl
 rw[el];walk_at "go";refine⟨false,ws,B,rfl,hw,fun S hS=>?_⟩;walk_at "go";rw[L7 (ts:=I_ (fun x=>T.int x) S)];refine⟨by rw[<-O0,bq];exact Nb.mpr fun _ _=>rfl,?_⟩;rw[Bq];refine aZ (fun i env=>∃(V th:List Oc) (D:Int) (z5 z6:T),AJ B ws S i V th D/\env=[ogT c o b u os,.lst true (V.map ocT),.lst false (S.map T.int),.lst true (th.map ocT),.int D,z5,z6]) ⟨ws,[],0,_,_,KS dn,rfl⟩ ?_ ?_
 ·rintro i t _ ⟨V,th,D,z5,z6,J,rfl⟩ ei;obtain⟨⟨l,r⟩,ex,rfl⟩:=aI ei;obtain⟨sl,sr⟩:=Gz ex;have J':=J.2 l sl;walk_at "go";refine jm (fun env=>∃(V th:List Oc),AK ws l V th/\(∀x∈V,l<2*x.a)/\env=[ogT c o b u os,.lst true (V.map ocT),.lst false (S.map T.int),.lst true (th.map ocT),.int D,.int l,.int r]) ?_ ?_
  ·walk_at "go";refine As (fun m env=>∃(V th:List Oc),m=V.length/\AK ws l V th/\env=[ogT c o b u os,.lst true (V.map ocT),.lst false (S.map T.int),.lst true (th.map ocT),.int D,.int l,.int r]) V.length ⟨V,th,rfl,J'.1,rfl⟩ ?_;rintro m _ ⟨V,th,rfl,K',rfl⟩;walk_at "go";rcases List.eq_nil_or_concat V with rfl|⟨V',x,rfl⟩
   ·refine nS (fun _=>?_) (fun h=>by cases h);walk_at "go";exact⟨[],th,K',(fun x m=>by cases m),rfl⟩
   have lc:=O' (as:=V') (a:=x);refine nS (fun h=>?_) (fun _=>?_)
   ·rw[Pq,MU]at h;rw[h]at lc;cases lc
   walk_at "go";refine b6 (F8 V' x) ?_;walk_at "go";refine⟨c2 _,b9 (fun g=>?_) (fun g=>?_)⟩
   ·walk_at "go";refine b6 (vY V' x).1 ?_;rw[(vY V' x).2];walk_at "go";have:=K'.2.2.2.2;have:=hw.1;refine⟨by lia,V'.length,by lia,V',th++[x],rfl,HL K' g,by rw[q_];rfl⟩
   walk_at "go";refine⟨V'.concat x,th,K',fun y m=>?_,rfl⟩;rw[MI]at m;have:=K'.1;rw[MI,C_]at this;rcases v_.mp m with m|m
   ·have:=this.2.2 y m x p_;lia
   rw[z_.mp m];lia
  have J0:=J'.2;clear J' z5 z6 V th J;rintro _ ⟨V,th,K',hV,rfl⟩;walk_at "go";have tl:=K'.2.2.2.2;have wl:=hw.1;refine aH (by rw[a_,sizeLine_eq];lia) (fun j acc ie=>∃z1,acc=((th.take j).filter fun x=>decide (r<=2*x.b)).map ocT/\ie=[z1,.int r]) ⟨_,rfl,rfl⟩ ?_ ?_
  ·rintro j t _ _ ⟨z1,rfl,rfl⟩ ej;obtain⟨x,ex,rfl⟩:=aI ej;walk_at "go";rw[jN ex];refine⟨c2 _,b9 (fun g=>?_) (fun g=>?_)⟩
   ·walk_at "go";exact⟨_,by rw[if_pos g],rfl⟩
   walk_at "go";exact⟨_,by rw[if_neg g,E_],rfl⟩
  rintro _ _ ⟨z1,rfl,rfl⟩;rw[a_,u_];walk_at "go";have fl:=LQ (fun x:Oc=>decide (r<=2*x.b)) th;refine⟨false,_,l+r,rfl,by lia,fun U z pU sU=>?_⟩;walk_at "go";have lr:=C7 hw hS sl sr;exact⟨.inl ⟨by lia,by lia⟩,V,_,_,_,_,Eo hw hS sl sr J0 K' hV pU sU,rfl⟩
 rintro _ ⟨V,th,D,z5,z6,J,rfl⟩;walk_at "go";refine⟨⟨by decide,by decide⟩,?_⟩;rw[IE hw hS J];exact q _
end
noncomputable def sJ:FP:=fun ts k=>∃(p:Pt) (d:Nat) (m:Int),ts=[ptP p,.int d,.int m]/\d<8/\k (ptP (uU p d m)) ts
section
variable{P:Qv}{w:Qy}{K:Qg}{mg:Str->Option Qf}{base:Qz}
theorem qP:FnScope ["corner","direction","many","step"] ["corner","direction","many"] (ax nM):=⟨rfl,rfl,rfl,by decide +kernel,rfl,by decide +kernel,by decide +kernel⟩
theorem xi{f:Qh}{fd:QF}(F:Fun K "stepped" "stepped" nM f fd)(TX:Txt mg)(C_STEPS:Glb K mg "STEPS" tD) :FnOk P w K mg base CX0 1 f fd ["corner","direction","many"] (aS K 3 sJ):=by refine bS F qP [true,true,true] rfl (fun cdv A outer s H E hr=>?_);have sc:=@qP;refine⟨_,(af (av (i:=3) sc.nd (by rfl) (e_ rfl) (by rfl) (aB (ay hr (IS C_STEPS (by rfl)) (ae 1)))) (ai (aL (aB (aD (ab (aj az (ay hr (ae 0) ge_int) (aj aU (ay hr (ae 3) ge_int) (ae 2))) (ab (aj az (ay hr (ae 0) ge_int) (aj aU (ay hr (ae 3) ge_int) (ae 2))) ag))))))),fun ts kk hl hp=>?_⟩;clear hl;obtain⟨p,d,m,rfl,hd,q⟩:=hp;walk_at "go";refine b6 (B2 hd) ?_;have:=AA d hd;walk_at "go";exact⟨.inl (by lia),.inl (by lia),q⟩
end
noncomputable def pQ:FP:=fun ts k=>∃(p q:Pt),ts=[ptP p,ptP q]/\k (zj p q) ts
section
variable{P:Qv}{w:Qy}{K:Qg}{mg:Str->Option Qf}{base:Qz}
theorem oE:FnScope ["one","other","many","direction"] ["one","other"] (ax jV):=⟨rfl,rfl,rfl,by decide +kernel,rfl,by decide +kernel,by decide +kernel⟩
theorem uV{f:Qh}{fd:QF}(F:Fun K "straight" "straight" jV f fd)(TX:Txt mg)(C_STEPS:Glb K mg "STEPS" tD)(G_stepped:Cal P w K mg base 1 "stepped" ["corner","direction","many"] (aS K 3 sJ)):FnOk P w K mg base CX0 2 f fd ["one","other"] (aS K 2 pQ):=by
 refine bS F oE [true,true] rfl (fun cdv A outer s H E hr=>?_);have sc:=@oE;refine⟨_,(af (av (i:=2) sc.nd (by rfl) (e_ rfl) (by rfl) (aB (aA (fF rfl) (by rfl) TX.max (by decide +kernel) (ab (aA jH (by rfl) TX.abs (by decide +kernel) (ab (aj bJ (ay hr (ae 1) ge_int) (ay hr (ae 0) ge_int)) ag)) (ab (aA jH (by rfl) TX.abs (by decide +kernel) (ab (aj bJ (ay hr (ae 1) ge_int) (ay hr (ae 0) ge_int)) ag)) ag))))) (af (bA (cN (aY (bV hr) (ae 2) ge_int (aJ _))) (ai (aL iX)) aT) (af (bB QG (by rfl) (cW (by rfl) TX.range (ab (aB (aA bG (by rfl) TX.len (by decide +kernel) (ab (IS C_STEPS (by rfl)) ag))) ag)) (ak (i:=3) sc.nd (by rfl) (e_ rfl) (by rfl)) (ai (bA (cN (aY (bV hr) (au G_stepped hr (by rfl) (ah (ae 0) (ah (ae 3) (ah (ae 2) aq)))) (bH cF (by rfl) TX.tuple (by decide +kernel) (ab (ae 1) ag)) (aJ _))) (ai (aL (aB (aD (ab (ae 3) (ab (ae 2) ag)))))) aT))) (ai (aL iX))))),fun ts kk hl hp=>?_⟩;clear hl;obtain⟨a,b,rfl,q⟩:=hp;unfold zj lead far at q;walk_at "go";refine b9 (fun h=>?_) (fun h=>?_)
 ·walk_at "go";rw[if_pos h]at q;exact q
 walk_at "go";rw[if_neg h]at q;refine⟨by decide,aZ (fun i env=>(∀j,j<i->uU a j (far a b)≠b)/\∃z,env=[ptP a,ptP b,.int (far a b),z]) ⟨fun j hj=>by lia,_,rfl⟩ ?_ ?_⟩
 ·rintro i t _ ⟨hb,z,rfl⟩ ei;have hi:i<8:=gv ei;have et:=nU ei;subst et;walk_at "go";refine⟨a,i,far a b,by rw[M_],hi,?_⟩;walk_at "go";refine b9 (fun h2=>?_) (fun h2=>?_)
  ·walk_at "go";have ef:(A_ 8).find? (fun d=>decide (uU a d (far a b)=b))=some i:=by rw[List.find?_range_eq_some];exact⟨decide_eq_true h2,Lr.mpr hi,fun j hj=>by rw[decide_eq_false (hb j hj)];rfl⟩
   unfold far at ef ⊢;rw[ef]at q;rw[M_];exact q
  walk_at "go";refine⟨fun j hj=>?_,_,rfl⟩;rcases Nat.lt_succ_iff_lt_or_eq.mp hj with hj|rfl
  ·exact hb j hj
  exact h2
 rintro _ ⟨hb,z,rfl⟩;walk_at "go";have ef:(A_ 8).find? (fun d=>decide (uU a d (far a b)=b))=none:=by rw[List.find?_range_eq_none];intro j hj;rw[decide_eq_false (hb j (by rw[cJ];exact hj))];rfl
 unfold far at ef;rw[ef]at q;exact q
end
noncomputable def nX:FP:=fun ts k=>∃(o:Bool) (ps:List Pt),ts=[.lst o (ps.map ptP)]/\ps≠[]/\ps.length<sizeLine/\∀oc,BS ps oc->k (ocT oc) ts
section
variable{P:Qv}{w:Qy}{K:Qg}{mg:Str->Option Qf}{base:Qz}
theorem qv:FnScope ["corners","bounds","numbers"] ["corners"] (ax ny):=⟨rfl,rfl,rfl,by decide +kernel,rfl,by decide +kernel,by decide +kernel⟩
theorem wH{f:Qh}{fd:QF}(F:Fun K "octo_of" "octo_of" ny f fd)(TX:Txt mg)  :FnOk P w K mg base CX0 1 f fd ["corners"] (aS K 1 nX):=by
 refine bS F qv [true] rfl (fun cdv A outer s H E hr=>?_);have sc:=@qv;have nd1:(["corner"]:List Str).Nodup:=by decide +kernel
 have nd2:(["corner"]:List Str).Nodup:=by decide +kernel
 have nd3:(["corner"]:List Str).Nodup:=by decide +kernel
 have nd4:(["corner"]:List Str).Nodup:=by decide +kernel
 refine⟨_,(af (av (i:=1) sc.nd (by rfl) (e_ rfl) (by rfl) (aB (bh ag))) (af (bB QG (by rfl) (aQ (aD (ab (aB (bz sc ["corner"] [none] nd4 (by decide +kernel) (aQ (ae 0)) (fun _ _ _=>(ak (i:=0) nd4 (by rfl) (e_ rfl) (by rfl) (hf:=(s_ rfl)))) (fun _ _ _=>b8) (fun _ _ _=>(ay hr (ae 0) ge_int)))) (ab (aB (bz sc ["corner"] [none] nd3 (by decide +kernel) (aQ (ae 0)) (fun _ _ _=>(ak (i:=0) nd3 (by rfl) (e_ rfl) (by rfl) (hf:=(s_ rfl)))) (fun _ _ _=>b8) (fun _ _ _=>(ay hr (ae 0) ge_int)))) (ab (aB (bz sc ["corner"] [none] nd2 (by decide +kernel) (aQ (ae 0)) (fun _ _ _=>(ak (i:=0) nd2 (by rfl) (e_ rfl) (by rfl) (hf:=(s_ rfl)))) (fun _ _ _=>b8) (fun _ _ _=>(aj az (ay hr (ae 0) ge_int) (ay hr (ae 0) ge_int))))) (ab (aB (bz sc ["corner"] [none] nd1 (by decide +kernel) (aQ (ae 0)) (fun _ _ _=>(ak (i:=0) nd1 (by rfl) (e_ rfl) (by rfl) (hf:=(s_ rfl)))) (fun _ _ _=>b8) (fun _ _ _=>(aj bJ (ay hr (ae 0) ge_int) (ay hr (ae 0) ge_int))))) ag)))))) (ak (i:=2) sc.nd (by rfl) (e_ rfl) (by rfl)) (af (bP (bQ 1 QP QQ bu (ab (aB (aA (jI rfl) (by rfl) TX.min (by decide +kernel) (ab (ae 2) ag))) ag))) (ai (bP (bQ 1 QP QQ bu (ab (aB (aA (fF rfl) (by rfl) TX.max (by decide +kernel) (ab (ae 2) ag))) ag)))))) (ai (aL (aB (bH cF (by rfl) TX.tuple (by decide +kernel) (ab (ae 1) ag))))))),fun ts kk hl hp=>?_⟩;clear hl;obtain⟨o,ps,rfl,hne,hz,q⟩:=hp;have hne':∀j,ps.map (gO j)≠[]:=fun j z=>hne (MU.mp z);walk_at "go";refine aH (by rw[a_];exact hz) (fun i acc ie=>∃z,acc=(ps.take i).map (fun p=>T.int (gO 0 p))/\ie=[z]) ⟨_,rfl,rfl⟩ ?_ ?_
 ·rintro i u _ _ ⟨z,rfl,rfl⟩ eu;obtain⟨p,ep,rfl⟩:=aI eu;walk_at "go";exact⟨_,by rw[map_take ep];rfl,rfl⟩
 rintro _ _ ⟨z,rfl,rfl⟩;rw[a_,u_];walk_at "go";refine aH (by rw[a_];exact hz) (fun i acc ie=>∃z,acc=(ps.take i).map (fun p=>T.int (gO 1 p))/\ie=[z]) ⟨_,rfl,rfl⟩ ?_ ?_
 ·rintro i u _ _ ⟨z,rfl,rfl⟩ eu;obtain⟨p,ep,rfl⟩:=aI eu;walk_at "go";exact⟨_,by rw[map_take ep];rfl,rfl⟩
 rintro _ _ ⟨z,rfl,rfl⟩;rw[a_,u_];walk_at "go";refine aH (by rw[a_];exact hz) (fun i acc ie=>∃z,acc=(ps.take i).map (fun p=>T.int (gO 2 p))/\ie=[z]) ⟨_,rfl,rfl⟩ ?_ ?_
 ·rintro i u _ _ ⟨z,rfl,rfl⟩ eu;obtain⟨p,ep,rfl⟩:=aI eu;walk_at "go";exact⟨_,by rw[map_take ep];rfl,rfl⟩
 rintro _ _ ⟨z,rfl,rfl⟩;rw[a_,u_];walk_at "go";refine aH (by rw[a_];exact hz) (fun i acc ie=>∃z,acc=(ps.take i).map (fun p=>T.int (gO 3 p))/\ie=[z]) ⟨_,rfl,rfl⟩ ?_ ?_
 ·rintro i u _ _ ⟨z,rfl,rfl⟩ eu;obtain⟨p,ep,rfl⟩:=aI eu;walk_at "go";exact⟨_,by rw[map_take ep];rfl,rfl⟩
 rintro _ _ ⟨z,rfl,rfl⟩;rw[a_,u_];walk_at "go";have eL:[T.lst false (I_ (fun p=>T.int (gO 0 p)) ps),T.lst false (I_ (fun p=>T.int (gO 1 p)) ps),T.lst false (I_ (fun p=>T.int (gO 2 p)) ps),T.lst false (I_ (fun p=>T.int (gO 3 p)) ps)]=(A_ 4).map fun j=>T.lst false (I_ (fun p=>T.int (gO j p)) ps):=rfl;rw[eL];refine aZ (fun i env=>∃(f:Nat->Int×Int) (z:T),(∀j,j<i->iP (ps.map (gO j)) (f j).1/\iR (ps.map (gO j)) (f j).2)/\env=[.lst o (ps.map ptP),.lst true ((A_ i).flatMap fun j=>[.int (f j).1,.int (f j).2]),z]) ⟨fun _=>(0,0),_,fun j hj=>by lia,rfl⟩ ?_ ?_
 ·rintro i t _ ⟨f,z,hf,rfl⟩ ei;obtain⟨j,ej,rfl⟩:=aI ei;have hi:i<4:=by have:=(d_.mp ej).1;rwa[LP]at this
  rw[N6 hi]at ej;cases ej;have ll:∀n,((A_ n).flatMap fun j=>[T.int (f j).1,T.int (f j).2]).length=2*n:=fun n=>by
   induction n with
   |zero=>rfl
   |succ n ih=>rw[Nr,Nm,f',ih];rfl
  walk_at "go";refine⟨hne' i,fun m hm=>⟨by rw[ll];lia,hne' i,fun M hM=>⟨by rw[f',ll];show 2*i+1<_;lia,fun j=>if j=i then(m,M)else f j,.lst false (ps.map fun p=>T.int (gO i p)),fun j hj=>?_,by rw[AM]⟩⟩⟩;show iP _ (if j=i then(m,M)else f j).1/\iR _ (if j=i then(m,M)else f j).2;by_cases e:j=i
  ·rw[if_pos e,e];exact⟨hm,hM⟩
  rw[if_neg e];exact hf j (by lia)
 rintro _ ⟨f,z,hf,rfl⟩;have e4:(A_ (I_ (fun j=>T.lst false (I_ (fun p=>T.int (gO j p)) ps)) (A_ 4)).length).flatMap (fun j=>[T.int (f j).1,T.int (f j).2])=[T.int (f 0).1,T.int (f 0).2,T.int (f 1).1,T.int (f 1).2,T.int (f 2).1,T.int (f 2).2,T.int (f 3).1,T.int (f 3).2]:=by rw[a_];rfl
 rw[e4];rw[a_]at hf;have f0:=hf 0 (by decide);have f1:=hf 1 (by decide);have f2:=hf 2 (by decide);have f3:=hf 3 (by decide);walk_at "go";exact q ⟨(f 0).1,(f 0).2,(f 1).1,(f 1).2,(f 2).1,(f 2).2,(f 3).1,(f 3).2⟩ ⟨⟨f0,f1⟩,f2,f3⟩
end
noncomputable def uo:FP:=fun ts k=>∃o q,ts=[ocT o,ocT q]/\k (ocT (BR o q)) ts
section
variable{P:Qv}{w:Qy}{K:Qg}{mg:Str->Option Qf}{base:Qz}
theorem vf:FnScope ["one","other"] ["one","other"] (ax uC):=⟨rfl,rfl,rfl,by decide +kernel,rfl,by decide +kernel,by decide +kernel⟩
theorem Di{f:Qh}{fd:QF}(F:Fun K "added" "added" uC f fd)(TX:Txt mg)  :FnOk P w K mg base CX0 1 f fd ["one","other"] (aS K 2 uo):=by
 refine bS F vf [true,true] rfl (fun cdv A outer s H E hr=>?_);have sc:=@vf;have nd1:(["bound","more"]:List Str).Nodup:=by decide +kernel
 refine⟨_,(ai (aL (aB (bH cF (by rfl) TX.tuple (by decide +kernel) (ab (bz sc ["bound","more"] [none,none] nd1 (by decide +kernel) (CP (by rfl) TX.zip (ab (ae 0) (ab (ae 1) ag))) (fun _ _ _=>(dJ (n:=2) (by rfl) (aE (ak (i:=0) nd1 (by rfl) (e_ rfl) (by rfl) (hf:=(s_ rfl))) (aE (ak (i:=1) nd1 (by rfl) (e_ rfl) (by rfl) (hf:=(s_ rfl))) cw)))) (fun _ _ _=>b8) (fun _ _ _=>(aj az (ae 0) (ae 1)))) ag))))),fun ts kk hl hp=>?_⟩;clear hl;obtain⟨o,q',rfl,q⟩:=hp;have e1:∀o:Oc,ocT o=.tup ((ocL o).map T.int):=fun o=>rfl;rw[e1,e1];walk_at "go";have ez:(I_ (fun p=>T.tup [p.1,p.2]) ((I_ (fun x=>T.int x) (ocL o)).zip (I_ (fun x=>T.int x) (ocL q'))))=((ocL o).zip (ocL q')).map fun p=>T.tup [.int p.1,.int p.2]:=by rw[P0,B'];rfl
 rw[ez];refine aH (by rw[a_];show 8<sizeLine;decide) (fun i acc ie=>∃z1 z2,acc=(((ocL o).zip (ocL q')).take i).map (fun p=>T.int (p.1+p.2))/\ie=[z1,z2]) ⟨_,_,rfl,rfl⟩ ?_ ?_
 ·rintro i u _ _ ⟨z1,z2,rfl,rfl⟩ eu;obtain⟨p,ep,rfl⟩:=aI eu;walk_at "go";exact⟨_,_,by rw[map_take ep],rfl⟩
 rintro _ _ ⟨z1,z2,rfl,rfl⟩;rw[a_,u_];walk_at "go";exact q
end
noncomputable def yq:FP:=fun ts k=>∃o p,ts=[ocT o,ptP p]/\k (ocT (BR o (oc1 p))) ts
section
variable{P:Qv}{w:Qy}{K:Qg}{mg:Str->Option Qf}{base:Qz}
theorem vQ:FnScope ["octo","corner"] ["octo","corner"] (ax uH):=⟨rfl,rfl,rfl,by decide +kernel,rfl,by decide +kernel,by decide +kernel⟩
theorem Dh{f:Qh}{fd:QF}(F:Fun K "moved" "moved" uH f fd)(TX:Txt mg)  (G_octo_of:Cal P w K mg base 1 "octo_of" ["corners"] (aS K 1 nX))(G_added:Cal P w K mg base 1 "added" ["one","other"] (aS K 2 uo)):FnOk P w K mg base CX0 2 f fd ["octo","corner"] (aS K 2 yq):=by refine bS F vQ [true,true] rfl (fun cdv A outer s H E hr=>?_);have sc:=@vQ;refine⟨_,(ai (aL (aB (au G_added hr (by rfl) (ah (ae 0) (ah (au G_octo_of hr (by rfl) (ah (bh (ab (ae 1) ag)) aq)) aq)))))),fun ts kk hl hp=>?_⟩;clear hl;obtain⟨o,p,rfl,q⟩:=hp;walk_at "go";refine⟨true,[p],rfl,(fun z=>nomatch z),by show 1<sizeLine;decide,fun oc h=>?_⟩;rw[IQ h];walk_at "go";refine⟨o,oc1 p,rfl,?_⟩;walk_at "go";exact q
end
noncomputable def rO:FP:=fun ts k=>∃(b u:Bool) (t:Tl) (p:Pt),ts=[tvT b u t,ptP p]/\k (ocT (mkO t.1 t.2.1 p)) ts
section
variable{P:Qv}{w:Qy}{K:Qg}{mg:Str->Option Qf}{base:Qz}
theorem qt:FnScope ["tool","corner","r","both"] ["tool","corner"] (ax nz):=⟨rfl,rfl,rfl,by decide +kernel,rfl,by decide +kernel,by decide +kernel⟩
theorem wY{f:Qh}{fd:QF}(F:Fun K "mark_of" "mark_of" nz f fd)(TX:Txt mg)  (G_moved:Cal P w K mg base 2 "moved" ["octo","corner"] (aS K 2 yq)):FnOk P w K mg base CX0 3 f fd ["tool","corner"] (aS K 2 rO):=by refine bS F qt [true,true] rfl (fun cdv A outer s H E hr=>?_);have sc:=@qt;refine⟨_,(af (av (i:=2) sc.nd (by rfl) (e_ rfl) (by rfl) (aB (ay hr (ae 0) ge_int))) (af (av (i:=3) sc.nd (by rfl) (e_ rfl) (by rfl) (aB (aj az (ay hr (ae 0) ge_int) (ay hr (ae 0) ge_int)))) (ai (aL (aB (au G_moved hr (by rfl) (ah (aD (ab (cn (ae 2)) (ab (ae 2) (ab (cn (ae 2)) (ab (ae 2) (ab (cn (ae 3)) (ab (ae 3) (ab (cn (ae 3)) (ab (ae 3) ag))))))))) (ah (ae 1) aq)))))))),fun ts kk hl hp=>?_⟩;clear hl;obtain⟨b,u,t,p,rfl,q⟩:=hp;walk_at "go";refine⟨⟨-t.1,t.1,-t.1,t.1,-(t.1+t.2.1),t.1+t.2.1,-(t.1+t.2.1),t.1+t.2.1⟩,p,rfl,?_⟩;walk_at "go";exact q
end
noncomputable def zb:FP:=fun ts k=>∃(b u:Bool) (t:Tl) (p q:Pt),ts=[tvT b u t,ptP p,ptP q]/\k (ocT (swO t.1 t.2.1 p q)) ts
section
variable{P:Qv}{w:Qy}{K:Qg}{mg:Str->Option Qf}{base:Qz}
theorem vT:FnScope ["tool","one","other"] ["tool","one","other"] (ax uG):=⟨rfl,rfl,rfl,by decide +kernel,rfl,by decide +kernel,by decide +kernel⟩
theorem B7{f:Qh}{fd:QF}(F:Fun K "swept" "swept" uG f fd)(TX:Txt mg)  (G_octo_of:Cal P w K mg base 1 "octo_of" ["corners"] (aS K 1 nX))(G_added:Cal P w K mg base 1 "added" ["one","other"] (aS K 2 uo))(G_mark_of:Cal P w K mg base 3 "mark_of" ["tool","corner"] (aS K 2 rO)):FnOk P w K mg base CX0 4 f fd ["tool","one","other"] (aS K 3 zb):=by refine bS F vT [true,true,true] rfl (fun cdv A outer s H E hr=>?_);have sc:=@vT;refine⟨_,(ai (aL (aB (au G_added hr (by rfl) (ah (au G_mark_of hr (by rfl) (ah (ae 0) (ah (aD (ab ge_int (ab ge_int ag))) aq))) (ah (au G_octo_of hr (by rfl) (ah (bh (ab (ae 1) (ab (ae 2) ag))) aq)) aq)))))),fun ts kk hl hp=>?_⟩;clear hl;obtain⟨b,u,t,p,q',rfl,q⟩:=hp;walk_at "go";refine⟨b,false,t,(0,0),rfl,?_⟩;walk_at "go";refine⟨true,[p,q'],rfl,(fun z=>nomatch z),by show 2<sizeLine;decide,fun oc h=>?_⟩;rw[Jc h];walk_at "go";refine⟨mkO t.1 t.2.1 (0,0),oc2 p q',rfl,?_⟩;walk_at "go";exact q
end
noncomputable def sG:FP:=fun ts k=>∃(w:Ed) (c:Pt),ts=[edT w,ptP c]/\k (.bl (gOn w c)) ts
section
variable{P:Qv}{w:Qy}{K:Qg}{mg:Str->Option Qf}{base:Qz}
theorem qu:FnScope ["way","corner","ahead","whole"] ["way","corner"] (ax ni):=⟨rfl,rfl,rfl,by decide +kernel,rfl,by decide +kernel,by decide +kernel⟩
theorem xW{f:Qh}{fd:QF}(F:Fun K "goes_on" "goes_on" ni f fd)(TX:Txt mg)  (G_straight:Cal P w K mg base 2 "straight" ["one","other"] (aS K 2 pQ)):FnOk P w K mg base CX0 3 f fd ["way","corner"] (aS K 2 sG):=by
 refine bS F qu [true,true] rfl (fun cdv A outer s H E hr=>?_);have sc:=@qu;refine⟨_,(af (bA (cN (aY (bV hr) (ae 1) (ay hr (ae 0) ge_int) (aJ _))) (ai (aL fy)) aT) (af (av (i:=2) sc.nd (by rfl) (e_ rfl) (by rfl) (aB (au G_straight hr (by rfl) (ah (ay hr (ae 0) ge_int) (ah (ay hr (ae 0) ge_int) aq))))) (af (av (i:=3) sc.nd (by rfl) (e_ rfl) (by rfl) (aB (au G_straight hr (by rfl) (ah (ay hr (ae 0) ge_int) (ah (ae 1) aq))))) (af (bA (cN (aY uf (ae 3) iX (aJ _))) (ai (aL fy)) aT) (ai (aL (aB (ge_if (aY uf (ae 2) iX (aJ _)) (uE (bV hr) (ay hr (ae 3) ge_int) ge_int (aJ _)) (uE (bV hr) (ae 3) (aD (ab (ay hr (ae 2) ge_int) (ab (aj az (ay hr (ae 2) ge_int) ge_int) ag))) (aJ _)))))))))),fun ts kk hl hp=>?_⟩;clear hl;obtain⟨w,c,rfl,q⟩:=hp;walk_at "go";refine b9 (fun h=>?_) (fun h=>?_)
 ·walk_at "go";have:gOn w c=true:=by unfold gOn;rw[if_pos h]
  rw[this]at q;exact q
 have g:=AX h;walk_at "go";refine⟨_,_,rfl,?_⟩;walk_at "go";refine⟨by unfold zj;cases lead w.1 w.2 <;> rfl,_,_,rfl,?_⟩;walk_at "go";unfold zj;cases e1:lead w.1 c with
 |none=>
  rw[e1]at g;walk_at "go";rw[g]at q;exact q
 |some d=>
  rw[e1]at g;cases e2:lead w.1 w.2 with
  |none=>
   rw[e2]at g;walk_at "go";rw[g]at q;exact q
  |some d'=>
   rw[e2]at g;walk_at "go";rw[g]at q;have e:decide ((d:Int)=(d':Int)/\far w.1 c=far w.1 w.2+1)=decide (d=d'/\far w.1 c=far w.1 w.2+1):=decide_eq_decide.mpr (and_congr_left fun _=>by lia);rw[e];exact q
end
noncomputable def sE:FP:=fun ts k=>∃(c u:Bool) (l:Int) (ps:List (Pt×Int)),ts=[sqB c u (ps.map plT),.int l]/\ps.length<=400/\∀z,k (.lst true ((wys l ps ([],false)).1.reverse.map edT)) [z,.int l]
section
variable{P:Qv}{w:Qy}{K:Qg}{mg:Str->Option Qf}{base:Qz}
theorem qV:FnScope ["places","layer","ways","is_in","x","y","z"] ["places","layer"] (ax o6):=⟨rfl,rfl,rfl,by decide +kernel,rfl,by decide +kernel,by decide +kernel⟩
theorem wU{f:Qh}{fd:QF}(F:Fun K "ways_at" "ways_at" o6 f fd)(TX:Txt mg)  (G_goes_on:Cal P w K mg base 3 "goes_on" ["way","corner"] (aS K 2 sG)):FnOk P w K mg base CX0 4 f fd ["places","layer"] (aS K 2 sE):=by
 refine bS F qV [true,true] rfl (fun cdv A outer s H E hr=>?_);have sc:=@qV;refine⟨_,(af (av (i:=2) sc.nd (by rfl) (e_ rfl) (by rfl) (aB (bh ag))) (af (av (i:=3) sc.nd (by rfl) (e_ rfl) (by rfl) fy) (af (bB QG (by rfl) (aQ (bp 0)) (dJ (n:=3) (by rfl) (aE (ak (i:=4) sc.nd (by rfl) (e_ rfl) (by rfl)) (aE (ak (i:=5) sc.nd (by rfl) (e_ rfl) (by rfl)) (aE (ak (i:=6) sc.nd (by rfl) (e_ rfl) (by rfl)) cw)))) (ai (bA (cN (aY nW (ae 6) (ae 1) (aJ _))) (ai (av (i:=3) sc.nd (by rfl) (e_ rfl) (by rfl) fy)) (ai (bA (cN (uP (nV (cC (ae 3)) (jM (cC (au G_goes_on hr (by rfl) (ah (ay hr (ae 2) (cn ge_int)) (ah (aD (ab (ae 4) (ab (ae 5) ag))) aq)))))))) (ai (kE (aB (aD (ab (ay hr (ay hr (ae 2) (cn ge_int)) ge_int) (ab (aD (ab (ae 4) (ab (ae 5) ag))) ag)))) (qC (i:=2) hr (aB (cn ge_int))))) (af (bP (bQ 2 QP QQ bu (ab (aB (aD (ab (aD (ab (ae 4) (ab (ae 5) ag))) (ab (aD (ab (ae 4) (ab (ae 5) ag))) ag)))) ag))) (ai (av (i:=3) sc.nd (by rfl) (e_ rfl) (by rfl) fy)))))))) (ai (aL (rX 2)))))),fun ts kk hl hp=>?_⟩;clear hl;obtain⟨c,u,l,ps,rfl,hl,q⟩:=hp;have app:∀(xs:List (Pt×Int)) (x:Pt×Int) (s:List (Pt×Pt)×Bool),wys l (xs++[x]) s=wy1 l x (wys l xs s):=fun xs x=>by
  induction xs with
  |nil=>intro s;rfl
  |cons y xs ih=>intro s;exact ih _
 walk_at "go";refine aZ (fun i env=>∃(W:List (Pt×Pt)) (b:Bool) (z4 z5 z6:T),wys l (ps.take i) ([],false)=(W,b)/\W.length<=i/\(b=true->W≠[])/\env=[sqB c false (ps.map plT),.int l,.lst true (W.reverse.map edT),.bl b,z4,z5,z6]) ⟨[],false,_,_,_,rfl,b_ _,(fun z=>by cases z),rfl⟩ ?_ ?_
 ·rintro i t _ ⟨W,b,z4,z5,z6,hw,hW,hb,rfl⟩ ei;obtain⟨⟨⟨x,y⟩,z⟩,ep,rfl⟩:=aI ei;rw[plT];have hi:i<ps.length:=(d_.mp ep).1;have hs:wys l (ps.take (i+1)) ([],false)=wy1 l ((x,y),z) (W,b):=by rw[LL,ep];exact(app _ _ _).trans (by rw[hw])
  unfold wy1 at hs;dsimp only at hs;walk_at "go";refine b9 (fun h=>?_) (fun h=>?_)
  ·walk_at "go";rw[if_pos h]at hs;exact⟨W,false,_,_,_,hs,by lia,(fun z=>by cases z),rfl⟩
  rw[if_neg h]at hs;walk_at "go";cases b with
  |false=>
   refine Ew rfl ?_;walk_at "go";have e:wys l (ps.take (i+1)) ([],false)=(((x,y),(x,y))::W,true):=by rw[hs];cases W <;> rfl
   exact⟨by rw[Lx];lia,_::W,true,_,_,_,e,by rw[h_];lia,(fun _ z=>by cases z),by rw[M5,q_];rfl⟩
  |true=>
   cases W with
   |nil=>exact absurd rfl (hb rfl)
   |cons w W'=>
   refine Ez rfl ?_;walk_at "go";refine b6 uT ?_;walk_at "go";refine⟨w,(x,y),rfl,?_⟩;walk_at "go";cases eg:gOn w (x,y)with
   |true=>
    walk_at "go";refine b6 uT ?_;walk_at "go";have e:wys l (ps.take (i+1)) ([],false)=((w.1,(x,y))::W',true):=by rw[hs];dsimp only;rw[eg];rfl
    have ei:ixN (w::W').reverse.length (-1)=some W'.reverse.length:=by unfold ixN;rw[if_neg (by decide),if_pos (by rw[Lx,h_];lia)];congr 1;rw[Lx,Lx,h_];lia
    refine b6 ei ?_;walk_at "go";have es:((w::W').reverse.map edT).set W'.reverse.length (.tup [ptP w.1,.tup [.int x,.int y]])=((w.1,(x,y))::W').reverse.map edT:=by
     rw[M5,M5,q_,q_,OR _ _ (by rw[a_];lia),a_,MP]
     rfl
    exact⟨_,true,_,_,_,e,NI hW,(fun _ z=>by cases z),by rw[<-es]⟩
   |false=>
    walk_at "go";have e:wys l (ps.take (i+1)) ([],false)=(((x,y),(x,y))::w::W',true):=by rw[hs];dsimp only;rw[eg];rfl
    exact⟨by rw[Lx];lia,_::w::W',true,_,_,_,e,by rw[h_];lia,(fun _ z=>by cases z),by rw[M5 (a:=((x,y),(x,y))),q_];rfl⟩
 rintro _ ⟨W,b,z4,z5,z6,hw,hW,hb,rfl⟩;rw[a_,u_]at hw;rw[hw]at q;walk_at "go";exact q _
end
noncomputable def oq:FP:=fun ts k=>∃(o o2 b u u2:Bool) (P:List Od) (tl:List Tl) (l C:Int) (N:Nat),ts=[.lst o (P.map (odT b u)),.lst o2 (tl.map (tvT b u2)),.int l]/\OkP tl.length C N P/\N<=400/\∀z0 z1,k (.lst true ((cj l tl P).map ocT)) [z0,z1,.int l]
section
variable{P:Qv}{w:Qy}{K:Qg}{mg:Str->Option Qf}{base:Qz}
theorem md:FnScope ["program","tools","layer","octos","tool","order","one","other"] ["program","tools","layer"] (ax ja):=⟨rfl,rfl,rfl,by decide +kernel,rfl,by decide +kernel,by decide +kernel⟩
theorem uh{f:Qh}{fd:QF}(F:Fun K "cut_octos" "cut_octos" ja f fd)(TX:Txt mg)  (G_swept:Cal P w K mg base 4 "swept" ["tool","one","other"] (aS K 3 zb))(G_ways_at:Cal P w K mg base 4 "ways_at" ["places","layer"] (aS K 2 sE)):FnOk P w K mg base CX0 5 f fd ["program","tools","layer"] (aS K 3 oq):=by
 refine bS F md [true,true,true] rfl (fun cdv A outer s H E hr=>?_);have sc:=@md;refine⟨_,(af (av (i:=3) sc.nd (by rfl) (e_ rfl) (by rfl) (aB t5)) (af (av (i:=4) sc.nd (by rfl) (e_ rfl) (by rfl) iX) (af (bB QG (by rfl) (aQ (bp 0)) (ak (i:=5) sc.nd (by rfl) (e_ rfl) (by rfl)) (ai (bA (cN (aY (bV hr) (ay hr (ae 5) ge_int) ge_str (aJ _))) (ai (av (i:=4) sc.nd (by rfl) (e_ rfl) (by rfl) (ay hr (bp 1) (aB (ay hr (ae 5) ge_int))))) (ai (bA (cN (aY (bV hr) (ay hr (ae 5) ge_int) ge_str (aJ _))) (ai (bB QG (by rfl) (aQ (aB (au G_ways_at hr (by rfl) (ah (ay hr (ae 5) ge_int) (ah (ae 2) aq))))) (dJ (n:=2) (by rfl) (aE (ak (i:=6) sc.nd (by rfl) (e_ rfl) (by rfl)) (aE (ak (i:=7) sc.nd (by rfl) (e_ rfl) (by rfl)) cw))) (ai (kE fy (qC (i:=3) hr (aB (au G_swept hr (by rfl) (ah (ae 4) (ah (ae 6) (ah (ae 7) aq)))))))))) aT))))) (ai (aL (aB (bH (vG rfl) (by rfl) TX.list (by decide +kernel) (ab (ae 3) ag)))))))),fun ts kk hl hp=>?_⟩;clear hl;obtain⟨o,o2,b,u,u2,P,tl,l,C,N,rfl,hP,hN,q⟩:=hp;walk_at "go";refine⟨rfl,aZ (fun i env=>∃(o2 u2:Bool) (tool z5 z6 z7:T),(0<i->tool=tvT b false (tl.getD (tlA (P.take i) 0) (0,0,0,0,0)))/\env=[.lst false (P.map (odT b false)),.lst o2 (tl.map (tvT b u2)),.int l,.dT true (dG ocL (cj l tl (P.take i))),tool,z5,z6,z7]) ⟨o2,u2,_,_,_,_,(fun z=>absurd z (Ms _)),rfl⟩ ?_ ?_⟩
 ·rintro i t _ ⟨o2,u2,tool,z5,z6,z7,ht,rfl⟩ ei;obtain⟨od,eo,rfl⟩:=aI ei;obtain⟨et,e0⟩:=zE hP eo;have hm:=hP.2.2.2 od (G_ eo);have hw:=jD (l:=l) (Q:=[od]) (P:=P.take i) (t:=0);rw[<-et]at hw;cases od with
  |tk j=>
   have hj:j<tl.length:=hm;rw[sQ];walk_at "go";refine b6 (Ka hj) ?_;walk_at "go";have e:cj l tl (P.take (i+1))=cj l tl (P.take i):=by unfold cj;rw[hw.1,show wls l [Od.tk j] (tlA (P.take i) 0)=[]from rfl,E_]
   exact⟨false,false,tvT b false (tl.getD j (0,0,0,0,0)),_,_,_,fun _=>by rw[hw.2.2];rfl,by rw[e]⟩
  |ov h x y=>
   have h0:0<i:=LM fun z=>by obtain⟨j,hj⟩:=e0 z;cases hj
   rw[tY];walk_at "go";have e:cj l tl (P.take (i+1))=cj l tl (P.take i):=by unfold cj;rw[hw.1,show wls l [Od.ov h x y] (tlA (P.take i) 0)=[]from rfl,E_]
   exact⟨o2,u2,tool,_,_,_,fun _=>by rw[hw.2.2];exact ht h0,by rw[e]⟩
  |ct ps=>
   have h0:0<i:=LM fun z=>by obtain⟨j,hj⟩:=e0 z;cases hj
   have ht:=ht h0;subst ht;have hl:=tO (G_ eo);rw[sP];walk_at "go";refine⟨b,false,l,ps,rfl,by have:=hP.2.2.1;lia,fun z'=>?_⟩;walk_at "go";have eo2:cj l tl (P.take (i+1))=cv ocL (cj l tl (P.take i)) (((wys l ps ([],false)).1.reverse.map fun w=>(tlA (P.take i) 0,w)).map fun v=>swT (tR tl v.1) v.2):=by unfold cj;rw[hw.1,q_,fD,show wls l [Od.ct ps] (tlA (P.take i) 0)=((wys l ps ([],false)).1.reverse.map fun w=>(tlA (P.take i) 0,w))from E_ _]
   have lo:(cj l tl (P.take i)).length<=400:=by have h1:=mn (l:=l) (tl:=tl) (P:=P.take i);have h2:=wg (P:=P) (i:=i);have h3:=hP.2.2.1;lia
   have lw:(wys l ps ([],false)).1.reverse.length<=400:=by have h1:=(tN (l:=l) (ps:=ps) (W:=[]) (b:=false) fun w m=>by cases m).2.2;have h3:=hP.2.2.1;rw[LR]at h1;rw[Lx];lia
   have ht2:tlA (P.take (i+1)) 0=tlA (P.take i) 0:=hw.2.2;clear hw;generalize (wys l ps ([],false)).1.reverse=W at *;generalize cj l tl (P.take i)=os at *;generalize tlA (P.take i) 0=tn at *;rw[B']at eo2;refine aZ (fun j env=>∃z5 z6 z7,env=[.lst false (P.map (odT b false)),.lst o2 (tl.map (tvT b u2)),.int l,.dT true (dG ocL (cv ocL os ((W.map (swT (tR tl tn))).take j))),tvT b false (tl.getD tn (0,0,0,0,0)),z5,z6,z7]) ⟨_,_,_,rfl⟩ ?_ ?_
   ·rintro j t _ ⟨z5,z6,z7,rfl⟩ ej;obtain⟨w,ew,rfl⟩:=aI ej;have hj:=(d_.mp ew).1;rw[edT];walk_at "go";refine⟨b,false,_,w.1,w.2,rfl,?_⟩;walk_at "go";have la:=dE (ρ:=ocL) (l:=os) (r:=(W.map (swT (tR tl tn))).take j);rw[D']at la;rw[rG (a:=swT (tR tl tn) w) (by rw[D_,ew];rfl),sw_eq];exact⟨by rw[nO];lia,_,_,_,by rw[<-t7];rfl⟩
   rintro _ ⟨z5,z6,z7,rfl⟩;rw[a_];have e3:cv ocL os ((W.map (swT (tR tl tn))).take W.length)=cj l tl (P.take (i+1)):=by
    rw[eo2,show W.length=(W.map (swT (tR tl tn))).length from(a_ ..).symm,u_]
    rfl
   exact⟨o2,u2,_,_,_,_,fun _=>by rw[ht2],by rw[e3]⟩
 rintro _ ⟨o2,u2,tool,z5,z6,z7,ht,rfl⟩;rw[a_,u_];walk_at "go";rw[Cj];refine⟨(cj l tl P).map ocL,?_,?_,fun _=>⟨?_,?_⟩⟩
 ·unfold dG;rw[B',B'];rfl
 ·intro r m;obtain⟨o',_,rfl⟩:=t_.mp m;exact NS _ _
 ·rw[B'];exact A1
 rw[B'];exact q _ _
end
noncomputable def pY:FP:=fun ts k=>∃(o o2 b u u2:Bool) (P:List Od) (tl:List Tl) (l C:Int) (N B:Nat),ts=[.lst o (P.map (odT b u)),.lst o2 (tl.map (tvT b u2)),.int l]/\OkP tl.length C N P/\N<=400/\lF B (cj l tl P)/\k (.int (Ar B (cj l tl P)/2)) ts
section
variable{P:Qv}{w:Qy}{K:Qg}{mg:Str->Option Qf}{base:Qz}
theorem oy:FnScope ["program","tools","layer"] ["program","tools","layer"] (ax jY):=⟨rfl,rfl,rfl,by decide +kernel,rfl,by decide +kernel,by decide +kernel⟩
theorem vz{f:Qh}{fd:QF}(F:Fun K "cut_area" "cut_area" jY f fd)(TX:Txt mg)  (G_area_of:Cal P w K mg base 3 "area_of" ["octos"] (aS K 1 rB))(G_cut_octos:Cal P w K mg base 5 "cut_octos" ["program","tools","layer"] (aS K 3 oq)):FnOk P w K mg base CX0 6 f fd ["program","tools","layer"] (aS K 3 pY):=by refine bS F oy [true,true,true] rfl (fun cdv A outer s H E hr=>?_);have sc:=@oy;refine⟨_,(ai (aL (aB (au G_area_of hr (by rfl) (ah (au G_cut_octos hr (by rfl) (ah (ae 0) (ah (ae 1) (ah (ae 2) aq)))) aq))))),fun ts kk hl hp=>?_⟩;clear hl;obtain⟨o,o2,b,u,u2,P,tl,l,C,N,B,rfl,hP,hN,hs,q⟩:=hp;walk_at "go";refine⟨false,false,b,false,false,P,tl,l,C,N,rfl,hP,hN,fun z0 z1=>?_⟩;walk_at "go";refine⟨false,_,false,true,cj l tl P,B,rfl,hs,fun z=>?_⟩;walk_at "go";exact q
end
noncomputable def sC:FP:=fun ts k=>∃(t:Tl) (x y:Int) (s:Nat),ts=[tvT false false t,.int x,.int y,.int (s:Int)]/\s<4/\k (.bl (inM (t.1+t.2.1) (x,y,s))) ts
section
variable{P:Qv}{w:Qy}{K:Qg}{mg:Str->Option Qf}{base:Qz}
theorem qB:FnScope ["_law_tool_here","_law_x","_law_y","_law_side","_law_ends","_law_points"] ["_law_tool_here","_law_x","_law_y","_law_side"] (ax nQ):=⟨rfl,rfl,rfl,by decide +kernel,rfl,by decide +kernel,by decide +kernel⟩
theorem xI{f:Qh}{fd:QF}(F:Fun K "_law_in_mark" "_law_in_mark" nQ f fd)(TX:Txt mg)  :FnOk P w K mg base CX0 1 f fd ["_law_tool_here","_law_x","_law_y","_law_side"] (aS K 4 sC):=by
 refine bS F qB [true,true,true,true] rfl (fun cdv A outer s H E hr=>?_);have sc:=@qB;have nd1:(["_law_one","_law_other","_law_y","_law_x"]:List Str).Nodup:=by decide +kernel
 have nd2:(["_law_one","_law_other","_law_tool_here"]:List Str).Nodup:=by decide +kernel
 refine⟨_,(@af _ _ _ _ _ _ (@av _ _ _ _ _ 4 _ _ sc.nd (by rfl) (e_ rfl) (by rfl) (@aB _ _ _ (@ay _ _ _ _ _ _ _ hr (@bh _ _ _ _ (@ab _ _ _ _ _ (@bh _ _ _ _ (@ab _ _ _ _ _ (@aD _ _ _ _ _ (@ab _ _ _ _ _ (@ge_int _ _ _ _) (@ab _ _ _ _ _ (@ge_int _ _ _ _) (@ag _) (by rfl)) (by rfl))) (@ab _ _ _ _ _ (@aD _ _ _ _ _ (@ab _ _ _ _ _ (@ge_int _ _ _ _) (@ab _ _ _ _ _ (@ge_int _ _ _ _) (@ag _) (by rfl)) (by rfl))) (@ag _) (by rfl)) (by rfl))) (@ab _ _ _ _ _ (@bh _ _ _ _ (@ab _ _ _ _ _ (@aD _ _ _ _ _ (@ab _ _ _ _ _ (@ge_int _ _ _ _) (@ab _ _ _ _ _ (@ge_int _ _ _ _) (@ag _) (by rfl)) (by rfl))) (@ab _ _ _ _ _ (@aD _ _ _ _ _ (@ab _ _ _ _ _ (@ge_int _ _ _ _) (@ab _ _ _ _ _ (@ge_int _ _ _ _) (@ag _) (by rfl)) (by rfl))) (@ag _) (by rfl)) (by rfl))) (@ab _ _ _ _ _ (@bh _ _ _ _ (@ab _ _ _ _ _ (@aD _ _ _ _ _ (@ab _ _ _ _ _ (@ge_int _ _ _ _) (@ab _ _ _ _ _ (@ge_int _ _ _ _) (@ag _) (by rfl)) (by rfl))) (@ab _ _ _ _ _ (@aD _ _ _ _ _ (@ab _ _ _ _ _ (@ge_int _ _ _ _) (@ab _ _ _ _ _ (@ge_int _ _ _ _) (@ag _) (by rfl)) (by rfl))) (@ag _) (by rfl)) (by rfl))) (@ab _ _ _ _ _ (@bh _ _ _ _ (@ab _ _ _ _ _ (@aD _ _ _ _ _ (@ab _ _ _ _ _ (@ge_int _ _ _ _) (@ab _ _ _ _ _ (@ge_int _ _ _ _) (@ag _) (by rfl)) (by rfl))) (@ab _ _ _ _ _ (@aD _ _ _ _ _ (@ab _ _ _ _ _ (@ge_int _ _ _ _) (@ab _ _ _ _ _ (@ge_int _ _ _ _) (@ag _) (by rfl)) (by rfl))) (@ag _) (by rfl)) (by rfl))) (@ag _) (by rfl)) (by rfl)) (by rfl)) (by rfl))) (@ae _ _ 3 _ (by rfl) (by first|exact e_ rfl|exact s_ (e_ rfl)|exact s_ (s_ rfl)) (by decide) (by decide)) (by intro _ _;rfl))) (by rfl) (by first|exact .inl rfl|exact .inr rfl)) (@af _ _ _ _ _ _ (@av _ _ _ _ _ 5 _ _ sc.nd (by rfl) (e_ rfl) (by rfl) (@aB _ _ _ (@aj _ _ _ _ _ _ _ _ az (@bh _ _ _ _ (@ab _ _ _ _ _ (@aD _ _ _ _ _ (@ab _ _ _ _ _ (@aj _ _ _ _ _ _ _ _ az (@aj _ _ _ _ _ _ _ _ aU (@ge_int _ _ _ _) (@ae _ _ 1 _ (by rfl) (by first|exact e_ rfl|exact s_ (e_ rfl)|exact s_ (s_ rfl)) (by decide) (by decide))) (@ge_int _ _ _ _)) (@ab _ _ _ _ _ (@aj _ _ _ _ _ _ _ _ az (@aj _ _ _ _ _ _ _ _ aU (@ge_int _ _ _ _) (@ae _ _ 2 _ (by rfl) (by first|exact e_ rfl|exact s_ (e_ rfl)|exact s_ (s_ rfl)) (by decide) (by decide))) (@ge_int _ _ _ _)) (@ag _) (by rfl)) (by rfl))) (@ag _) (by rfl))) (@bz _ _ _ _ sc ["_law_one","_law_other","_law_y","_law_x"] [none,none,some 2,some 1] nd1 _ _ _ _ _ _ _ _ _ _ (by decide +kernel) (@aQ _ _ _ _ (@ae _ _ 4 _ (by rfl) (by first|exact e_ rfl|exact s_ (e_ rfl)|exact s_ (s_ rfl)) (by decide) (by decide))) (fun _ _ _=>(@dJ _ _ _ _ _ _ 2 (by rfl) (@aE _ _ _ _ _ _ (@ak _ _ _ 0 _ nd1 (by rfl) (e_ rfl) (by rfl) (s_ rfl)) (@aE _ _ _ _ _ _ (@ak _ _ _ 1 _ nd1 (by rfl) (e_ rfl) (by rfl) (s_ rfl)) (@cw _ _) (by rfl)) (by rfl)) (by rfl) (by rfl))) (fun _ _ _=>(@b8 _)) (fun _ _ _=>(@aD _ _ _ _ _ (@ab _ _ _ _ _ (@aj _ _ _ _ _ _ _ _ aU (@ge_int _ _ _ _) (@aj _ _ _ _ _ _ _ _ az (@ae _ _ 3 _ (by rfl) (by first|exact e_ rfl|exact s_ (e_ rfl)|exact s_ (s_ rfl)) (by decide) (by decide)) (@ae _ _ 0 _ (by rfl) (by first|exact e_ rfl|exact s_ (e_ rfl)|exact s_ (s_ rfl)) (by decide) (by decide)))) (@ab _ _ _ _ _ (@aj _ _ _ _ _ _ _ _ aU (@ge_int _ _ _ _) (@aj _ _ _ _ _ _ _ _ az (@ae _ _ 2 _ (by rfl) (by first|exact e_ rfl|exact s_ (e_ rfl)|exact s_ (s_ rfl)) (by decide) (by decide)) (@ae _ _ 1 _ (by rfl) (by first|exact e_ rfl|exact s_ (e_ rfl)|exact s_ (s_ rfl)) (by decide) (by decide)))) (@ag _) (by rfl)) (by rfl)))) (by rfl) (by rfl) (by rfl) (by intro _;rfl)))) (by rfl) (by first|exact .inl rfl|exact .inr rfl)) (@ai _ _ _ _ (@aL _ _ _ _ _ (@aB _ _ _ (@aA _ _ _ _ _ _ _ _ _ (Aw rfl) (by rfl) TX.all (by decide +kernel) (@ab _ _ _ _ _ (@bz _ _ _ _ sc ["_law_one","_law_other","_law_tool_here"] [none,none,some 0] nd2 _ _ _ _ _ _ _ _ _ _ (by decide +kernel) (@aQ _ _ _ _ (@ae _ _ 5 _ (by rfl) (by first|exact e_ rfl|exact s_ (e_ rfl)|exact s_ (s_ rfl)) (by decide) (by decide))) (fun _ _ _=>(@dJ _ _ _ _ _ _ 2 (by rfl) (@aE _ _ _ _ _ _ (@ak _ _ _ 0 _ nd2 (by rfl) (e_ rfl) (by rfl) (s_ rfl)) (@aE _ _ _ _ _ _ (@ak _ _ _ 1 _ nd2 (by rfl) (e_ rfl) (by rfl) (s_ rfl)) (@cw _ _) (by rfl)) (by rfl)) (by rfl) (by rfl))) (fun _ _ _=>(@b8 _)) (fun _ _ _=>(@uE _ _ _ _ _ _ _ _ nW (@aj _ _ _ _ _ _ _ _ az (@aA _ _ _ _ _ _ _ _ _ jH (by rfl) TX.abs (by decide +kernel) (@ab _ _ _ _ _ (@ae _ _ 0 _ (by rfl) (by first|exact e_ rfl|exact s_ (e_ rfl)|exact s_ (s_ rfl)) (by decide) (by decide)) (@ag _) (by rfl)) (by decide) (by decide) (by rfl) (by rfl)) (@aA _ _ _ _ _ _ _ _ _ jH (by rfl) TX.abs (by decide +kernel) (@ab _ _ _ _ _ (@ae _ _ 1 _ (by rfl) (by first|exact e_ rfl|exact s_ (e_ rfl)|exact s_ (s_ rfl)) (by decide) (by decide)) (@ag _) (by rfl)) (by decide) (by decide) (by rfl) (by rfl))) (@aj _ _ _ _ _ _ _ _ aU (@ge_int _ _ _ _) (@aj _ _ _ _ _ _ _ _ az (@ay _ _ _ _ _ _ _ hr (@ae _ _ 2 _ (by rfl) (by first|exact e_ rfl|exact s_ (e_ rfl)|exact s_ (s_ rfl)) (by decide) (by decide)) (@ge_int _ _ _ _) (by intro _ _;rfl)) (@ay _ _ _ _ _ _ _ hr (@ae _ _ 2 _ (by rfl) (by first|exact e_ rfl|exact s_ (e_ rfl)|exact s_ (s_ rfl)) (by decide) (by decide)) (@ge_int _ _ _ _) (by intro _ _;rfl)))) (aJ _))) (by rfl) (by rfl) (by rfl) (by intro _;rfl)) (@ag _) (by rfl)) (by decide) (by decide) (by rfl) (by rfl))))))),fun ts kk hl hp=>?_⟩;clear hl;obtain⟨t,x,y,s,rfl,hs,q⟩:=hp;walk_at "go";refine b6 (zI hs).1 ?_;have l2:=(zI hs).2;unfold inM ptM at q;dsimp only at q;generalize edL.getD s []=es at *;walk_at "go";refine⟨.inl ⟨by decide,by decide⟩,.inl ⟨by decide,by decide⟩,aH (by rw[a_,sizeLine_eq];lia) (fun i acc ie=>∃z1 z2,acc=(es.take i).map (fun e=>ptP (2*(x+e.1),2*(y+e.2)))/\ie=[z1,z2,.int y,.int x]) ⟨_,_,rfl,rfl⟩ ?_ ?_⟩
 ·rintro i u _ _ ⟨z1,z2,rfl,rfl⟩ ei;obtain⟨e,ee,rfl⟩:=aI ei;walk_at "go";exact⟨.inl ⟨by decide,by decide⟩,.inl ⟨by decide,by decide⟩,_,_,by rw[map_take ee];rfl,rfl⟩
 rintro _ _ ⟨z1,z2,rfl,rfl⟩;rw[a_,u_];walk_at "go";have ep:T.tup [T.int (2*x+1),T.int (2*y+1)]::I_ (fun e=>ptP (2*(x+e.1),2*(y+e.2))) es=((2*x+1,2*y+1)::es.map fun e=>((2*(x+e.1),2*(y+e.2)):Pt)).map ptP:=by rw[g_,B'];rfl
 have lp:((2*x+1,2*y+1)::es.map fun e=>((2*(x+e.1),2*(y+e.2)):Pt)).length=3:=by rw[h_,a_,l2]
 rw[ep];generalize ((2*x+1,2*y+1)::es.map fun e=>((2*(x+e.1),2*(y+e.2)):Pt))=ps at *;refine⟨by lia,aH (by rw[a_,sizeLine_eq];lia) (fun i acc ie=>∃z1 z2,acc=(ps.take i).map (fun p=>T.bl (decide ((p.1.natAbs:Int)+p.2.natAbs<=2*(t.1+t.2.1))))/\ie=[z1,z2,tvT false false t]) ⟨_,_,rfl,rfl⟩ ?_ ?_⟩
 ·rintro i u _ _ ⟨z1,z2,rfl,rfl⟩ ei;obtain⟨p,ee,rfl⟩:=aI ei;walk_at "go";exact⟨.inl ⟨by decide,by decide⟩,_,_,by rw[map_take ee],rfl⟩
 rintro _ _ ⟨z1,z2,rfl,rfl⟩;rw[a_,u_];walk_at "go";refine b6 (oj _ _) ?_;walk_at "go";rw[Nv];exact q
end
noncomputable def Dn:FP:=fun ts k=>∃(t:Tl),ts=[tvT false false t,ptP (0,0)]/\tlO t/\k (.dT true (dG cD (mkA t))) ts
section
variable{P:Qv}{w:Qy}{K:Qg}{mg:Str->Option Qf}{base:Qz}
theorem zu:FnScope ["_law_tool_here","_law_corner","_law_found","_law_x","_law_y","_law_side"] ["_law_tool_here","_law_corner"] (ax wx):=⟨rfl,rfl,rfl,by decide +kernel,rfl,by decide +kernel,by decide +kernel⟩
theorem EK{f:Qh}{fd:QF}(F:Fun K "_law_mark" "_law_mark" wx f fd)(TX:Txt mg)  (G_in_mark:Cal P w K mg base 1 "_law_in_mark" ["_law_tool_here","_law_x","_law_y","_law_side"] (aS K 4 sC)):FnOk P w K mg base CX0 2 f fd ["_law_tool_here","_law_corner"] (aS K 2 Dn):=by
 refine bS F zu [true,true] rfl (fun cdv A outer s H E hr=>?_);have sc:=@zu;refine⟨_,(af (av (i:=2) sc.nd (by rfl) (e_ rfl) (by rfl) (aB t5)) (af (bB QG (by rfl) (sf (by rfl) TX.range (ab (aB (cn (ay hr (ae 0) ge_int))) (ab (aB (ay hr (ae 0) ge_int)) ag))) (ak (i:=3) sc.nd (by rfl) (e_ rfl) (by rfl)) (ai (bB QG (by rfl) (sf (by rfl) TX.range (ab (aB (cn (ay hr (ae 0) ge_int))) (ab (aB (ay hr (ae 0) ge_int)) ag))) (ak (i:=4) sc.nd (by rfl) (e_ rfl) (by rfl)) (ai (bB QG (by rfl) (cW (by rfl) TX.range (ab ge_int ag)) (ak (i:=5) sc.nd (by rfl) (e_ rfl) (by rfl)) (ai (bA (cN (cC (au G_in_mark hr (by rfl) (ah (ae 0) (ah (ae 3) (ah (ae 4) (ah (ae 5) aq))))))) (ai (kE fy (qC (i:=2) hr (aB (aD (ab (aj az (ay hr (ae 1) ge_int) (ae 3)) (ab (aj az (ay hr (ae 1) ge_int) (ae 4)) (ab (ae 5) ag)))))))) aT))))))) (ai (aL (rX 2))))),fun ts kk hl hp=>?_⟩;clear hl;obtain⟨t,rfl,ht,q⟩:=hp;obtain⟨t1,t2,t3,t4⟩:=ht;walk_at "go";refine⟨rfl,by lia,aZ (fun i env=>∃z3 z4 z5,env=[tvT false false t,ptP (0,0),.dT true (dG cD (mkN t.1 (t.1+t.2.1) i)),z3,z4,z5]) ⟨_,_,_,rfl⟩ ?_ ?_⟩
 ·rintro i u _ ⟨z3,z4,z5,rfl⟩ ei;have hi:=gv ei;have et:=nU ei;subst et;walk_at "go";refine⟨by lia,aZ (fun j env=>∃z4 z5,env=[tvT false false t,ptP (0,0),.dT true (dG cD (mkN t.1 (t.1+t.2.1) i++mkC t.1 (t.1+t.2.1) (-t.1+i) j)),.int (-t.1+i),z4,z5]) ⟨_,_,by rw[show mkC t.1 (t.1+t.2.1) (-t.1+i) 0=[]from rfl,E_]⟩ ?_ ?_⟩
  ·rintro j u _ ⟨z4,z5,rfl⟩ ej;have hj:=gv ej;have et:=nU ej;subst et;walk_at "go";refine⟨by decide,aZ (fun s env=>∃z5,env=[tvT false false t,ptP (0,0),.dT true (dG cD (mkN t.1 (t.1+t.2.1) i++mkC t.1 (t.1+t.2.1) (-t.1+i) j++((A_ s).filter fun s=>decide (inM (t.1+t.2.1) (-t.1+i,-t.1+j,s)=true)).map fun s=>(-t.1+(i:Int),-t.1+(j:Int),s))),.int (-t.1+i),.int (-t.1+j),z5]) ⟨_,by rw[List.range_zero,List.filter_nil,MN,E_]⟩ ?_ ?_⟩
   ·rintro s u _ ⟨z5,rfl⟩ es;have hs4:s<4:=gv es;have et:=nU es;subst et;rw[M_];walk_at "go";refine⟨t,-t.1+i,-t.1+j,s,rfl,hs4,?_⟩;walk_at "go";rw[Nr,O8,q_];refine nS (fun h=>?_) (fun h=>?_)
    ·walk_at "go";have l1:=Gn (r:=t.1) (R:=t.1+t.2.1) (i:=i) (j:=j) (s:=s) (by lia);have ef:((Ph (fun s=>decide (inM (t.1+t.2.1) (-t.1+i,-t.1+j,s)=true)) [s]).map fun s=>((-t.1+(i:Int),-t.1+(j:Int),s):Qt))=[(-t.1+(i:Int),-t.1+(j:Int),s)]:=by rw[NQ,h];rfl
     rw[M_,M_];exact⟨by rw[nO];lia,_,by rw[ef,<-k_,<-Bi (ρ:=cD) Gx,<-t7];rfl⟩
    walk_at "go";have ef:((Ph (fun s=>decide (inM (t.1+t.2.1) (-t.1+i,-t.1+j,s)=true)) [s]).map fun s=>((-t.1+(i:Int),-t.1+(j:Int),s):Qt))=[]:=by rw[NQ,h];rfl
    exact⟨_,by rw[ef,E_]⟩
   rintro _ ⟨z5,rfl⟩;have e1:mkC t.1 (t.1+t.2.1) (-t.1+i) (j+1)=mkC t.1 (t.1+t.2.1) (-t.1+i) j++_:=fA;exact⟨_,_,by rw[e1,<-k_];rfl⟩
  rintro _ ⟨z4,z5,rfl⟩;rw[cJ];have e1:mkN t.1 (t.1+t.2.1) (i+1)=mkN t.1 (t.1+t.2.1) i++_:=fA;exact⟨_,_,_,by rw[e1]⟩
 rintro _ ⟨z3,z4,z5,rfl⟩;rw[cJ];walk_at "go";exact q
end
noncomputable def Dq:FP:=fun ts k=>∃c n m,ts=[stT c n,.int m]/\n<2 ^ 39/\2<=m/\m<=6/\∀(c':Cells) (t:Tl),tlO t->k (tvT false false t) [stT c' (n+5),.int m]
section
variable{P:Qv}{w:Qy}{K:Qg}{mg:Str->Option Qf}{base:Qz}
theorem y6:FnScope ["_law_state","_law_most","_law_r","_law_k"] ["_law_state","_law_most"] (ax wX):=⟨rfl,rfl,rfl,by decide +kernel,rfl,by decide +kernel,by decide +kernel⟩
theorem DH{f:Qh}{fd:QF}(F:Fun K "_law_tool" "_law_tool" wX f fd)(TX:Txt mg)  (G_take:Cal P w K mg base 1 "_law_take" ["_law_state","_law_many"] (aS K 2 lB)):FnOk P w K mg base CX0 2 f fd ["_law_state","_law_most"] (aS K 2 Dq):=by refine bS F y6 [true,true] rfl (fun cdv A outer s H E hr=>?_);have sc:=@y6;refine⟨_,(af (av (i:=2) sc.nd (by rfl) (e_ rfl) (by rfl) (aj az ge_int (au G_take hr (by rfl) (aO 0 (ah (aB (aj bJ (ae 1) ge_int)) aq))))) (af (av (i:=3) sc.nd (by rfl) (e_ rfl) (by rfl) (aj az ge_int (au G_take hr (by rfl) (aO 0 (ah (aB (aj bJ (ae 2) ge_int)) aq))))) (ai (aL (aD (ab (bp 2) (ab (bp 3) (ab (aj az ge_int (au G_take hr (by rfl) (aO 0 (ah ge_int aq)))) (ab (aj az ge_int (au G_take hr (by rfl) (aO 0 (ah ge_int aq)))) (ab (aj az ge_int (au G_take hr (by rfl) (aO 0 (ah ge_int aq)))) ag)))))))))),fun ts kk hl hp=>?_⟩;clear hl;obtain⟨c,n,m,rfl,hn,m0,m1,q⟩:=hp;walk_at "go";walk_at "take";intro r c1 a1 b1;walk_at "go";walk_at "take";intro kk c2 a2 b2;walk_at "go";walk_at "take";intro u c3 a3 b3;walk_at "go";walk_at "take";intro v c4 a4 b4;walk_at "go";walk_at "take";intro w' c5 a5 b5;walk_at "go";exact q c5 (2+r,1+kk,_,_,_) ⟨by dsimp only;lia,by dsimp only;lia,by dsimp only;lia,by dsimp only;lia⟩
end
noncomputable def yM:FP:=fun ts k=>∃c n m,ts=[stT c n,.int m]/\n<2 ^ 38/\2<=m/\m<=6/\∀(c':Cells) (n':Nat) (tl:List Tl),n<=n'->n'<=n+100->0<tl.length->tl.length<=5->(∀t∈tl,tlO t)->k (.lst true (tl.map (tvT false false))) [stT c' n',.int m]
section
variable{P:Qv}{w:Qy}{K:Qg}{mg:Str->Option Qf}{base:Qz}
theorem vV:FnScope ["_law_state","_law_most"] ["_law_state","_law_most"] (ax uI):=⟨rfl,rfl,rfl,by decide +kernel,rfl,by decide +kernel,by decide +kernel⟩
theorem BQ{f:Qh}{fd:QF}(F:Fun K "_law_tools" "_law_tools" uI f fd)(TX:Txt mg)  (G_take:Cal P w K mg base 1 "_law_take" ["_law_state","_law_many"] (aS K 2 lB))(G_tool:Cal P w K mg base 2 "_law_tool" ["_law_state","_law_most"] (aS K 2 Dq)):FnOk P w K mg base CX0 3 f fd ["_law_state","_law_most"] (aS K 2 yM):=by
 refine bS F vV [true,true] rfl (fun cdv A outer s H E hr=>?_);have sc:=@vV;have nd1:(["_law_turn","_law_most","_law_state"]:List Str).Nodup:=by decide +kernel
 refine⟨_,(ai (aL (bz sc ["_law_turn","_law_most","_law_state"] [none,some 1,some 0] nd1 (by decide +kernel) (cW (by rfl) TX.range (ab (ay hr (aB (bh (ab ge_int (ab ge_int (ab ge_int (ab ge_int (ab ge_int (ab ge_int ag)))))))) (au G_take hr (by rfl) (aO 0 (ah ge_int aq)))) ag)) (fun _ _ _=>(ak (i:=0) nd1 (by rfl) (e_ rfl) (by rfl) (hf:=(s_ rfl)))) (fun _ _ _=>b8) (fun _ _ _=>(au G_tool hr (by rfl) (aO 2 (ah (bp 1) aq))))))),fun ts kk hl hp=>?_⟩;clear hl;obtain⟨c,n,m,rfl,hn,m0,m1,q⟩:=hp;walk_at "go";walk_at "take";intro r c1 a1 b1;walk_at "go";obtain⟨h,ef,f0,f1⟩:=dy (fun v=>1<=v/\v<=5) (ns:=[1,2,3,1,2,5]) (i:=r) (by omega) (by show r<6;omega) (by intro v hv;simp only[n_,LO,or_false]at hv;lia)
 refine b6 ef ?_;walk_at "go";refine⟨by lia,aH (by rw[cJ,sizeLine_eq];lia) (fun i acc ie=>∃(c':Cells) (n':Nat) (tl:List Tl) (z:T),n<=n'/\n'<=n+1+5*i/\tl.length=i/\(∀t∈tl,tlO t)/\acc=tl.map (tvT false false)/\ie=[z,.int m,stT c' n']) ⟨c1,n+1,[],_,by lia,by lia,rfl,(fun _ h=>by cases h),rfl,rfl⟩ ?_ ?_⟩
 ·rintro i u _ _ ⟨c',n',tl,z,l2,l3,l4,ht,rfl,rfl⟩ ei;have hi:=gv ei;walk_at "go";refine⟨c',n',m,rfl,by lia,m0,m1,fun c2 t h=>?_⟩;walk_at "go";refine⟨c2,n'+5,tl++[t],_,by lia,by lia,by rw[f',l4];rfl,fun v mv=>?_,by rw[q_];rfl,rfl⟩;rcases v_.mp mv with mv|mv
  ·exact ht v mv
  rw[z_.mp mv];exact h
 rintro _ _ ⟨c',n',tl,z,l2,l3,l4,ht,rfl,rfl⟩;rw[cJ]at l3 l4;walk_at "go";exact q c' n' tl (by omega) (by lia) (by lia) (by lia) ht
end
noncomputable def wc:FP:=fun ts k=>∃c n p m,ts=[stT c n,ptP p,.int m]/\n<2 ^ 38/\0<=m/\m<=40/\∀(c':Cells) (n':Nat) (ps:List Plc) (e:Pt),n<=n'->n'<=n+300->(∀p'∈ps,(p.1-m<=p'.1.1/\p'.1.1<=p.1+m)/\p.2-m<=p'.1.2/\p'.1.2<=p.2+m)->ps.length<=m.toNat+1->0<ps.length->((p.1-m<=e.1/\e.1<=p.1+m)/\p.2-m<=e.2/\e.2<=p.2+m)->k (.tup [.lst true (ps.map plT),ptP e]) [stT c' n',ptP p,.int m]
section
variable{P:Qv}{w:Qy}{K:Qg}{mg:Str->Option Qf}{base:Qz}
theorem sI:FnScope ["_law_state","_law_corner","_law_many","_law_x","_law_y","_law_z","_law_places_here","_law_direction","_law_turn","_law_way"] ["_law_state","_law_corner","_law_many"] (ax pI):=⟨rfl,rfl,rfl,by decide +kernel,rfl,by decide +kernel,by decide +kernel⟩
theorem Ak{f:Qh}{fd:QF}(F:Fun K "_law_places" "_law_places" pI f fd)(TX:Txt mg)  (G_take:Cal P w K mg base 1 "_law_take" ["_law_state","_law_many"] (aS K 2 lB)):FnOk P w K mg base CX0 2 f fd ["_law_state","_law_corner","_law_many"] (aS K 3 wc):=by
 refine bS F sI [true,true,true] rfl (fun cdv A outer s H E hr=>?_);have sc:=@sI;refine⟨_,(af (kE (bp 1) (dJ (n:=2) (by rfl) (aE (ak (i:=3) sc.nd (by rfl) (e_ rfl) (by rfl)) (aE (ak (i:=4) sc.nd (by rfl) (e_ rfl) (by rfl)) cw)))) (af (av (i:=5) sc.nd (by rfl) (e_ rfl) (by rfl) (au G_take hr (by rfl) (aO 0 (ah ge_int aq)))) (af (av (i:=6) sc.nd (by rfl) (e_ rfl) (by rfl) (aB (bh (ab (aD (ab (ae 3) (ab (ae 4) (ab (ae 5) ag)))) ag)))) (af (av (i:=7) sc.nd (by rfl) (e_ rfl) (by rfl) (au G_take hr (by rfl) (aO 0 (ah ge_int aq)))) (af (bB QG (by rfl) (cW (by rfl) TX.range (ab (bp 2) ag)) (ak (i:=8) sc.nd (by rfl) (e_ rfl) (by rfl)) (eX (bA (aY (bV hr) (au G_take hr (by rfl) (aO 0 (ah ge_int aq))) ge_int (aJ _)) (ai (av (i:=7) sc.nd (by rfl) (e_ rfl) (by rfl) (au G_take hr (by rfl) (aO 0 (ah ge_int aq))))) aT) (af (av (i:=9) sc.nd (by rfl) (e_ rfl) (by rfl) (au G_take hr (by rfl) (aO 0 (ah ge_int aq)))) (eX (bA (cN (uP (nV (aY (bV hr) (ae 9) ge_int (aJ _)) (jM (aY Ha (ae 5) ge_int (aJ _)))))) (ai (av (i:=5) sc.nd (by rfl) (e_ rfl) (by rfl) (aB (aj az (ae 5) ge_int)))) (af (av (i:=3) sc.nd (by rfl) (e_ rfl) (by rfl) (aB (aj az (ae 3) (ay hr (bh (ab ge_int (ab ge_int (ab ge_int (ab (cn ge_int) (ab (cn ge_int) (ab (cn ge_int) (ab ge_int (ab ge_int ag))))))))) (ae 7))))) (af (av (i:=4) sc.nd (by rfl) (e_ rfl) (by rfl) (aB (aj az (ae 4) (ay hr (bh (ab ge_int (ab ge_int (ab ge_int (ab ge_int (ab ge_int (ab (cn ge_int) (ab (cn ge_int) (ab (cn ge_int) ag))))))))) (ae 7))))) (ai (av (i:=5) sc.nd (by rfl) (e_ rfl) (by rfl) (ay hr (bh (ab (bp 5) (ab (bp 5) (ab (aB (aA (jI rfl) (by rfl) TX.min (by decide +kernel) (ab ge_int (ab (aj az (ae 5) ge_int) ag)))) (ab (au G_take hr (by rfl) (aO 0 (ah (aB (aj az (ae 5) ge_int)) aq))) (ab (bp 5) (ab (bp 5) ag))))))) (bp 9))))))) (ai (bP (bQ 6 QP QQ bu (ab (aB (aD (ab (ae 3) (ab (ae 4) (ab (ae 5) ag))))) ag)))))))) (ai (aL (aD (ab (rX 6) (ab (aB (aD (ab (ae 3) (ab (ae 4) ag)))) ag)))))))))),fun ts kk hl hp=>?_⟩;clear hl;obtain⟨c,n,p,m,rfl,hn,m0,m1,q⟩:=hp;rw[ptP,pt];walk_at "go";walk_at "take";intro z c1 a1 b1;walk_at "go";walk_at "take";intro d c2 a2 b2;walk_at "go";refine⟨by lia,aZ (fun i env=>∃(c':Cells) (n':Nat) (ps:List Plc) (x y z d:Int) (z8 z9:T),n<=n'/\n'<=n+2+5*i/\ps.length=i+1/\(p.1-i<=x/\x<=p.1+i/\p.2-i<=y/\y<=p.2+i/\0<=z/\z<=6/\0<=d/\d<8)/\(∀p'∈ps,(p.1-i<=p'.1.1/\p'.1.1<=p.1+i)/\p.2-i<=p'.1.2/\p'.1.2<=p.2+i)/\env=[stT c' n',ptP p,.int m,.int x,.int y,.int z,.lst true (ps.map plT),.int d,z8,z9]) ⟨c2,n+1+1,[(p,z)],p.1,p.2,z,d,_,_,by lia,by lia,rfl,by lia,fun p' m'=>?_,rfl⟩ ?_ ?_⟩
 ·rw[z_.mp m'];dsimp only;lia
 ·rintro i t _ ⟨c',n',ps,x,y,z,d,z8,z9,l1,l2,l3,hb,hm,rfl⟩ ei;have hi:=gv ei;walk_at "go";refine jm (fun env=>∃(c':Cells) (n':Nat) (d:Int) (z8:T),n<=n'/\n'<=n+4+5*i/\(0<=d/\d<8)/\env=[stT c' n',ptP p,.int m,.int x,.int y,.int z,.lst true (ps.map plT),.int d,z8,z9]) ?_ ?_
  ·walk_at "go";walk_at "take";intro r c3 r1 r2;walk_at "go";refine b9 (fun g=>?_) (fun g=>?_)
   ·walk_at "go";walk_at "take";intro r' c4 r3 r4;walk_at "go";exact⟨_,_,_,_,by lia,by lia,⟨r3,r4⟩,rfl⟩
   walk_at "go";exact⟨_,_,_,_,by lia,by lia,⟨hb.2.2.2.2.2.2.1,hb.2.2.2.2.2.2.2⟩,rfl⟩
  clear l1 l2;rintro _ ⟨c',n',d,z8,l1,l2,hd,rfl⟩;walk_at "go";walk_at "take";intro w c5 w1 w2;walk_at "go";refine jm (fun env=>∃(c':Cells) (n':Nat) (x' y' z':Int) (z8:T),n<=n'/\n'<=n+7+5*i/\(x-1<=x'/\x'<=x+1/\y-1<=y'/\y'<=y+1/\0<=z'/\z'<=6)/\env=[stT c' n',ptP p,.int m,.int x',.int y',.int z',.lst true (ps.map plT),.int d,z8,.int w]) ?_ ?_
  ·walk_at "go";refine b9 (fun g=>?sa) (fun g=>?sb)
   case' sb=>
    walk_at "go";clear g
   case' sa=>
    walk_at "go";refine b9 (fun g2=>?sc) (fun g2=>?sd)
   case sc=>
    walk_at "go";exact⟨_,_,x,y,z+1,_,by lia,by lia,by lia,rfl⟩
   case' sd=>
    walk_at "go";clear g g2;refine ?sb
   case sb=>
    obtain⟨u,eu,u0,u1⟩:=dy (fun v=>-1<=v/\v<=1) (ns:=[1,1,0,-1,-1,-1,0,1]) (i:=d) hd.1 hd.2 (by decide);refine b6 eu ?_;walk_at "go";obtain⟨v,ev,v0,v1⟩:=dy (fun v=>-1<=v/\v<=1) (ns:=[0,1,1,1,0,-1,-1,-1]) (i:=d) hd.1 hd.2 (by decide);refine b6 ev ?_;walk_at "go";walk_at "take";intro r c6 r1 r2;walk_at "go";obtain⟨z',ez,z0,z1⟩:=dy (fun v=>0<=v/\v<=6) (ns:=[z,z,min 6 (z+1),r,z,z]) (i:=w) w1 w2 (by intro v hv;simp only[n_,LO,or_false]at hv;lia)
    refine b6 ez ?_;walk_at "go";exact⟨_,_,_,_,_,_,by lia,by lia,by lia,rfl⟩
  rintro _ ⟨c',n',x',y',z',z8,l1,l2,hb',rfl⟩;walk_at "go";refine⟨by lia,c',n',ps++[((x',y'),z')],x',y',z',d,_,_,l1,by lia,by rw[f',l3];rfl,by lia,fun p' m'=>?_,by rw[q_];rfl⟩;rcases v_.mp m' with m'|m'
  ·have:=hm p' m';lia
  rw[z_.mp m'];dsimp only;omega
 rintro _ ⟨c',n',ps,x,y,z,d,z8,z9,l1,l2,l3,hb,hm,rfl⟩;rw[cJ]at *;walk_at "go";exact q c' n' ps (x,y) l1 (by lia) (fun p' m'=>by have:=hm p' m';omega) (by lia) (by lia) (by dsimp only;omega)
end
noncomputable def FZ:FP:=fun ts k=>∃(o o2:Bool) (P:List Od) (tl:List Tl) (l C:Int) (N:Nat),ts=[.lst o (P.map (odT false false)),.lst o2 (tl.map (tvT false false)),.int l]/\OkP tl.length C N P/\N<=400/\(tl.length<=5/\∀t∈tl,tlO t)/\∀qs:List Qt,Cuts l tl P qs->k (.dT true (dG cD qs)) [.lst false (P.map (odT false false)),.lst o2 (tl.map (tvT false false)),.int l]
section
variable{P:Qv}{w:Qy}{K:Qg}{mg:Str->Option Qf}{base:Qz}
theorem B6:FnScope ["_law_program_here","_law_tools_here","_law_layer","_law_marks","_law_found","_law_spots","_law_taken","_law_order","_law_x","_law_y","_law_z","_law_number","_law_right","_law_up","_law_side"] ["_law_program_here","_law_tools_here","_law_layer"] (ax B0):=⟨rfl,rfl,rfl,by decide +kernel,rfl,by decide +kernel,by decide +kernel⟩
theorem GV{f:Qh}{fd:QF}(F:Fun K "_law_cut" "_law_cut" B0 f fd)(TX:Txt mg)  (G_mark:Cal P w K mg base 2 "_law_mark" ["_law_tool_here","_law_corner"] (aS K 2 Dn)):FnOk P w K mg base CX0 3 f fd ["_law_program_here","_law_tools_here","_law_layer"] (aS K 3 FZ):=by
 refine bS F B6 [true,true,true] rfl (fun cdv A outer s H E hr=>?_);have sc:=@B6;have nd1:(["_law_tool_here"]:List Str).Nodup:=by decide +kernel
 refine⟨_,(af (iV sc (i:=3) ["_law_tool_here"] [none] nd1 (by decide +kernel) (by rfl) (e_ rfl) (by rfl) (aQ (ae 1)) (fun _ _ _=>(ak (i:=0) nd1 (by rfl) (e_ rfl) (by rfl) (hf:=(s_ rfl)))) (fun _ _ _=>b8) (fun _ _ _=>(au G_mark hr (by rfl) (ah (ae 0) (ah (aD (ab ge_int (ab ge_int ag))) aq)))) (by rfl)) (af (av (i:=4) sc.nd (by rfl) (e_ rfl) (by rfl) (aB t5)) (af (av (i:=5) sc.nd (by rfl) (e_ rfl) (by rfl) (aB t5)) (af (av (i:=6) sc.nd (by rfl) (e_ rfl) (by rfl) ge_int) (af (bB QG (by rfl) (aQ (bp 0)) (ak (i:=7) sc.nd (by rfl) (e_ rfl) (by rfl)) (eX (bA (cN (aY (bV hr) (ay hr (ae 7) ge_int) ge_str (aJ _))) (ai (av (i:=6) sc.nd (by rfl) (e_ rfl) (by rfl) (aB (ay hr (ae 7) ge_int)))) aT) (ai (bA (cN (aY (bV hr) (ay hr (ae 7) ge_int) ge_str (aJ _))) (ai (bB QG (by rfl) (aQ (aB (ay hr (ae 7) ge_int))) (dJ (n:=3) (by rfl) (aE (ak (i:=8) sc.nd (by rfl) (e_ rfl) (by rfl)) (aE (ak (i:=9) sc.nd (by rfl) (e_ rfl) (by rfl)) (aE (ak (i:=10) sc.nd (by rfl) (e_ rfl) (by rfl)) cw)))) (ai (bA (cN (aY tP (ae 10) (ae 2) (aJ _))) (ai (kE fy (qC (i:=5) hr (aB (aD (ab (ae 6) (ab (ae 8) (ab (ae 9) ag)))))))) aT)))) aT)))) (af (bB QG (by rfl) (y8 (bp 5)) (dJ (n:=3) (by rfl) (aE (ak (i:=11) sc.nd (by rfl) (e_ rfl) (by rfl)) (aE (ak (i:=12) sc.nd (by rfl) (e_ rfl) (by rfl)) (aE (ak (i:=13) sc.nd (by rfl) (e_ rfl) (by rfl)) cw)))) (ai (bB QG (by rfl) (y8 (ay hr (bp 3) (bp 11))) (dJ (n:=3) (by rfl) (aE (ak (i:=8) sc.nd (by rfl) (e_ rfl) (by rfl)) (aE (ak (i:=9) sc.nd (by rfl) (e_ rfl) (by rfl)) (aE (ak (i:=14) sc.nd (by rfl) (e_ rfl) (by rfl)) cw)))) (ai (kE fy (qC (i:=4) hr (aB (aD (ab (aj az (ae 8) (ae 12)) (ab (aj az (ae 9) (ae 13)) (ab (ae 14) ag))))))))))) (ai (aL (rX 4))))))))),fun ts kk hl hp=>?_⟩;clear hl;obtain⟨o,o2,P,tl,l,C,N,rfl,hP,hN,⟨hl,ht⟩,q⟩:=hp;walk_at "go";refine aH (by rw[a_,sizeLine_eq];lia) (fun i acc ie=>∃z,acc=(tl.take i).map (fun t=>T.dT true (dG cD (mkA t)))/\ie=[z]) ⟨_,rfl,rfl⟩ ?_ ?_
 ·rintro i u _ _ ⟨z,rfl,rfl⟩ ei;obtain⟨t,et,rfl⟩:=aI ei;walk_at "go";refine⟨t,rfl,ht t (G_ et),?_⟩;walk_at "go";exact⟨_,by rw[map_take et],rfl⟩
 rintro _ _ ⟨z,rfl,rfl⟩;rw[a_,u_];walk_at "go";refine⟨rfl,rfl,aZ (fun i env=>∃(z7 z8 z9 z10:T),env=[.lst false (P.map (odT false false)),.lst o2 (tl.map (tvT false false)),.int l,.lst true (tl.map fun t=>T.dT true (dG cD (mkA t))),.dT true [],.dT true (dG fG (cv fG [] (sps l (P.take i) 0))),.int (tlA (P.take i) 0:Int),z7,z8,z9,z10,.any,.any,.any,.any]) ⟨_,_,_,_,rfl⟩ ?_ ?_⟩
 ·rintro i t _ ⟨z7,z8,z9,z10,rfl⟩ ei;obtain⟨od,eo,rfl⟩:=aI ei;obtain⟨et,e0⟩:=zE hP eo;have hw:=(jD (l:=l) (Q:=[od]) (P:=P.take i) (t:=0)).2;rw[<-et]at hw;have hm:=G_ eo;walk_at "go";refine jm (fun env=>env=[.lst false (P.map (odT false false)),.lst o2 (tl.map (tvT false false)),.int l,.lst true (tl.map fun t=>T.dT true (dG cD (mkA t))),.dT true [],.dT true (dG fG (cv fG [] (sps l (P.take i) 0))),.int (tlA (P.take (i+1)) 0:Int),odT false false od,z8,z9,z10,.any,.any,.any,.any]) ?_ ?_
  ·rw[hw.2];cases od with
   |tk j=>rw[sQ];walk_at "go";rfl
   |ov b u v=>rw[tY];walk_at "go";rfl
   |ct ps=>rw[sP];walk_at "go";rfl
  rintro _ rfl;rw[hw.1,hw.2];have le:(sps l (P.take i) 0).length<=400:=by have h1:=mC (l:=l) (P:=P.take i) (t:=0);have h2:=wg (P:=P) (i:=i);have h3:=hP.2.2.1;lia
  cases od with
  |tk j=>rw[sQ];walk_at "go";exact⟨_,_,_,_,by rw[show sps l [Od.tk j] (tlA (P.take i) 0)=[]from rfl,E_]⟩
  |ov b u v=>rw[tY];walk_at "go";exact⟨_,_,_,_,by rw[show sps l [Od.ov b u v] (tlA (P.take i) 0)=[]from rfl,E_]⟩
  |ct ps=>
   have hps:=tO hm;have hnp:=hP.2.2.1;have e1:sps l [Od.ct ps] (tlA (P.take i) 0)=(ps.filter fun p=>decide (l<p.2)).map fun p=>(tlA (P.take i) 0,p.1):=E_ _;have e2:tlA [Od.ct ps] (tlA (P.take i) 0)=tlA (P.take i) 0:=rfl;rw[e1,e2,fD,sP];clear hw e1 e2;generalize sps l (P.take i) 0=S at *;generalize tlA (P.take i) 0=tn at *;have lS:=dE (ρ:=fG) (l:=[]) (r:=S);rw[LR]at lS;generalize cv fG [] S=SS at *;walk_at "go";refine aZ (fun j env=>∃(z8 z9 z10:T),env=[.lst false (P.map (odT false false)),.lst o2 (tl.map (tvT false false)),.int l,.lst true (tl.map fun t=>T.dT true (dG cD (mkA t))),.dT true [],.dT true (dG fG (cv fG SS (((ps.take j).filter fun p=>decide (l<p.2)).map fun p=>(tn,p.1)))),.int (tn:Int),odT false false (.ct ps),z8,z9,z10,.any,.any,.any,.any]) ⟨_,_,_,rfl⟩ ?_ ?_
   ·rintro j t _ ⟨z8,z9,z10,rfl⟩ ej;obtain⟨p,ep,rfl⟩:=aI ej;have hj:=(d_.mp ep).1;rw[plT];walk_at "go";rw[jN ep];refine b9 (fun g=>?_) (fun g=>?_)
    ·walk_at "go";have la:=dE (ρ:=fG) (l:=SS) (r:=((ps.take j).filter fun p=>decide (l<p.2)).map fun p=>(tn,p.1));rw[a_]at la;have lb:=m_ la (MA (m_ (LQ _ _) (NZ _ _)) _);rw[if_pos g,fD];exact⟨by rw[nO];lia,_,_,_,by rw[cv,cv,<-t7];rfl⟩
    walk_at "go";rw[if_neg g,E_];exact⟨_,_,_,rfl⟩
   rintro _ ⟨z8,z9,z10,rfl⟩;rw[a_,u_];exact⟨_,_,_,_,rfl⟩
 rintro _ ⟨z7,z8,z9,z10,rfl⟩;rw[a_,u_];have hv:∀v∈cv fG [] (sps l P 0),v.1<tl.length:=fun v m=>((fB qJ).mp m).elim (nomatch ·) (B5 hP v);have hS:(cv fG [] (sps l P 0)).length<=400:=by have h1:=dE (ρ:=fG) (l:=[]) (r:=sps l P 0);have h2:=mC (l:=l) (P:=P) (t:=0);have h3:=hP.2.2.1;rw[LR]at h1;lia
 have fin:∀q:Qt,q∈cv cD [] (fnd tl (cv fG [] (sps l P 0)))↔q.2.2<4/\∃v∈sps l P 0,inL (mkT (tR tl v.1) v.2) q:=fun q=>by
  rw[fB qf,Ff ht hv];constructor
  ·rintro(h|⟨a,v,m,b⟩)
   ·cases h
   exact⟨a,v,((fB qJ).mp m).elim (nomatch ·) id,b⟩
  rintro⟨a,v,m,b⟩;exact .inr ⟨a,v,(fB qJ).mpr (.inr m),b⟩
 have q:=q _ ⟨tG qf Mk,fin⟩;clear fin;generalize cv fG [] (sps l P 0)=S at *;generalize (tlA P 0:Int)=tn at *;walk_at "go";refine aZ (fun i env=>∃(b:Bool) (z8 z9 z11 z12 z13 z14:T),env=[.lst false (P.map (odT false false)),.lst o2 (tl.map (tvT false false)),.int l,.lst b (tl.map fun t=>T.dT b (dG cD (mkA t))),.dT true (dG cD (cv cD [] (fnd tl (S.take i)))),.dT false (dG fG S),.int tn,z7,z8,z9,z10,z11,z12,z13,z14]) ⟨true,_,_,_,_,_,_,rfl⟩ ?_ ?_
 ·rintro i t _ ⟨b,z8,z9,z11,z12,z13,z14,rfl⟩ ei;obtain⟨v,ev,rfl⟩:=aI ei;have hi:=(d_.mp ev).1;have mv:=G_ ev;walk_at "go";refine b6 (IW (hv v mv)) ?_;walk_at "go";have lf:=yL ht (S:=S.take i) fun w mw=>hv w (Ml mw);have la:=dE (ρ:=cD) (l:=[]) (r:=fnd tl (S.take i));have lk:=zm (wm ht (hv v mv));rw[LR]at la;rw[D']at lf;have es:cv cD [] (fnd tl (S.take (i+1)))=cv cD (cv cD [] (fnd tl (S.take i))) ((mkA (tl.getD v.1 (0,0,0,0,0))).map (mvQ v.2)):=by
   rw[LL,ev,<-fD,<-D3]
   rfl
  rw[es];clear es;generalize cv cD [] (fnd tl (S.take i))=F at *;generalize mkA (tl.getD v.1 (0,0,0,0,0))=M at *;refine aZ (fun j env=>∃(z8 z9 z14:T),env=[.lst false (P.map (odT false false)),.lst o2 (tl.map (tvT false false)),.int l,.lst false (tl.map fun t=>T.dT false (dG cD (mkA t))),.dT true (dG cD (cv cD F ((M.map (mvQ v.2)).take j))),.dT false (dG fG S),.int tn,z7,z8,z9,z10,.int (v.1:Int),.int v.2.1,.int v.2.2,z14]) ⟨_,_,_,rfl⟩ ?_ ?_
  ·rintro j t _ ⟨z8,z9,z14,rfl⟩ ej;obtain⟨m,em,rfl⟩:=aI ej;walk_at "go";have lc:=dE (ρ:=cD) (l:=F) (r:=(M.map (mvQ v.2)).take j);have ld:=m_ lc (MA (NZ _ _) _);rw[a_]at ld;rw[rG (a:=mvQ v.2 m) (by rw[D_,em];rfl)];exact⟨by rw[nO];lia,_,_,_,by rw[<-t7];rfl⟩
  rintro _ ⟨z8,z9,z14,rfl⟩;have e3:(M.map (mvQ v.2)).take (M.map fun a=>T.tup [T.int a.1,T.int a.2.1,T.int (a.2.2:Int)]).length=M.map (mvQ v.2):=by rw[a_,show M.length=(M.map (mvQ v.2)).length from(a_ ..).symm,u_]
  rw[e3];exact⟨false,_,_,_,_,_,_,rfl⟩
 rintro _ ⟨b,z8,z9,z11,z12,z13,z14,rfl⟩;rw[a_,u_];walk_at "go";exact q
end
noncomputable def rM:FP:=fun ts k=>∃c n o,∃tl:List Tl,∃far cuts most:Int,ts=[stT c n,.lst o (tl.map (tvT false false)),.int far,.int cuts,.int most]/\n<2 ^ 36/\0<tl.length/\tl.length<=5/\0<=far/\far<=15/\0<=cuts/\cuts<=10/\1<=most/\most<=8/\∀(c':Cells) (n':Nat) (P:List Od) (z2:T),n<=n'->n'<=n+9000->OkP tl.length 100 168 P->P.length<=62->P≠[]->k (.lst true (P.map (odT false false))) [stT c' n',.lst o (tl.map (tvT false false)),z2,.int cuts,.int most]
section
variable{P:Qv}{w:Qy}{K:Qg}{mg:Str->Option Qf}{base:Qz}
theorem qK:FnScope ["_law_state","_law_tools_here","_law_far","_law_cuts","_law_most","_law_program_here","_law_turn","_law_corner","_law_again","_law_places_here"] ["_law_state","_law_tools_here","_law_far","_law_cuts","_law_most"] (ax nG):=⟨rfl,rfl,rfl,by decide +kernel,rfl,by decide +kernel,by decide +kernel⟩
theorem xF{f:Qh}{fd:QF}(F:Fun K "_law_program" "_law_program" nG f fd)(TX:Txt mg)  (G_take:Cal P w K mg base 1 "_law_take" ["_law_state","_law_many"] (aS K 2 lB))(G_places:Cal P w K mg base 2 "_law_places" ["_law_state","_law_corner","_law_many"] (aS K 3 wc)):FnOk P w K mg base CX0 3 f fd ["_law_state","_law_tools_here","_law_far","_law_cuts","_law_most"] (aS K 5 rM):=by
 refine bS F qK [true,true,false,true,true] rfl (fun cdv A outer s H E hr=>?_);have sc:=@qK;refine⟨_,(af (av (i:=5) sc.nd (by rfl) (e_ rfl) (by rfl) (bh (ab (aD (ab ge_str (ab (au G_take hr (by rfl) (aO 0 (ah (aB (aA bG (by rfl) TX.len (by decide +kernel) (ab (ae 1) ag))) aq))) ag))) ag))) (eX (bA (cN (aY (bV hr) (ae 2) ge_int (aJ _))) (af (av (i:=2) sc.nd (by rfl) (e_ rfl) (by rfl) ge_int) (ai (bP (bQ 5 QP QQ bu (ab (aD (ab ge_str (ab (bH cF (by rfl) TX.tuple (by decide +kernel) (ab (ay hr (au G_places hr (by rfl) (aO 0 (ah (aB (aD (ab ge_int (ab ge_int ag)))) (ah (au G_take hr (by rfl) (aO 0 (ah (bp 4) aq))) aq)))) ge_int) ag)) ag))) ag))))) aT) (af (bB QG (by rfl) (cW (by rfl) TX.range (ab (bp 3) ag)) (ak (i:=6) sc.nd (by rfl) (e_ rfl) (by rfl)) (eX (bA (aY (bV hr) (au G_take hr (by rfl) (aO 0 (ah ge_int aq))) ge_int (aJ _)) (ai (bP (bQ 5 QP QQ bu (ab (aD (ab ge_str (ab (au G_take hr (by rfl) (aO 0 (ah (aB (aA bG (by rfl) TX.len (by decide +kernel) (ab (ae 1) ag))) aq))) ag))) ag)))) aT) (af (av (i:=7) sc.nd (by rfl) (e_ rfl) (by rfl) (aD (ab (aj bJ (au G_take hr (by rfl) (aO 0 (ah (aB (aj az (aj aU ge_int (ae 2)) ge_int)) aq))) (bp 2)) (ab (aj bJ (au G_take hr (by rfl) (aO 0 (ah (aB (aj az (aj aU ge_int (ae 2)) ge_int)) aq))) (bp 2)) ag)))) (af (bP (bQ 5 QP QQ bu (ab (aD (ab ge_str (ab (ay hr (aB (bh (ab ge_str (ab ge_str ag)))) (au G_take hr (by rfl) (aO 0 (ah ge_int aq)))) (ab (aB (ay hr (ae 7) ge_int)) (ab (aB (ay hr (ae 7) ge_int)) ag))))) ag))) (ai (bB QG (by rfl) (cW (by rfl) TX.range (ab (aj az ge_int (au G_take hr (by rfl) (aO 0 (ah ge_int aq)))) ag)) (ak (i:=8) sc.nd (by rfl) (e_ rfl) (by rfl)) (eX (bA (uP (nV (cN (aY tP (ae 8) ge_int (aJ _))) (jM (aY (bV hr) (au G_take hr (by rfl) (aO 0 (ah ge_int aq))) ge_int (aJ _))))) (ai (bP (bQ 5 QP QQ bu (ab (aD (ab ge_str (ab (au G_take hr (by rfl) (aO 0 (ah (aB (aA bG (by rfl) TX.len (by decide +kernel) (ab (ae 1) ag))) aq))) ag))) ag)))) aT) (af (kE (au G_places hr (by rfl) (aO 0 (ah (bp 7) (ah (au G_take hr (by rfl) (aO 0 (ah (bp 4) aq))) aq)))) (dJ (n:=2) (by rfl) (aE (ak (i:=9) sc.nd (by rfl) (e_ rfl) (by rfl)) (aE (ak (i:=7) sc.nd (by rfl) (e_ rfl) (by rfl)) cw)))) (ai (bP (bQ 5 QP QQ bu (ab (aB (aD (ab ge_str (ab (bH cF (by rfl) TX.tuple (by decide +kernel) (ab (ae 9) ag)) ag)))) ag)))))))))))) (ai (aL (rX 5)))))),fun ts kk hl hp=>?_⟩;clear hl;obtain⟨c,n,o,tl,far,cuts,most,rfl,hn,l0,l1,f0,f1,k0,k1,m0,m1,q⟩:=hp;walk_at "go";walk_at "take";intro t0 c1 t1 t2;walk_at "go";obtain⟨t0',rfl⟩:∃j:Nat,t0=(j:Int):=⟨t0.toNat,by lia⟩;have p0:PrO tl.length [.tk t0'] 0 1:=KU (by lia);refine jm (fun env=>∃(c':Cells) (n':Nat) (P:List Od) (far:Int),n<=n'/\n'<=n+400/\PrO tl.length P 8 2/\(1<=far/\far<=15)/\env=[stT c' n',.lst o (tl.map (tvT false false)),.int far,.int cuts,.int most,.lst true (P.map (odT false false)),.any,.any,.any,.any]) ?_ ?_
 ·walk_at "go";refine b9 (fun g=>?_) (fun g=>?_)
  ·walk_at "go";walk_at "take";intro w c2 w1 w2;walk_at "go";refine⟨c2,n+1+1,(0,0),w,rfl,by lia,w1,by lia,fun c3 n3 ps e l3 l4 hps l5 l6 he=>?_⟩;walk_at "go";exact⟨by decide,c3,n3,[.tk t0']++[.ct ps],5,by lia,by lia,qr (.ct ps) p0 (show ps.length+0<=8 by lia) (b_ _) (fun p' m'=>by have:=hps p' m';dsimp only at this;lia),by lia,rfl⟩
  walk_at "go";exact⟨c1,n+1,[.tk t0'],far,by lia,by lia,rQ p0 (by decide) (by decide),by lia,rfl⟩
 clear f0 f1 p0 t1 t2 c1;rintro _ ⟨c1,n1,P,far,l2,l3,pr,hf,rfl⟩;walk_at "go";refine⟨by lia,aZ (fun i env=>∃(c':Cells) (n':Nat) (P:List Od) (z6 z7 z8 z9:T),n<=n'/\n'<=n+400+700*i/\PrO tl.length P (8+16*i) (2+6*i)/\env=[stT c' n',.lst o (tl.map (tvT false false)),.int far,.int cuts,.int most,.lst true (P.map (odT false false)),z6,z7,z8,z9]) ⟨c1,n1,P,_,_,_,_,l2,by omega,pr,rfl⟩ ?_ ?_⟩
 ·clear pr P l2 l3 c1 n1;rintro i t _ ⟨c1,n1,P,z6,z7,z8,z9,l2,l3,pr,rfl⟩ ei;have hi:=gv ei;walk_at "go";refine jm (fun env=>∃(c':Cells) (n':Nat) (P:List Od),n<=n'/\n'<=n+402+700*i/\PrO tl.length P (8+16*i) (3+6*i)/\env=[stT c' n',.lst o (tl.map (tvT false false)),.int far,.int cuts,.int most,.lst true (P.map (odT false false)),t,z7,z8,z9]) ?_ ?_
  ·walk_at "go";walk_at "take";intro w c3 w1 w2;walk_at "go";refine b9 (fun g=>?_) (fun g=>?_)
   ·walk_at "go";walk_at "take";intro w' c4 w3 w4;walk_at "go";obtain⟨j,rfl⟩:∃j:Nat,w'=(j:Int):=⟨w'.toNat,by lia⟩;have:=pr.2.2.1;exact⟨by lia,c4,n1+1+1,P++[.tk j],by lia,by lia,qr (.tk j) pr (show 0+_<=_ by lia) (by lia) (show j<tl.length by lia),by rw[q_];rfl⟩
   walk_at "go";exact⟨c3,_,P,by lia,by lia,rQ pr (by lia) (by lia),rfl⟩
  clear pr P l2 l3 c1 n1;rintro _ ⟨c1,n1,P,l2,l3,pr,rfl⟩;walk_at "go";refine⟨.inl ⟨by decide,by decide⟩,?_⟩;walk_at "take";intro x c2 x1 x2;walk_at "go";refine⟨.inl ⟨by decide,by decide⟩,?_⟩;walk_at "take";intro y c3 y1 y2;walk_at "go";walk_at "take";intro d c4 d1 d2;walk_at "go";obtain⟨hg,eh⟩:=IY d1 d2;refine b6 eh ?_;walk_at "go";have lP:=pr.2.2.1;refine⟨by lia,?_⟩;walk_at "take";intro k c5 e1 e2;walk_at "go";refine⟨by lia,aZ (fun j env=>∃(c':Cells) (n':Nat) (P:List Od) (cr:Pt) (z8 z9:T),n<=n'/\n'<=n+410+700*i+310*j/\PrO tl.length P (8+16*i+8*j) (4+6*i+2*j)/\(-15-8*(j:Int)<=cr.1/\cr.1<=15+8*(j:Int)/\-15-8*(j:Int)<=cr.2/\cr.2<=15+8*(j:Int))/\env=[stT c' n',.lst o (tl.map (tvT false false)),.int far,.int cuts,.int most,.lst true (P.map (odT false false)),t,ptP cr,z8,z9]) ⟨c5,n1+1+1+1+1,P++[.ov hg (x-far) (y-far)],(x-far,y-far),_,_,by lia,by lia,qr (.ov hg (x-far) (y-far)) pr (show 0+_<=_ by lia) (by lia) trivial,by dsimp only;lia,by rw[q_];rfl⟩ ?_ ?_⟩
  ·clear pr lP P l2 l3;rintro j t' _ ⟨c',n',P,cr,z8,z9,l2,l3,pr,hc,rfl⟩ ej;have hj:=gv ej;have et:=nU ej;subst et;walk_at "go";refine jm (fun env=>∃(c':Cells) (n':Nat) (P:List Od),n<=n'/\n'<=n+412+700*i+310*j/\PrO tl.length P (8+16*i+8*j) (5+6*i+2*j)/\env=[stT c' n',.lst o (tl.map (tvT false false)),.int far,.int cuts,.int most,.lst true (P.map (odT false false)),t,ptP cr,.int (0+j),z9]) ?_ ?_
   ·walk_at "go";refine b9 (fun g=>?_) (fun g=>?_)
    ·walk_at "go";walk_at "take";intro w c7 w1 w2;walk_at "go";refine b9 (fun g=>?_) (fun g=>?_)
     ·walk_at "go";walk_at "take";intro w' c8 w3 w4;walk_at "go";obtain⟨j',rfl⟩:∃j:Nat,w'=(j:Int):=⟨w'.toNat,by lia⟩;have lP:=pr.2.2.1;exact⟨by lia,c8,n'+1+1,P++[.tk j'],by lia,by lia,qr (.tk j') pr (show 0+_<=_ by lia) (by lia) (show j'<tl.length by lia),by rw[q_];rfl⟩
     walk_at "go";exact⟨c7,_,P,by lia,by lia,rQ pr (by lia) (by lia),rfl⟩
    walk_at "go";exact⟨c',_,P,l2,by lia,rQ pr (by lia) (by lia),rfl⟩
   clear pr P l2 l3;rintro _ ⟨c',n',P,l2,l3,pr,rfl⟩;walk_at "go";walk_at "take";intro w c7 w1 w2;walk_at "go";refine⟨c7,n'+1,cr,w,rfl,by lia,w1,by lia,fun c8 n8 ps e l4 l5 hps l6 l7 he=>?_⟩;walk_at "go";have lP:=pr.2.2.1;exact⟨by lia,c8,n8,P++[.ct ps],e,_,_,by lia,by lia,qr (.ct ps) pr (show ps.length+_<=_ by lia) (by lia) (fun p' m'=>by have:=hps p' m';lia),by lia,by rw[q_];rfl⟩
  rintro _ ⟨c',n',P,cr,z8,z9,l2,l3,pr,hc,rfl⟩;rw[cJ]at l3 pr;exact⟨c',n',P,_,_,_,_,l2,by lia,rQ pr (by lia) (by lia),rfl⟩
 rintro _ ⟨c',n',P,z6,z7,z8,z9,l2,l3,pr,rfl⟩;rw[cJ]at l3 pr;walk_at "go";have pr:PrO tl.length P 168 62:=rQ pr (by lia) (by lia);exact q c' n' P _ l2 (by lia) (JR pr (by decide)) pr.2.2.1 (by obtain⟨i,P',rfl⟩:=pr.1;exact NS _ _)
end
noncomputable def C0:FP:=fun ts k=>∃a:Int,ts=[.int a,.int a]/\k (.bl true) ts
section
variable{P:Qv}{w:Qy}{K:Qg}{mg:Str->Option Qf}{base:Qz}
theorem zL:FnScope ["_law_found","_law_due"] ["_law_found","_law_due"] (ax s_same):=⟨rfl,rfl,rfl,by decide +kernel,rfl,by decide +kernel,by decide +kernel⟩
theorem DO{f:Qh}{fd:QF}(F:Fun K "_law_same" "_law_same" s_same f fd)(TX:Txt mg)  :FnOk P w K mg base CX0 1 f fd ["_law_found","_law_due"] (aS K 2 C0):=by refine bS F zL [true,true] rfl (fun cdv A outer s H E hr=>?_);have sc:=@zL;refine⟨_,(af (bA (cN (aY uf (ae 1) iX (aJ _))) (ai gJ) aT) (af (bA (cN (cC (aA cy (by rfl) TX.isinstance (by decide +kernel) (ab (ae 1) (ab (qT (n:="dict") (by rfl) TX.dict (by decide +kernel)) ag))))) (af gJ (ai gJ)) aT) (af (bA (cN (uP (C1 (cC (aA cy (by rfl) TX.isinstance (by decide +kernel) (ab (ae 1) (ab (qT (n:="list") (by rfl) TX.list (by decide +kernel)) ag)))) (wZ (cC (aA cy (by rfl) TX.isinstance (by decide +kernel) (ab (ae 1) (ab (qT (n:="tuple") (by rfl) TX.tuple (by decide +kernel)) ag)))))))) (af gJ (af gJ (ai gJ))) aT) (af (bA (cN (cC (aA cy (by rfl) TX.isinstance (by decide +kernel) (ab (ae 1) (ab (qT (n:="str") (by rfl) TX.str (by decide +kernel)) ag))))) (ai gJ) aT) (ai (aL (aB (Bj (aA cy (by rfl) TX.isinstance (by decide +kernel) (ab (ae 0) (ab (qT (n:="int") (by rfl) TX.int (by decide +kernel)) ag))) (Bj (HC (aA cy (by rfl) TX.isinstance (by decide +kernel) (ab (ae 0) (ab (qT (n:="bool") (by rfl) TX.bool (by decide +kernel)) ag)))) (IK (uE (bV hr) (ae 0) (ae 1) (aJ _)))))))))))),fun ts kk hl hp=>?_⟩;clear hl;obtain⟨a,rfl,q⟩:=hp;walk_at "go";exact q
theorem C9:FnScope ["_law_script","_law_state","_law_great","_law_tools_here","_law_many","_law_program_here","_law_kept","_law_last","_law_layer","_law_due","_law_listed","_law_bare"] ["_law_script"] (ax jw):=⟨rfl,rfl,rfl,by decide +kernel,rfl,by decide +kernel,by decide +kernel⟩
theorem Hv{f:Qh}{fd:QF}(F:Fun K "law" "law" jw f fd)(TX:Txt mg)  (G_cut_area:Cal P w K mg base 6 "cut_area" ["program","tools","layer"] (aS K 3 pY))(G_begin:Cal P w K mg base 1 "_law_begin" ["_law_script"] (aS K 1 (tT K)))(G_take:Cal P w K mg base 1 "_law_take" ["_law_state","_law_many"] (aS K 2 lB))(G_same:Cal P w K mg base 1 "_law_same" ["_law_found","_law_due"] (aS K 2 C0))(G_tools:Cal P w K mg base 3 "_law_tools" ["_law_state","_law_most"] (aS K 2 yM))(G_program:Cal P w K mg base 3 "_law_program" ["_law_state","_law_tools_here","_law_far","_law_cuts","_law_most"] (aS K 5 rM))(G_cut:Cal P w K mg base 3 "_law_cut" ["_law_program_here","_law_tools_here","_law_layer"] (aS K 3 FZ)):FnOk P w K mg base CX0 7 f fd ["_law_script"] (aS K 1 (B4 K)):=by
 refine bS F C9 [true] rfl (fun cdv A outer s H E hr=>?_);have sc:=@C9;have nd1:(["_law_order"]:List Str).Nodup:=by decide +kernel
 have nd2:(["_law_part"]:List Str).Nodup:=by decide +kernel
 have nd3:(["_law_tool_here"]:List Str).Nodup:=by decide +kernel
 have nd4:(["_law_order"]:List Str).Nodup:=by decide +kernel
 refine⟨_,(af (av (i:=1) sc.nd (by rfl) (e_ rfl) (by rfl) (aB (au G_begin hr (by rfl) (ah (ae 0) aq)))) (af (av (i:=2) sc.nd (by rfl) (e_ rfl) (by rfl) (au G_take hr (by rfl) (aO 1 (ah ge_int aq)))) (af (av (i:=3) sc.nd (by rfl) (e_ rfl) (by rfl) (au G_tools hr (by rfl) (aO 1 (ah (aB (ay hr (bh (ab ge_int (ab ge_int ag))) (ae 2))) aq)))) (af (av (i:=4) sc.nd (by rfl) (e_ rfl) (by rfl) (aj az ge_int (au G_take hr (by rfl) (aO 1 (ah ge_int aq))))) (eX (bA (uP (nV (cN (aY (bV hr) (ae 2) ge_int (aJ _))) (jM (aY (bV hr) (au G_take hr (by rfl) (aO 1 (ah ge_int aq))) ge_int (aJ _))))) (ai (av (i:=4) sc.nd (by rfl) (e_ rfl) (by rfl) (aj az ge_int (au G_take hr (by rfl) (aO 1 (ah ge_int aq)))))) aT) (af (av (i:=5) sc.nd (by rfl) (e_ rfl) (by rfl) (au G_program hr (by rfl) (aO 1 (ah (bp 3) (ah (ay hr (aB (bh (ab ge_int (ab ge_int (ab ge_int ag))))) (au G_take hr (by rfl) (aO 1 (ah ge_int aq)))) (ah (bp 4) (ah (aB (ay hr (bh (ab ge_int (ab ge_int ag))) (ae 2))) aq))))))) (af (av (i:=6) sc.nd (by rfl) (e_ rfl) (by rfl) (aB (aD (ab (bH iN (by rfl) TX.list (by decide +kernel) (ab (ae 5) ag)) (ab (bH iN (by rfl) TX.list (by decide +kernel) (ab (ae 3) ag)) ag))))) (af (av (i:=7) sc.nd (by rfl) (e_ rfl) (by rfl) iX) (af (bB QG (by rfl) (cW (by rfl) TX.range (ab ge_int ag)) (ak (i:=8) sc.nd (by rfl) (e_ rfl) (by rfl)) (af (av (i:=9) sc.nd (by rfl) (e_ rfl) (by rfl) (aB (aA bG (by rfl) TX.len (by decide +kernel) (ab (au G_cut hr (by rfl) (ah (ae 5) (ah (ae 3) (ah (ae 8) aq)))) ag)))) (af (bA (cN (uP (C1 (pO (cC (au G_same hr (by rfl) (ah (au G_cut_area hr (by rfl) (ah (ae 5) (ah (ae 3) (ah (ae 8) aq)))) (ah (ae 9) aq))))) (wZ (uP (nV (aY BJ (ae 7) iX (aJ _)) (jM (aY tP (ae 9) (ae 7) (aJ _))))))))) (ai (aL fy)) aT) (af (bA (cN (pO (cC (au G_same hr (by rfl) (ah (au G_cut_area hr (by rfl) (ah (aj az (aj az (ae 5) (bh (ab (aD (ab ge_str (ab ge_str (ab ge_int (ab ge_int ag))))) ag))) (ae 5)) (ah (ae 3) (ah (ae 8) aq)))) (ah (ae 9) aq)))))) (ai (aL fy)) aT) (ai (av (i:=7) sc.nd (by rfl) (e_ rfl) (by rfl) (bp 9))))))) (af (iV sc (i:=10) ["_law_order"] [none] nd1 (by decide +kernel) (by rfl) (e_ rfl) (by rfl) (aQ (ae 5)) (fun _ _ _=>(ak (i:=0) nd1 (by rfl) (e_ rfl) (by rfl) (hf:=(s_ rfl)))) (fun _ _ _=>b8) (fun _ _ _=>(Ca ["_law_part"] [none] nd2 (by rfl) (by rfl) (by rfl) (aQ (ae 0)) (fun _ _ _=>(ak (i:=0) nd2 (by rfl) (e_ rfl) (by rfl) (hf:=(s_ rfl)))) (fun _ _ _=>b8) (fun _ _ _=>(ge_if (cC (aA cy (by rfl) TX.isinstance (by decide +kernel) (ab (ae 0) (ab (qT (n:="tuple") (by rfl) TX.tuple (by decide +kernel)) ag)))) (bH iN (by rfl) TX.list (by decide +kernel) (ab (ae 0) ag)) (ae 0))))) (by rfl)) (af (bA (cN (pO (cC (au G_same hr (by rfl) (ah (au G_cut_area hr (by rfl) (ah (ae 10) (ah (bz sc ["_law_tool_here"] [none] nd3 (by decide +kernel) (aQ (ae 3)) (fun _ _ _=>(ak (i:=0) nd3 (by rfl) (e_ rfl) (by rfl) (hf:=(s_ rfl)))) (fun _ _ _=>b8) (fun _ _ _=>(bH iN (by rfl) TX.list (by decide +kernel) (ab (ae 0) ag)))) (ah ge_int aq)))) (ah (aA bG (by rfl) TX.len (by decide +kernel) (ab (au G_cut hr (by rfl) (ah (ae 5) (ah (ae 3) (ah ge_int aq)))) ag)) aq)))))) (ai (aL fy)) aT) (af (iV sc (i:=11) ["_law_order"] [none] nd4 (by decide +kernel) (by rfl) (e_ rfl) (by rfl) (aQ (ae 5)) (fun _ _ _=>(ak (i:=0) nd4 (by rfl) (e_ rfl) (by rfl) (hf:=(s_ rfl)))) (fun _ _ _=>(ug (aY (Dj hr) (ay hr (ae 0) ge_int) ge_str (aJ _)))) (fun _ _ _=>(ae 0)) (by rfl)) (af (bA (cN (uP (C1 (pO (cC (au G_same hr (by rfl) (ah (au G_cut_area hr (by rfl) (ah (ae 11) (ah (ae 3) (ah ge_int aq)))) (ah ge_int aq))))) (wZ (aY (Dj hr) (aD (ab (ae 5) (ab (ae 3) ag))) (ae 6) (aJ _)))))) (ai (aL fy)) aT) (ai (aL (aB (au G_same hr (by rfl) (ah (au G_cut_area hr (by rfl) (ah (bh ag) (ah (ae 3) (ah ge_int aq)))) (ah ge_int aq))))))))))))))))))),fun ts kk hl hp=>?_⟩;clear hl;obtain⟨t,ns,rfl,hs,hn,q⟩:=hp;walk_at "go";obtain⟨e,i⟩:=HA hs;rw[e];refine⟨i,t,ns,rfl,hs,hn,fun c=>⟨CG,?_⟩⟩;walk_at "go";walk_at "take";intro g c1 g1 g2;walk_at "go";obtain⟨m,em,m0,m1⟩:=dy (fun v=>2<=v/\v<=6) (ns:=[3,6]) (i:=g) g1 g2 (by decide);refine b6 em ?_;walk_at "go";refine⟨c1,1,m,rfl,by decide,m0,m1,fun c2 n2 tl l1 l2 l3 l4 ht=>?_⟩;walk_at "go";walk_at "take";intro r c3 r1 r2;walk_at "go";refine jm (fun env=>∃(c':Cells) (n':Nat) (cu:Int),n'<=n2+3/\(0<=cu/\cu<=10)/\env=[t,stT c' n',.int g,.lst true (tl.map (tvT false false)),.int cu,.any,.any,.any,.any,.any,.any,.any]) ?_ ?_
 ·walk_at "go";refine b9 (fun h=>?_) (fun h=>?_)
  ·walk_at "go";walk_at "take";intro u c4 u1 u2;walk_at "go";refine b9 (fun h=>?_) (fun h=>?_)
   ·walk_at "go";walk_at "take";intro v c5 v1 v2;walk_at "go";exact⟨_,n2+1+1+1,_,by lia,by lia,rfl⟩
   walk_at "go";exact⟨_,n2+1+1,_,by lia,by lia,rfl⟩
  walk_at "go";exact⟨_,n2+1,_,by lia,by lia,rfl⟩
 rintro _ ⟨c4,n4,cu,l5,hc,rfl⟩;walk_at "go";walk_at "take";intro fa c5 a1 a2;walk_at "go";obtain⟨far,ef,f0,f1⟩:=dy (fun v=>0<=v/\v<=15) (ns:=[5,15,0]) (i:=fa) a1 a2 (by decide);refine b6 ef ?_;walk_at "go";obtain⟨mo,eo,o0,o1⟩:=dy (fun v=>1<=v/\v<=8) (ns:=[8,5]) (i:=g) g1 g2 (by decide);refine b6 eo ?_;walk_at "go";refine⟨c5,n4+1,false,tl,far,cu,mo,rfl,by lia,l3,l4,f0,f1,hc.1,hc.2,o0,o1,fun c6 n6 P z2 l7 l8 hP lP ne=>?_⟩;walk_at "go";have hN:=hP.2.2.1;have sd:∀l,lF 200 (cj l tl P):=fun l=>yZ hP ht (m_ mn (by lia)) (by decide) (by decide)
 have hT:OkP tl.length 100 (2*168) (P++.ov true 0 0::P):=Bo hP (by lia) ne;have st:∀l,lF 200 (cj l tl (P++.ov true 0 0::P)):=fun l=>yZ hT ht (m_ (xR hP.1) (by lia)) (by decide) (by decide)
 refine⟨by decide,aZ (fun i env=>∃(la z8 z9:T),(la=.non\/∃qs,Cuts ((i:Int)-1) tl P qs/\la=.int (qs.length:Int))/\env=[t,stT c6 n6,.int g,.lst false (tl.map (tvT false false)),.int cu,.lst true (P.map (odT false false)),.tup [.lst true (P.map (odT false false)),.lst true (tl.map (tvT false false))],la,z8,z9,.any,.any]) ⟨_,_,_,.inl rfl,rfl⟩ ?_ ?_⟩
 ·rintro i u _ ⟨la,z8,z9,hla,rfl⟩ ei;have et:=nU ei;subst et;rw[M_];walk_at "go";refine⟨false,false,P,tl,i,100,168,rfl,hP,by decide,⟨l4,ht⟩,fun qs hq=>?_⟩;walk_at "go";refine⟨false,false,false,false,false,P,tl,i,100,168,200,rfl,hP,by decide,sd i,?_⟩;walk_at "go";rw[qL hP ht (sd i) hq,nO];refine⟨_,rfl,?_⟩;rcases hla with rfl|⟨qs',hq',rfl⟩
  case' inl=>walk_at "go"
  case' inr=>
   walk_at "go";refine b9 (fun h=>absurd h (by have:=Af (by lia) hq' hq;lia)) (fun h=>?_);walk_at "go"
  all_goals
   refine⟨by lia,by rw[f',a_];show P.length+1+_<=_;lia,?_⟩;refine⟨true,false,false,false,false,P++.ov true 0 0::P,tl,i,100,2*168,200,by rw[q_,k_];rfl,hT,by decide,st i,?_⟩;walk_at "go";rw[qL hT ht (st i) (x9 hP.1 hq)];refine⟨_,rfl,?_⟩;walk_at "go";exact⟨_,_,_,.inr ⟨qs,by rw[Int.natCast_add];show Cuts ((i:Int)+1-1) tl P qs;rw[O_];exact hq,rfl⟩,rfl⟩
 rintro _ ⟨la,z8,z9,hla,rfl⟩;clear hla;walk_at "go";refine aH (by rw[a_,sizeLine_eq];lia) (fun i acc ie=>∃z,acc=(P.take i).map (odT true true)/\ie=[z]) ⟨_,rfl,rfl⟩ ?_ ?_
 ·rintro i u _ _ ⟨z,rfl,rfl⟩ ei;obtain⟨od,eo,rfl⟩:=aI ei;rw[map_take eo];walk_at "go";refine⟨Au,?_⟩;rw[HR];refine aH (by have:=Ep (o:=od);rw[sizeLine_eq];lia) (fun i acc ie=>∃z,acc=((odP od).take i).map lsP/\ie=[z]) ⟨_,rfl,rfl⟩ ?_ ?_
  ·rintro i u _ _ ⟨z,rfl,rfl⟩ ei;rw[map_take ei];rcases BO (G_ ei)with⟨x,rfl⟩|⟨x,rfl⟩|⟨ps,rfl⟩
   ·walk_at "go";exact⟨_,rfl,rfl⟩
   ·walk_at "go";exact⟨_,rfl,rfl⟩
   walk_at "go";exact⟨_,rfl,rfl⟩
  rintro _ _ ⟨z,rfl,rfl⟩;rw[u_];walk_at "go";exact⟨_,by rw[JM],rfl⟩
 rintro _ _ ⟨z,rfl,rfl⟩;rw[a_,u_];walk_at "go";refine⟨Nb.mpr fun _ _=>Br,?_⟩;refine aH (by rw[a_,sizeLine_eq];lia) (fun i acc ie=>∃z,acc=(tl.take i).map (tvT true true)/\ie=[z]) ⟨_,rfl,rfl⟩ ?_ ?_
 ·rintro i u _ _ ⟨z,rfl,rfl⟩ ei;obtain⟨tt,et,rfl⟩:=aI ei;rw[map_take et,show tvT false false tt=.tup [.int tt.1,.int tt.2.1,.int tt.2.2.1,.int tt.2.2.2.1,.int tt.2.2.2.2]from rfl];walk_at "go";exact⟨_,rfl,rfl⟩
 rintro _ _ ⟨z,rfl,rfl⟩;rw[a_,u_];walk_at "go";refine⟨false,true,true,false,true,P,tl,0,100,168,200,rfl,hP,by decide,sd 0,?_⟩;walk_at "go";refine⟨false,false,P,tl,0,100,168,rfl,hP,by decide,⟨l4,ht⟩,fun qs hq=>?_⟩;walk_at "go";rw[qL hP ht (sd 0) hq,nO];refine⟨_,rfl,?_⟩;walk_at "go";refine aH (by rw[a_,sizeLine_eq];lia) (fun i acc ie=>∃z,acc=((P.take i).filter fun o=>!Ab o).map (odT false false)/\ie=[z]) ⟨_,rfl,rfl⟩ ?_ ?_
 ·rintro i u _ _ ⟨z,rfl,rfl⟩ ei;obtain⟨od,eo,rfl⟩:=aI ei;rw[jN eo];cases od with
  |tk j=>rw[sQ];walk_at "go";exact⟨_,rfl,rfl⟩
  |ov h x y=>rw[tY];walk_at "go";exact⟨_,rfl,rfl⟩
  |ct ps=>rw[sP];walk_at "go";exact⟨_,(E_ _).symm,rfl⟩
 rintro _ _ ⟨z,rfl,rfl⟩;rw[a_,u_];have hB:=Fb hP;have sb:lF 200 (cj 0 tl (P.filter fun o=>!Ab o)):=yZ hB ht (m_ mn (m_ hB.2.2.1 (by decide))) (by decide) (by decide);have db:=qL hB ht sb (Ce mP.1);have hE:OkP tl.length 100 168 []:=⟨(fun o e=>by cases e),B_ _,B_ _,(fun o m=>by cases m)⟩;have se:lF 200 (cj 3 tl []):=yZ hE ht (B_ _) (by decide) (by decide);have de:=qL hE ht se (Ce rfl);walk_at "go";refine⟨false,false,false,false,false,P.filter fun o=>!Ab o,tl,0,100,168,200,rfl,hB,by decide,sb,?_⟩;walk_at "go";rw[db];refine⟨_,rfl,?_⟩;walk_at "go";refine ne_self (n:=5) (x6 (aW (KA (sT fun _ _=>Kt)) (aW (KA (sT fun _ _=>JV)) ig))) (by decide) ?_;walk_at "go";refine⟨true,false,false,false,false,[],tl,3,100,168,200,rfl,hE,by decide,se,?_⟩;walk_at "go";rw[de];refine⟨_,rfl,?_⟩;walk_at "go";exact q _
end
theorem ar0{α:Type}{P:List α->Prop}(h:P []):∀us:List α,us.length=0->P us:=fun us e=>by
 cases us with
 |nil=>exact h
 |cons a r=>cases e
theorem ar1{α:Type}{P:List α->Prop}(h:∀a0,P [a0]):∀us:List α,us.length=1->P us:=fun us e=>by
 cases us with
 |nil=>cases e
 |cons a0 r=>exact ar0 (P:=fun r=>P (a0::r)) (h a0) r (MQ e)
theorem ar2{α:Type}{P:List α->Prop}(h:∀a0 a1,P [a0,a1]):∀us:List α,us.length=2->P us:=fun us e=>by
 cases us with
 |nil=>cases e
 |cons a0 r=>exact ar1 (P:=fun r=>P (a0::r)) (h a0) r (MQ e)
theorem ar3{α:Type}{P:List α->Prop}(h:∀a0 a1 a2,P [a0,a1,a2]):∀us:List α,us.length=3->P us:=fun us e=>by
 cases us with
 |nil=>cases e
 |cons a0 r=>exact ar2 (P:=fun r=>P (a0::r)) (h a0) r (MQ e)
theorem ar4{α:Type}{P:List α->Prop}(h:∀a0 a1 a2 a3,P [a0,a1,a2,a3]):∀us:List α,us.length=4->P us:=fun us e=>by
 cases us with
 |nil=>cases e
 |cons a0 r=>exact ar3 (P:=fun r=>P (a0::r)) (h a0) r (MQ e)
theorem ar5{α:Type}{P:List α->Prop}(h:∀a0 a1 a2 a3 a4,P [a0,a1,a2,a3,a4]):∀us:List α,us.length=5->P us:=fun us e=>by
 cases us with
 |nil=>cases e
 |cons a0 r=>exact ar4 (P:=fun r=>P (a0::r)) (h a0) r (MQ e)
theorem walk{l:Uk}{q:Qv}{loose:List Str}{XP:(Str->Option Qf)->Qz->Prop}{YP:Qy->Qz->Prop}{d:DefRec}{K:T8->Qg}(hn:l.most=some 63)(hdf:d.params.defaults=[])
  (hY:∀(w:Qy) (h:Qz),YP w h->(K w.params).In h)
  (F:∀(w:Qy) (mg:Str->Option Qf) (fa:Qh) (h:Qz),(K w.params).In h->h.Ns Q8 mg->mg d.name=some (.ref fa)->
   ∃fd:QF,(∀(s:Qi) (u:Qf),Uy s fd ⟨[u],[]⟩ [("_law_script",u)])/\∀base:Qz,(K w.params).In base->base.Ns Q8 mg->FnOk l.prog w (K w.params) mg base CX0 7 fa fd ["_law_script"] (yk (K w.params))) :
  Wu q loose XP YP l.row.toRowW d [] (fun f vs=>VN f vs):=
 L2.EC (n:=63) (k:=7) (x:="_law_script") (CX:=fun _=>CX0) (sp:=fun w=>yk (K w.params)) hn (by decide) hdf ⟨rfl,by decide,by decide,rfl⟩ hY F (fun _ _ a ns hl _ hS=>⟨a,ns,rfl,hS,hl,fun _=>rfl⟩) fun _ _ _ _ _ z=>z
noncomputable def kd(P:T8) (x:Str) (t:Tok) (v:Qf):R_:=⟨PyData.keyHash P x,.str x t,v⟩
noncomputable def kf(n:Str) (s:QR) (m:Qf) (c:Qh):Obj:=⟨.type "function",none,.func (RN n n (eZ s) (dA s) (ax s) .none .none .none m none (.ref c) .none),#[]⟩
noncomputable def KK(P:T8):Qg:=[(3,⟨.type "dict",none,.dict #[kd P "__name__" 165 (.str "law_millpath_k55_areas_of_programs" 357),kd P "__doc__" 166 (.none),kd P "__package__" 167 (.none),kd P "__loader__" 168 (.builtin "__main__.__loader__#opaque"),kd P "__spec__" 169 (.none),kd P "__annotations__" 170 (.ref 6),kd P "__builtins__" 171 (.ref 4),kd P "__file__" 173 (.str "/claim/cut.py" 172),kd P "__cached__" 174 (.none),kd P "STEPS" 211 (.ref 23),kd P "stepped" 221 (.ref 30),kd P "straight" 231 (.ref 37),kd P "octo_of" 239 (.ref 42),kd P "added" 245 (.ref 47),kd P "moved" 253 (.ref 54),kd P "mark_of" 265 (.ref 61),kd P "swept" 274 (.ref 68),kd P "area_of" 282 (.ref 73),kd P "strip_sides" 288 (.ref 78),kd P "bounds_at" 294 (.ref 83),kd P "length_along" 308 (.ref 90),kd P "cut_octos" 324 (.ref 97),kd P "cut_area" 333 (.ref 104),kd P "ways_at" 346 (.ref 111),kd P "goes_on" 356 (.ref 118),kd P "_law_begin" 366 (.ref 125),kd P "_law_take" 379 (.ref 132),kd P "_law_tool" 389 (.ref 139),kd P "_law_mark" 401 (.ref 146),kd P "_law_in_mark" 407 (.ref 151),kd P "_law_same" 413 (.ref 156),kd P "_law_tools" 419 (.ref 161),kd P "_law_places" 435 (.ref 168),kd P "_law_program" 451 (.ref 175),kd P "_law_cut" 457 (.ref 180),kd P "law" 463 (.ref 185)] 36,#[]⟩),(30,kf "stepped" nM (.str "millpath.corners" 187) 29),(29,⟨.type "code",none,.fields #[.str "stepped" 212,.str "stepped" 213,.str "/claim/cut.py" 214,.int (3) 0,.int (3) 0,.int (0) 0,.int (0) 0,.int (3) 0,.ref 24,.bool true,.int (181) 0,.ref 25,.none,.ref 26,.ref 27,.ref 28,.int (219) 0,.int (3) 0,.str "/claim/cut.py" 220],#[]⟩),(37,kf "straight" jV (.str "millpath.corners" 187) 36),(36,⟨.type "code",none,.fields #[.str "straight" 222,.str "straight" 223,.str "/claim/cut.py" 224,.int (6) 0,.int (2) 0,.int (0) 0,.int (0) 0,.int (3) 0,.ref 31,.bool true,.int (181) 0,.ref 32,.none,.ref 33,.ref 34,.ref 35,.int (229) 0,.int (6) 0,.str "/claim/cut.py" 230],#[]⟩),(42,kf "octo_of" ny (.str "millpath.octos" 232) 41),(41,⟨.type "code",none,.fields #[.str "octo_of" 234,.str "octo_of" 235,.str "/claim/cut.py" 236,.int (15) 0,.int (1) 0,.int (0) 0,.int (0) 0,.int (3) 0,.ref 38,.bool true,.int (181) 0,.ref 39,.none,.none,.none,.ref 40,.int (237) 0,.int (15) 0,.str "/claim/cut.py" 238],#[]⟩),(47,kf "added" uC (.str "millpath.octos" 232) 46),(46,⟨.type "code",none,.fields #[.str "added" 240,.str "added" 241,.str "/claim/cut.py" 242,.int (21) 0,.int (2) 0,.int (0) 0,.int (0) 0,.int (3) 0,.ref 43,.bool true,.int (181) 0,.ref 44,.none,.none,.none,.ref 45,.int (243) 0,.int (21) 0,.str "/claim/cut.py" 244],#[]⟩),(54,kf "moved" uH (.str "millpath.octos" 232) 53),(53,⟨.type "code",none,.fields #[.str "moved" 246,.str "moved" 247,.str "/claim/cut.py" 248,.int (23) 0,.int (2) 0,.int (0) 0,.int (0) 0,.int (3) 0,.ref 48,.bool true,.int (181) 0,.ref 49,.none,.ref 50,.ref 51,.ref 52,.int (251) 0,.int (23) 0,.str "/claim/cut.py" 252],#[]⟩),(61,kf "mark_of" nz (.str "millpath.tools" 254) 60),(60,⟨.type "code",none,.fields #[.str "mark_of" 256,.str "mark_of" 257,.str "/claim/cut.py" 258,.int (26) 0,.int (2) 0,.int (0) 0,.int (0) 0,.int (3) 0,.ref 55,.bool true,.int (181) 0,.ref 56,.none,.ref 57,.ref 58,.ref 59,.int (263) 0,.int (26) 0,.str "/claim/cut.py" 264],#[]⟩),(68,kf "swept" uG (.str "millpath.tools" 254) 67),(67,⟨.type "code",none,.fields #[.str "swept" 266,.str "swept" 267,.str "/claim/cut.py" 268,.int (30) 0,.int (3) 0,.int (0) 0,.int (0) 0,.int (3) 0,.ref 62,.bool true,.int (181) 0,.ref 63,.none,.ref 64,.ref 65,.ref 66,.int (272) 0,.int (30) 0,.str "/claim/cut.py" 273],#[]⟩),(73,kf "area_of" nh (.str "millpath.unions" 275) 72),(72,⟨.type "code",none,.fields #[.str "area_of" 277,.str "area_of" 278,.str "/claim/cut.py" 279,.int (33) 0,.int (1) 0,.int (0) 0,.int (0) 0,.int (3) 0,.ref 69,.bool true,.int (181) 0,.ref 70,.none,.none,.none,.ref 71,.int (280) 0,.int (33) 0,.str "/claim/cut.py" 281],#[]⟩),(78,kf "strip_sides" fj (.str "millpath.unions" 275) 77),(77,⟨.type "code",none,.fields #[.str "strip_sides" 283,.str "strip_sides" 284,.str "/claim/cut.py" 285,.int (44) 0,.int (1) 0,.int (0) 0,.int (0) 0,.int (3) 0,.ref 74,.bool true,.int (181) 0,.ref 75,.none,.none,.none,.ref 76,.int (286) 0,.int (44) 0,.str "/claim/cut.py" 287],#[]⟩),(83,kf "bounds_at" jo (.str "millpath.unions" 275) 82),(82,⟨.type "code",none,.fields #[.str "bounds_at" 289,.str "bounds_at" 290,.str "/claim/cut.py" 291,.int (61) 0,.int (2) 0,.int (0) 0,.int (0) 0,.int (3) 0,.ref 79,.bool true,.int (181) 0,.ref 80,.none,.none,.none,.ref 81,.int (292) 0,.int (61) 0,.str "/claim/cut.py" 293],#[]⟩),(90,kf "length_along" eD (.str "millpath.unions" 275) 89),(89,⟨.type "code",none,.fields #[.str "length_along" 295,.str "length_along" 296,.str "/claim/cut.py" 297,.int (63) 0,.int (2) 0,.int (0) 0,.int (0) 0,.int (3) 0,.ref 84,.bool true,.int (181) 0,.ref 85,.none,.ref 86,.ref 87,.ref 88,.int (306) 0,.int (63) 0,.str "/claim/cut.py" 307],#[]⟩),(97,kf "cut_octos" ja (.str "millpath.areas" 309) 96),(96,⟨.type "code",none,.fields #[.str "cut_octos" 311,.str "cut_octos" 312,.str "/claim/cut.py" 313,.int (78) 0,.int (3) 0,.int (0) 0,.int (0) 0,.int (3) 0,.ref 91,.bool true,.int (181) 0,.ref 92,.none,.ref 93,.ref 94,.ref 95,.int (322) 0,.int (78) 0,.str "/claim/cut.py" 323],#[]⟩),(104,kf "cut_area" jY (.str "millpath.areas" 309) 103),(103,⟨.type "code",none,.fields #[.str "cut_area" 325,.str "cut_area" 326,.str "/claim/cut.py" 327,.int (88) 0,.int (3) 0,.int (0) 0,.int (0) 0,.int (3) 0,.ref 98,.bool true,.int (181) 0,.ref 99,.none,.ref 100,.ref 101,.ref 102,.int (331) 0,.int (88) 0,.str "/claim/cut.py" 332],#[]⟩),(111,kf "ways_at" o6 (.str "millpath.areas" 309) 110),(110,⟨.type "code",none,.fields #[.str "ways_at" 334,.str "ways_at" 335,.str "/claim/cut.py" 336,.int (90) 0,.int (2) 0,.int (0) 0,.int (0) 0,.int (3) 0,.ref 105,.bool true,.int (181) 0,.ref 106,.none,.ref 107,.ref 108,.ref 109,.int (344) 0,.int (90) 0,.str "/claim/cut.py" 345],#[]⟩),(118,kf "goes_on" ni (.str "millpath.areas" 309) 117),(117,⟨.type "code",none,.fields #[.str "goes_on" 347,.str "goes_on" 348,.str "/claim/cut.py" 349,.int (102) 0,.int (2) 0,.int (0) 0,.int (0) 0,.int (3) 0,.ref 112,.bool true,.int (181) 0,.ref 113,.none,.ref 114,.ref 115,.ref 116,.int (354) 0,.int (102) 0,.str "/claim/cut.py" 355],#[]⟩),(125,kf "_law_begin" oZ (.str "law_millpath_k55_areas_of_programs" 357) 124),(124,⟨.type "code",none,.fields #[.str "_law_begin" 359,.str "_law_begin" 360,.str "/claim/cut.py" 361,.int (111) 0,.int (1) 0,.int (0) 0,.int (0) 0,.int (3) 0,.ref 119,.bool true,.int (181) 0,.ref 120,.none,.ref 121,.ref 122,.ref 123,.int (364) 0,.int (111) 0,.str "/claim/cut.py" 365],#[]⟩),(132,kf "_law_take" uN (.str "law_millpath_k55_areas_of_programs" 357) 131),(131,⟨.type "code",none,.fields #[.str "_law_take" 367,.str "_law_take" 368,.str "/claim/cut.py" 369,.int (116) 0,.int (2) 0,.int (0) 0,.int (0) 0,.int (3) 0,.ref 126,.bool true,.int (181) 0,.ref 127,.none,.ref 128,.ref 129,.ref 130,.int (377) 0,.int (116) 0,.str "/claim/cut.py" 378],#[]⟩),(139,kf "_law_tool" wX (.str "law_millpath_k55_areas_of_programs" 357) 138),(138,⟨.type "code",none,.fields #[.str "_law_tool" 380,.str "_law_tool" 381,.str "/claim/cut.py" 382,.int (127) 0,.int (2) 0,.int (0) 0,.int (0) 0,.int (3) 0,.ref 133,.bool true,.int (181) 0,.ref 134,.none,.ref 135,.ref 136,.ref 137,.int (387) 0,.int (127) 0,.str "/claim/cut.py" 388],#[]⟩),(146,kf "_law_mark" wx (.str "law_millpath_k55_areas_of_programs" 357) 145),(145,⟨.type "code",none,.fields #[.str "_law_mark" 390,.str "_law_mark" 391,.str "/claim/cut.py" 392,.int (131) 0,.int (2) 0,.int (0) 0,.int (0) 0,.int (3) 0,.ref 140,.bool true,.int (181) 0,.ref 141,.none,.ref 142,.ref 143,.ref 144,.int (399) 0,.int (131) 0,.str "/claim/cut.py" 400],#[]⟩),(151,kf "_law_in_mark" nQ (.str "law_millpath_k55_areas_of_programs" 357) 150),(150,⟨.type "code",none,.fields #[.str "_law_in_mark" 402,.str "_law_in_mark" 403,.str "/claim/cut.py" 404,.int (139) 0,.int (4) 0,.int (0) 0,.int (0) 0,.int (3) 0,.ref 147,.bool true,.int (181) 0,.ref 148,.none,.none,.none,.ref 149,.int (405) 0,.int (139) 0,.str "/claim/cut.py" 406],#[]⟩),(156,kf "_law_same" s_same (.str "law_millpath_k55_areas_of_programs" 357) 155),(155,⟨.type "code",none,.fields #[.str "_law_same" 408,.str "_law_same" 409,.str "/claim/cut.py" 410,.int (143) 0,.int (2) 0,.int (0) 0,.int (0) 0,.int (3) 0,.ref 152,.bool true,.int (181) 0,.ref 153,.none,.none,.none,.ref 154,.int (411) 0,.int (143) 0,.str "/claim/cut.py" 412],#[]⟩),(161,kf "_law_tools" uI (.str "law_millpath_k55_areas_of_programs" 357) 160),(160,⟨.type "code",none,.fields #[.str "_law_tools" 414,.str "_law_tools" 415,.str "/claim/cut.py" 416,.int (159) 0,.int (2) 0,.int (0) 0,.int (0) 0,.int (3) 0,.ref 157,.bool true,.int (181) 0,.ref 158,.none,.none,.none,.ref 159,.int (417) 0,.int (159) 0,.str "/claim/cut.py" 418],#[]⟩),(168,kf "_law_places" pI (.str "law_millpath_k55_areas_of_programs" 357) 167),(167,⟨.type "code",none,.fields #[.str "_law_places" 420,.str "_law_places" 421,.str "/claim/cut.py" 422,.int (161) 0,.int (3) 0,.int (0) 0,.int (0) 0,.int (3) 0,.ref 162,.bool true,.int (181) 0,.ref 163,.none,.ref 164,.ref 165,.ref 166,.int (433) 0,.int (161) 0,.str "/claim/cut.py" 434],#[]⟩),(175,kf "_law_program" nG (.str "law_millpath_k55_areas_of_programs" 357) 174),(174,⟨.type "code",none,.fields #[.str "_law_program" 436,.str "_law_program" 437,.str "/claim/cut.py" 438,.int (178) 0,.int (5) 0,.int (0) 0,.int (0) 0,.int (3) 0,.ref 169,.bool true,.int (181) 0,.ref 170,.none,.ref 171,.ref 172,.ref 173,.int (449) 0,.int (178) 0,.str "/claim/cut.py" 450],#[]⟩),(180,kf "_law_cut" B0 (.str "law_millpath_k55_areas_of_programs" 357) 179),(179,⟨.type "code",none,.fields #[.str "_law_cut" 452,.str "_law_cut" 453,.str "/claim/cut.py" 454,.int (194) 0,.int (3) 0,.int (0) 0,.int (0) 0,.int (3) 0,.ref 176,.bool true,.int (181) 0,.ref 177,.none,.none,.none,.ref 178,.int (455) 0,.int (194) 0,.str "/claim/cut.py" 456],#[]⟩),(185,kf "law" jw (.str "law_millpath_k55_areas_of_programs" 357) 184),(184,⟨.type "code",none,.fields #[.str "law" 458,.str "law" 459,.str "/claim/cut.py" 460,.int (210) 0,.int (1) 0,.int (0) 0,.int (0) 0,.int (3) 0,.ref 181,.bool true,.int (181) 0,.ref 182,.none,.none,.none,.ref 183,.int (461) 0,.int (210) 0,.str "/claim/cut.py" 462],#[]⟩),(23,⟨.type "tuple",none,.seq #[.ref 15,.ref 16,.ref 17,.ref 18,.ref 19,.ref 20,.ref 21,.ref 22] 0,#[]⟩),(15,⟨.type "tuple",none,.seq #[.int (1) 189,.int (0) 190] 0,#[]⟩),(16,⟨.type "tuple",none,.seq #[.int (1) 191,.int (1) 192] 0,#[]⟩),(17,⟨.type "tuple",none,.seq #[.int (0) 193,.int (1) 194] 0,#[]⟩),(18,⟨.type "tuple",none,.seq #[.int (-1) 196,.int (1) 197] 0,#[]⟩),(19,⟨.type "tuple",none,.seq #[.int (-1) 199,.int (0) 200] 0,#[]⟩),(20,⟨.type "tuple",none,.seq #[.int (-1) 202,.int (-1) 204] 0,#[]⟩),(21,⟨.type "tuple",none,.seq #[.int (0) 205,.int (-1) 207] 0,#[]⟩),(22,⟨.type "tuple",none,.seq #[.int (1) 208,.int (-1) 210] 0,#[]⟩)]
noncomputable def kas:List Qh:=[3,30,29,37,36,42,41,47,46,54,53,61,60,68,67,73,72,78,77,83,82,90,89,97,96,104,103,111,110,118,117,125,124,132,131,139,138,146,145,151,150,156,155,161,160,168,167,175,174,180,179,185,184,23,15,16,17,18,19,20,21,22]
theorem x8(P:T8):kas=(KK P).map (·.1):=by kernel_rfl
noncomputable def VW:Qv:=PySem.W.view PySem.Challenge.pw_millpath_k55_areas_of_programs [1,2,3,5,6,7,9,10,12,13,14,15,17,18,19,20,22,23,24,25,26,27,28,29,30,31,32]
noncomputable def HQ(s:QR):Pos:=match s with
 | .FunctionDef _ _ _ _ _ _ _ _ _ p=>p
 | _=>⟨0,0,0,0⟩
theorem dfn{h:Qz}{mg:Str->Option Qf}{P:T8}{x:Str}{st:QR}{ps:List Str}(X:(KK P).In h)(G:h.Ns Q8 mg)(f c:Qh)(m:Qf)(l:(KK P).lookup f=some (kf x st m c):=by kernel_rfl)(a:Ud (KK P) Q8 x=some (some (.ref f)):=by kernel_rfl)(cd:Tp (KK P) (.ref c) x=true:=by kernel_rfl)(kp:SN (KK P) (.ref f)=true:=by kernel_rfl)
  (hb:∀(kV doc pm:Qf) (an:Option Qh) (cdv ct:Qf) (us:List Qf),us.length=ps.length->WJ (RN x x (eZ st) (dA st) (ax st) .none kV doc pm an cdv ct) ⟨us,[]⟩=pure (ps.zip us):=by intro _ _ _ _ _ _ us;revert us;first|(apply ar1;intros;rfl)|(apply ar2;intros;rfl)|(apply ar3;intros;rfl)|(apply ar4;intros;rfl)|(apply ar5;intros;rfl)):Dfn (KK P) mg x st ps:=⟨f,_,xh (st:=st) l cd kp,UW X G a,(xh (st:=st) l cd kp).binds hb⟩
noncomputable def mo0:Qf:=.str "millpath.corners" 187
noncomputable def mo1:Qf:=.str "millpath.octos" 232
noncomputable def mo2:Qf:=.str "millpath.tools" 254
noncomputable def mo3:Qf:=.str "millpath.unions" 275
noncomputable def mo4:Qf:=.str "millpath.areas" 309
noncomputable def mo5:Qf:=.str "law_millpath_k55_areas_of_programs" 357
set_option maxHeartbeats 0 in
theorem all_mk{l:Uk}{w:Qy}{h:Qz}{mg:Str->Option Qf}{fa:Qh}(X:(KK w.params).In h)(G:h.Ns Q8 mg)(hfa:mg "law"=some (.ref fa)):∃fd:QF,(∀(s:Qi) (v:Qf),Uy s fd ⟨[v],[]⟩ [("_law_script",v)])/\∀base:Qz,(KK w.params).In base->base.Ns Q8 mg->FnOk l.prog w (KK w.params) mg base CX0 7 fa fd ["_law_script"] (yk (KK w.params)):=by
 have e:=hfa.symm.trans (UW X G (show Ud (KK w.params) Q8 "law"=some (some (.ref 185)) by kernel_rfl));cases e;have z:∀{x:Str},Ud (KK w.params) Q8 x=some none->mg x=none:=fun h=>PySem.W.mg_none_of X G h;have T:Txt mg:=⟨z (by kernel_rfl),z (by kernel_rfl),z (by kernel_rfl),z (by kernel_rfl),z (by kernel_rfl),z (by kernel_rfl),z (by kernel_rfl),z (by kernel_rfl),z (by kernel_rfl),z (by kernel_rfl),z (by kernel_rfl),z (by kernel_rfl),z (by kernel_rfl),z (by kernel_rfl),z (by kernel_rfl),z (by kernel_rfl),z (by kernel_rfl),z (by kernel_rfl),z (by kernel_rfl),z (by kernel_rfl),z (by kernel_rfl)⟩;have F:=xh (st:=jw) (K:=KK w.params) (x:="law") (qual:="law") (f:=185) (oc:=.type "function") (od:=none) (an:=none) (osl:=#[]) (kV:=.none) (doc:=.none) (pm:=mo5) (cdv:=.ref 184) (ct:=.none) (by kernel_rfl) (by kernel_rfl) (by kernel_rfl);refine⟨RN "law" "law" (eZ jw) (dA jw) (ax jw) .none .none .none mo5 none (.ref 184) .none,fun s v=>.of_eq rfl,fun base _ _=>?_⟩;have cl1:(KK w.params).lookup 23=some ⟨.type "tuple",none,.seq #[.ref 15,.ref 16,.ref 17,.ref 18,.ref 19,.ref 20,.ref 21,.ref 22] 0,#[]⟩:=by kernel_rfl
 have cl2:(KK w.params).lookup 15=some ⟨.type "tuple",none,.seq #[.int (1) 189,.int (0) 190] 0,#[]⟩:=by kernel_rfl
 have cl3:(KK w.params).lookup 16=some ⟨.type "tuple",none,.seq #[.int (1) 191,.int (1) 192] 0,#[]⟩:=by kernel_rfl
 have cl4:(KK w.params).lookup 17=some ⟨.type "tuple",none,.seq #[.int (0) 193,.int (1) 194] 0,#[]⟩:=by kernel_rfl
 have cl5:(KK w.params).lookup 18=some ⟨.type "tuple",none,.seq #[.int (-1) 196,.int (1) 197] 0,#[]⟩:=by kernel_rfl
 have cl6:(KK w.params).lookup 19=some ⟨.type "tuple",none,.seq #[.int (-1) 199,.int (0) 200] 0,#[]⟩:=by kernel_rfl
 have cl7:(KK w.params).lookup 20=some ⟨.type "tuple",none,.seq #[.int (-1) 202,.int (-1) 204] 0,#[]⟩:=by kernel_rfl
 have cl8:(KK w.params).lookup 21=some ⟨.type "tuple",none,.seq #[.int (0) 205,.int (-1) 207] 0,#[]⟩:=by kernel_rfl
 have cl9:(KK w.params).lookup 22=some ⟨.type "tuple",none,.seq #[.int (1) 208,.int (-1) 210] 0,#[]⟩:=by kernel_rfl
 have gt_STEPS:Ud (KK w.params) Q8 "STEPS"=some (some (.ref 23)):=by kernel_rfl
 have C_STEPS:Glb (KK w.params) mg "STEPS" tD:=⟨.ref 23,_,UW X G gt_STEPS,rfl,fun _ _=>(.cst (.inr ⟨_,_,0,cl1,rfl,rfl,(by show 8<=sizeLine;decide),(.cons (show RelV (.ref 15) (.ref 15)from rfl) (.cons (show RelV (.ref 16) (.ref 16)from rfl) (.cons (show RelV (.ref 17) (.ref 17)from rfl) (.cons (show RelV (.ref 18) (.ref 18)from rfl) (.cons (show RelV (.ref 19) (.ref 19)from rfl) (.cons (show RelV (.ref 20) (.ref 20)from rfl) (.cons (show RelV (.ref 21) (.ref 21)from rfl) (.cons (show RelV (.ref 22) (.ref 22)from rfl) .nil))))))))⟩) (.cons rfl (.cst (.inr ⟨_,_,0,cl2,rfl,rfl,(by show 2<=sizeLine;decide),(.cons (show RelV (.int (1)) (.int (1) 189)from⟨_,rfl⟩) (.cons (show RelV (.int (0)) (.int (0) 190)from⟨_,rfl⟩) .nil))⟩) (.cons rfl .int (.cons rfl .int .nil))) (.cons rfl (.cst (.inr ⟨_,_,0,cl3,rfl,rfl,(by show 2<=sizeLine;decide),(.cons (show RelV (.int (1)) (.int (1) 191)from⟨_,rfl⟩) (.cons (show RelV (.int (1)) (.int (1) 192)from⟨_,rfl⟩) .nil))⟩) (.cons rfl .int (.cons rfl .int .nil))) (.cons rfl (.cst (.inr ⟨_,_,0,cl4,rfl,rfl,(by show 2<=sizeLine;decide),(.cons (show RelV (.int (0)) (.int (0) 193)from⟨_,rfl⟩) (.cons (show RelV (.int (1)) (.int (1) 194)from⟨_,rfl⟩) .nil))⟩) (.cons rfl .int (.cons rfl .int .nil))) (.cons rfl (.cst (.inr ⟨_,_,0,cl5,rfl,rfl,(by show 2<=sizeLine;decide),(.cons (show RelV (.int (-1)) (.int (-1) 196)from⟨_,rfl⟩) (.cons (show RelV (.int (1)) (.int (1) 197)from⟨_,rfl⟩) .nil))⟩) (.cons rfl .int (.cons rfl .int .nil))) (.cons rfl (.cst (.inr ⟨_,_,0,cl6,rfl,rfl,(by show 2<=sizeLine;decide),(.cons (show RelV (.int (-1)) (.int (-1) 199)from⟨_,rfl⟩) (.cons (show RelV (.int (0)) (.int (0) 200)from⟨_,rfl⟩) .nil))⟩) (.cons rfl .int (.cons rfl .int .nil))) (.cons rfl (.cst (.inr ⟨_,_,0,cl7,rfl,rfl,(by show 2<=sizeLine;decide),(.cons (show RelV (.int (-1)) (.int (-1) 202)from⟨_,rfl⟩) (.cons (show RelV (.int (-1)) (.int (-1) 204)from⟨_,rfl⟩) .nil))⟩) (.cons rfl .int (.cons rfl .int .nil))) (.cons rfl (.cst (.inr ⟨_,_,0,cl8,rfl,rfl,(by show 2<=sizeLine;decide),(.cons (show RelV (.int (0)) (.int (0) 205)from⟨_,rfl⟩) (.cons (show RelV (.int (-1)) (.int (-1) 207)from⟨_,rfl⟩) .nil))⟩) (.cons rfl .int (.cons rfl .int .nil))) (.cons rfl (.cst (.inr ⟨_,_,0,cl9,rfl,rfl,(by show 2<=sizeLine;decide),(.cons (show RelV (.int (1)) (.int (1) 208)from⟨_,rfl⟩) (.cons (show RelV (.int (-1)) (.int (-1) 210)from⟨_,rfl⟩) .nil))⟩) (.cons rfl .int (.cons rfl .int .nil))) .nil)))))))))⟩;have G_take:Cal l.prog w (KK w.params) mg base 1 "_law_take" ["_law_state","_law_many"] (aS (KK w.params) 2 lB):=D9 (dfn X G 132 131 mo5) T;have G_begin:Cal l.prog w (KK w.params) mg base 1 "_law_begin" ["_law_script"] (aS (KK w.params) 1 (tT (KK w.params))):=zV (dfn X G 125 124 mo5) T;have G_bounds_at:=(dfn X G 83 82 mo3).cal (base:=base) (P:=l.prog) (w:=w) fun _ _ F=>tB F T;have G_strip_sides:=(dfn X G 78 77 mo3).cal (base:=base) (P:=l.prog) (w:=w) fun _ _ F=>qa F T G_bounds_at;have G_length_along:=(dfn X G 90 89 mo3).cal (base:=base) (P:=l.prog) (w:=w) fun _ _ F=>oN F T;have G_area_of:=(dfn X G 73 72 mo3).cal (base:=base) (P:=l.prog) (w:=w) fun _ _ F=>xf F T G_strip_sides G_length_along;have G_stepped:=(dfn X G 30 29 mo0).cal (base:=base) (P:=l.prog) (w:=w) fun _ _ F=>xi F T C_STEPS;have G_straight:=(dfn X G 37 36 mo0).cal (base:=base) (P:=l.prog) (w:=w) fun _ _ F=>uV F T C_STEPS G_stepped;have G_octo_of:=(dfn X G 42 41 mo1).cal (base:=base) (P:=l.prog) (w:=w) fun _ _ F=>wH F T;have G_added:=(dfn X G 47 46 mo1).cal (base:=base) (P:=l.prog) (w:=w) fun _ _ F=>Di F T;have G_moved:=(dfn X G 54 53 mo1).cal (base:=base) (P:=l.prog) (w:=w) fun _ _ F=>Dh F T G_octo_of G_added;have G_mark_of:=(dfn X G 61 60 mo2).cal (base:=base) (P:=l.prog) (w:=w) fun _ _ F=>wY F T G_moved;have G_swept:=(dfn X G 68 67 mo2).cal (base:=base) (P:=l.prog) (w:=w) fun _ _ F=>B7 F T G_octo_of G_added G_mark_of;have G_goes_on:=(dfn X G 118 117 mo4).cal (base:=base) (P:=l.prog) (w:=w) fun _ _ F=>xW F T G_straight;have G_ways_at:=(dfn X G 111 110 mo4).cal (base:=base) (P:=l.prog) (w:=w) fun _ _ F=>wU F T G_goes_on;have G_cut_octos:=(dfn X G 97 96 mo4).cal (base:=base) (P:=l.prog) (w:=w) fun _ _ F=>uh F T G_swept G_ways_at;have G_cut_area:=(dfn X G 104 103 mo4).cal (base:=base) (P:=l.prog) (w:=w) fun _ _ F=>vz F T G_area_of G_cut_octos;have G_in_mark:=(dfn X G 151 150 mo5).cal (base:=base) (P:=l.prog) (w:=w) fun _ _ F=>xI F T;have G_mark:=(dfn X G 146 145 mo5).cal (base:=base) (P:=l.prog) (w:=w) fun _ _ F=>EK F T G_in_mark;have G_tool:=(dfn X G 139 138 mo5).cal (base:=base) (P:=l.prog) (w:=w) fun _ _ F=>DH F T G_take;have G_tools:=(dfn X G 161 160 mo5).cal (base:=base) (P:=l.prog) (w:=w) fun _ _ F=>BQ F T G_take G_tool;have G_places:=(dfn X G 168 167 mo5).cal (base:=base) (P:=l.prog) (w:=w) fun _ _ F=>Ak F T G_take;have G_cut:=(dfn X G 180 179 mo5).cal (base:=base) (P:=l.prog) (w:=w) fun _ _ F=>GV F T G_mark;have G_program:=(dfn X G 175 174 mo5).cal (base:=base) (P:=l.prog) (w:=w) fun _ _ F=>xF F T G_take G_places;have G_same:=(dfn X G 156 155 mo5).cal (base:=base) (P:=l.prog) (w:=w) fun _ _ F=>DO F T;exact Ho (Hv F T G_cut_area G_begin G_take G_same G_tools G_program G_cut)
end Mp
open PySem PySem.W PyProof.Rows
set_option maxRecDepth 100000 in
set_option maxHeartbeats 0 in
theorem Mp.IH:PySem.Challenge.rw_millpath_k55_areas_of_programs.wellSaid=true:=by kernel_rfl
set_option maxRecDepth 100000 in
theorem Mp.left:PySem.W.LeftO PySem.Challenge.rw_millpath_k55_areas_of_programs.row.prog Mp.VW [] (fun s=>PySem.W.xlAt Mp.VW [] s&&PySem.W.recOk (PySem.Challenge.rw_millpath_k55_areas_of_programs.row.toRowW.records) s) (XR (UX Mp.KK Mp.kas Mp.x8)) (XS (UX Mp.KK Mp.kas Mp.x8)) 6000:=fun w=>by kernel_rfl
set_option maxRecDepth 100000 in
set_option maxHeartbeats 0 in
theorem PySem.Challenge.cw_millpath_k55_areas_of_programs_holds : PySem.Challenge.rw_millpath_k55_areas_of_programs.Holds := by
 refine PySem.W.holds_law Mp.IH fun IH=>?_;refine PySem.W.holds_open (r:=PySem.Challenge.rw_millpath_k55_areas_of_programs.row) (XP:=PySem.W.XL Mp.VW []) (YP:=XM (UX Mp.KK Mp.kas Mp.x8)) (d:=⟨"law",L2.eZ Mp.jw,L2.dA Mp.jw,L2.ax Mp.jw,Mp.HQ Mp.jw⟩) (kwd:=[]) Mp.left (XY _) (XE _) (fun s e=>PySem.W.xl_of s (OY.mp e).1) XT (by kernel_rfl) (by kernel_rfl) (by kernel_rfl) (fun s e=>PySem.W.recFacts_of (OY.mp e).2) (by kernel_rfl) IH (by kernel_rfl) ⟨rfl,rfl,rfl,rfl,rfl,by decide +kernel⟩ ?hw ?hc
 case hw=>w_witness2
 case hc=>
  refine Mp.walk (l:=PySem.Challenge.rw_millpath_k55_areas_of_programs) rfl (by kernel_rfl) (fun w h Y=>PySem.W.kIn_of Y) ?F
  case F=>
  intro w mg fa h KX G hmg;exact Mp.all_mk KX G hmg
