import PyProof.Rows.All
import Wide.All
import OpenK.AllK
import Wide.FinOn
import Lean
import PyProof.EqAt
import PyProof.EqKinds
import PyProof.TupleCall
import PyProof.ZipIter
import PyProof.NeKinds
import PyProof.SeqI3
import PyProof.MaxThree
import PyProof.CompUse
import PyProof.EnumMake
import PyProof.Draws
import PyProof.EnumFor
import PyProof.Rows.EnumRows
import PyProof.DictFindH
import PyProof.DictRoadsH
import PyProof.TupleKey
import PyProof.DictWalks
import PyProof.AttrMissHeap
import KE.KDictOf
import KE.KDictList
import PyProof.Rows.SortRuns
import KE.KSortTup
import PyProof.ListRange
import KE.KUnpack
import PySem.Challenge.RW_millpath_k21_why_left
set_option Elab.async false
set_option linter.all false
set_option maxRecDepth 100000
set_option genSizeOf false
noncomputable section
open List renaming length_map->a_,getElem?_eq_getElem->b_,map_cons->d_,getElem?_eq_some_iff->f_,perm_middle->gV,length_append->h_,append_assoc->i_,length_cons->j_,mem_cons_of_mem->l_,size_toArray->m_,perm_append_comm_assoc->o_,range->p_,mem_append_right->q_,map_append->r_,getElem?_map->s_,mem_cons->t_,mem_cons_self->v_,Perm.trans->w_,mem_map->y_,length_take->A_,pairwise_append->B',mem_singleton->C_,length_drop->C',mem_append->D_,take_append_drop->E_,take_length->F',map_map->H_,mem_map_of_mem->I_,mem_append_left->JJ,nodup_cons->JK,length_set->JL,Perm.append_left->JM,append_nil->JO,find?_cons->JP,cons_append->JR,map->JS,Pairwise.sublist->JT,getD_eq_getElem?_getD->JU,map_congr_left->JV,pairwise_map->JW,perm_append_comm->JX,mem_of_getElem?->JY,cons.inj->JZ,replicate->J_,take_of_length_le->J',range_succ->Ka,eq_nil_of_length_eq_zero->Kb,getElem_mem->Kc,mem_of_mem_take->Ke,length_range->Kf,cons.injEq->Kg,drop_of_length_le->Kh,getElem?_append_right->Ki,getElem?_eq_none->Kj,Pairwise.imp_of_mem->Kl,getElem?_cons_succ->Kn,length_reverse->Ko,map_nil->Ks,zip_cons_cons->Kt,pairwise_cons->Kv,any_cons->Ky,take_add_one->KA,getElem?_append_left->KC,mem_iff_getElem->KD,mem_of_mem_drop->KG,extract_eq_drop_take->KH,drop_eq_getElem_cons->KI,findIdx?_eq_some_iff_getElem->KJ,mem_range->KL,drop_zero->KN,Perm.swap->KO,filterMap_cons_some->KP,filterMap_cons_none->KQ,drop_length->KR,getElem?_range->KS,getElem?_cons_zero->KU,mem_filter->KW,getElem?_drop->KY,getElem?_take->KZ,take_sublist->K6,reverse_cons->K8,drop_sublist->K_,nodup_append->La,all_map->Lc,length_filter_le->Ld,mem_iff_getElem?->Le,eraseIdx_sublist->Lf,lookup_cons->Lh,all_eq_true->Li,any_eq_true->Ll,filter_cons->Lm,reverse_append->Lo,length_pos_iff->Lq,length_nil->Lr,filter_append->Lw,set_set->Lz,set_eq_of_length_le->LA,drop_drop->LC,pairwise_singleton->LF,Pairwise.nil->LG,mapM_toArray->LJ,getElem?_set_self->LK,countP_cons->LN,not_mem_nil->LO,getElem?_set_ne->LP,nil_append->LV,drop_append_of_le_length->LZ,filterMap_cons->L0,map_eq_nil_iff->L4,flatMap_append->L5,forIn_nil->L6,length->L7,set_cons_succ->L8,all_cons->Ma,take_add->Mb,pairwise_iff_getElem->Mg,findIdx?_eq_none_iff->Mi,getElem?_take_of_lt->Mj,zipIdx_cons->Mk,mem_reverse->Ml,eraseIdx_cons_succ->Mv,of_mem_zip->Mw,forIn_cons->Mx,range_succ_eq_map->MA,Perm.append_right->MB,drop_eq_nil_of_le->MC,nodup_nil->MD,singleton_append->MF,Perm.cons->MG,getElem?_zipWith->MI,reverse_reverse->MJ,drop_eq_nil_iff->MM,map_drop->MR,map_take->MT,length_zipWith->MU,replicate_succ->MV,mem_filterMap->MW,filterMap_map->MX,set_cons_zero->M0,any_map->M4,map_replicate->M7,reverse_perm->Na,ext_getElem?->Nb,map_id->Nd,filter->Ng,getElem_inj->Nh,all_toArray->Nm,flatMap_def->Nn,cons_ne_nil->Np,map_reverse->Nq,zipIdx_nil->Nr,foldl_cons->Nv,zip_append->Ny,Perm.refl->NA,filterMap->NB,Perm->NC,zipWith->NF,Sublist->NG
open Nat renaming le_refl->c_,le_trans->n_,lt_of_lt_of_le->u_,ne_of_lt->yp,zero_le->z_,lt_of_le_of_lt->G',le_of_lt->JI,le_of_not_lt->JQ,pos_of_ne_zero->Kd,sub_le->Kk,lt_irrefl->Km,succ_le_succ->Kr,succ.inj->Ku,le_of_ble_eq_true->Kx,one_pos->K0,ne_of_gt->Lb,succ_pos->Lg,add_le_add_left->Ln,add_sub_cancel'->Lp,min_eq_left->Ls,sub_lt_left_of_lt_add->Lu,le_of_eq->Lv,zero_add->Lx,lt_of_le_of_ne->Ly,add_sub_cancel_left->LD,le_of_lt_succ->LH,add_assoc->LL,lt_trans->LR,le_sub_one_of_lt->LU,add_lt_add_left->L3,sub_lt->Mf,not_lt->Mh,le_add_right->Mn,min_eq_right->Mo,sub_self->Mq,max_eq_right->Mr,add_zero->Mt,sub_le_sub_right->MK,add_le_add_right->ML,max_le->MN,min_self->MZ,le_succ_of_le->M9,add_sub_assoc->M_,lt_succ_of_lt->M',lt_of_not_le->Nk,le_add_left->Nt,le_antisymm->Nu,succ->NJ
open Int renaming toNat_natCast->K7,emod_lt_of_pos->LB,emod_nonneg->LW,zero_add->LY,fdiv_eq_ediv_of_nonneg->L9,fmod_eq_emod_of_nonneg->L_,le_refl->Nf
open Option renaming some.inj->G_,bind_some->Kq,some.injEq->Me,getD_some->Mm,some->Mz,isSome_some->MY,isNone_some->M5,isNone_none->M6,isSome_map->M8,getD_none->Nj,map->Nw,any->NI
open Bool renaming false_ne_true->A',false_eq_true->B_,and_eq_true->F_,beq_eq_decide_eq->Kw,eq_false_iff->K9,true_and->LM,eq_iff_iff->LQ,or_eq_false_iff->LX,false_or->L',not_false->ME,and_eq_true_iff->MO,not_true->MP,and_true->MQ,and_false->Nz
open Array renaming length_toList->g_,getElem?_toList->i',getElem?_eq_getElem->x_,toList_append->JN,perm_iff_toList_perm->Kz,getElem?_extract->K4,getElem?_eq_none->K5,toList_push->K',toList_extract->Lj,toList_reverse->Lk,getElem?_eq_some_iff->Mc,toList_setIfInBounds->Md,size_setIfInBounds->Mu,Perm.refl->My,size_extract->M3,toList_map->Nl,toList->ND
open And renaming intro->f'
open Or renaming inl->e_,inr->k_
open Prod renaming mk.inj->Nc,ext->Ni,ext_iff->NH
open Decidable renaming of_not_not->Vm
open False renaming elim->N4
open ForInStep renaming done->NX,yield->N8
open Ne renaming symm->Qj
open PyProof renaming noPylong_small->RM
open PyProof.Rows renaming Keyed->NQ,arrOf->NS,wpS_bind->NU,SortSt->NV,wpS_pure->NZ,pendingOf->N6,wpS_forRange->Oq,elem'->Ot,failedOf->Ou,seqObj->OB,SortKind->ON,wpS_mono->OO,callWith_type1->OR,slot_tuple_getitem->Pp,subscriptTail->Pu,wpS_get->PQ,reverseSlice'->P4,AllBare->Qx,envOfC->QE,wpS_modify->QK,IntsAre->QR,wpS_lift->QX,keyKind'->QY,oneType'->QZ,assignInOrder_cons->Q1,Subscript_->Rm,gallopOf->RA,subscriptTail_builtinR->RO,mergeAt'->Sg,getElem?_mirror_all->Ss,minRun'->SH,assignInOrder_nil->SJ,tail_any->S4,callWith_builtin1->Te,bubble->Ts,getElem?_bubble->Tt,ltAt'->Tu,get?_update_seq->Tv,entry_list_sort->Tw,oneTypeOnly'_eq->Tx,slicePart_none->TH,tuples'->TV,slot_list_sort->TY,args_list_sort->TZ,keyLt'_oneType->T1,countRun'->T5,Constant_none->T7,listUpdate_at->Ue,IsTup->Ug,isTrue_plain->Uw,plain_sorted->US,entry_sorted->UT,args_sorted1->UU,is_none_gen->U3,binarySort'->U_,seqEpoch_at->U',kind_sorted->Va,keyKind'_eq->Vc,Call_->Vk
open PyProof.Rows.IsTup renaming new->Sx
open PyProof.Rows.SortSt renaming mk'->Pj
open PySem renaming Value->NK,wpAny_bind->NL,Addr->NN,Shared->NO,wpAny_pure->NP,wpAny->NT,Program->NW,model->N1,Expr->N2,World->N3,Heap->N5,starEach->N7,FuncData->N9,Around->N_,compareOp->Ob,Stmt->Of,eval->Og,wpAny_mono->Oh,wpAny_holding->Oj,sysModules->Ol,wpAny_truthy_bool->Oo,intItems->Ov,wpAny_newObj_type->Ow,wpAny_callSpecial?_slot->Ox,assignEach->Oy,wpAny_pyIter_tuple->Oz,mainGlobals->OA,foldedSetIterable->OC,wpAny_dictEntries->OE,wpAny_field->OG,Scope->OH,wpAny_call_entry->OI,wpAny_loadPart'->OK,binaryOp->OM,mem_of_lookup->OU,IsPair->OV,behindInMarks->OW,Builtin->OY,sliceBounds->O0,DictEntry->O4,wpAny_attempt->O5,wpAny_typeNameOfWhole_keyiter->O6,wpAny_seqItems->O8,backTo->O_,rawInt->O',wpAny_setField_rec->Pc,wpAny_pyIter_list->Pg,bootBuiltins->Pl,NameKind->Pm,wpAny_standAt->Pq,Paired->Pw,tupleKind->Py,Model->Pz,wpAny_rule->PD,tupleKind_room_in1->PH,IsZip->PV,numAt->PY,attributeBase->P0,wpAny_passesOwn->P6,swapsWith->P',assign->Qa,codeAny_mono->Qc,wpAny_getItem_list_slice->Qe,sliceRange->Ql,pyNext->Qn,wpAny_letGo->Qq,intItems_at->Qr,CmpOp->Qs,comprehension->Qu,wpAny_newList->Qv,holding->Qy,codeAny->Qz,wpAny_notOrdered_dict->QA,entryOfKey->QC,letOwnedTupleGo->QD,wpAny_updateSeq_pair->QG,wpAny_dictEpoch->QI,codeAny_builtin->QL,getItem->QQ,Keyword->QS,wpAny_setField->QU,firstArgMember->QV,subscripted->Q0,wpAny_Call_Name_kw->Q2,slicePick->Q4,assignInOrder->Q9,swapsWithSole->Q_,swappedStores->Ra,evalPart_none->Rc,evalPart_some->Rf,wpAny_onRaise->Rg,Comprehension->Rh,wpAny_missedRemoval_other->Ro,valueAt->Rq,callerA->Rr,wpAny_eqBool_int->Rt,noFill_tuple_add->Ru,IsPart->Rv,Params->Rx,wpAny_execs_nil->RG,atKey->RI,keywordEach->RQ,wpAny_of_eq->RS,codeAny_compStart_list->RT,isTrue->RV,wpAny_isTrue_Compare1->RW,pyIter->RX,BindsTo->RY,getitemInPython_of_ne->RZ,wpAny_isOneOf_keyiter->R3,builtinsNs->R8,bindL->R9,bindC->R_,call_meets->R',wpAny_letTemporaryGo->Sd,field->Se,wpAny_newFunctionEnv->Sf,wpAny_pyIter_keyiter->Sh,seq_tuple_add->Sl,Builtin->Sm,plainId_quiet->Sn,lastMarks->Sy,wpAny_List_spliced->Sz,concat_meets->SD,seqIndex_neg->SE,call_meetsIn->SF,standAt->SG,wpAny_assign_Name->SI,wpAny_pyIter_enum->SO,wpAny_Call_method->SS,wpAny_Slice->SV,seqIndex_of->SW,wpAny_execs_cons->S0,bindName->S3,backToKw->S5,wpAny_isInstance->S8,wpAny_comp_letGo->S_,wpAny_pyIter_zip->Ta,wpAny_Name->Td,call_tuple_same->Tf,typeIs_int->Tg,typeOf->Ti,wpAny_specialOf->Tj,wpAny_operating->Tn,call->To,Meets->Tp,wpAny_Compare1->Tz,setItem->TB,wpAny_bindName->TC,letTemporaryGo->TL,wpAny_newTuple->TM,isSubtype_stop->TN,argBest->TR,wpAny_fieldsOf->TU,cellsFrom->T4,intBits_le_64->T8,call_list_seq->T_,wpAny_handled->Ua,wpAny_standIf->Ub,truthy->Uv,bindArgs->UK,wpAny_typeOf->UL,newExc->UN,callType_new->UO,IsEnum->UR,HeapKind->UW,interactive->U4,IsRangeIter->U5,wpAny_throw->U8,idxH_unique->Vd,operate->Vf,MeetsIn->Vg,ItemsOf->Vh,collect->Vi
open PySem.Around renaming under_plainId->PZ
open PySem.AutoSeq1 renaming wpAny_loadPart'->Po,list_extend_list_list_0->S6,list_reverse_list_0->TJ,sub_list_list->Ve
open PySem.Builtin.Dict renaming keyAndDefault->Ri,showsAll->R1,takeOut->Si,dictSlotNone->Ut,pendingCount->Uu
open PySem.Builtin.Dict_items renaming ownsTuple->QW
open PySem.Builtin.List renaming listTooLong->Qf,listUpdate->UZ
open PySem.Builtin.Range renaming rangeSize->UX
open PySem.Builtin.Slice renaming slicePlaces->Ph,sliceAdjust->P7,sliceApplied->Rb,slicePartIndex->TF,sliceFields->Us
open PySem.Builtin.SmallTypes renaming nextOf->Oi,ownedTupleIsFree->OP,ownedTupleHandOut->Qh
open PySem.Builtin.Str renaming occurrences->RC
open PySem.Builtin.Tuple renaming tupleExact->Pn,tupleItemsOf->T9
open PySem.Calls renaming callWith_builtin->PK,call_function_entry->P8,spliced_cons->Qb,evalArgs_plain->QF,Name_function_global->Q8,spliced_nil->Rk
open PySem.CmpOp renaming NotIn->U2,In->Vz
open PySem.Data renaming cell->RH,fields->SU,seq->UM
open PySem.Env renaming kindOf->Tq
open PySem.EqMixed renaming eq_bool_str->Uk,eq_str_bool->Ul,ne_bool_str->Uq,ne_str_bool->Ur,eq_int_str->UA,eq_str_int->UC,ne_int_str->UH,ne_str_int->UJ
open PySem.EqNone renaming eq_none_none->Uh,eq_none_bool->Ui,eq_bool_none->Uj,ne_none_none->Um,ne_none_bool->Uo,ne_bool_none->Up,eq_none_int->Ux,eq_none_str->Uy,eq_int_none->Uz,eq_str_none->UB,ne_none_int->UD,ne_none_str->UE,ne_int_none->UG,ne_str_none->UI
open PySem.F renaming slot_dict_keyiterator_next->OQ,slot_list_append->O2,type_list_append->O3,slot_tuple_iterator_next->Pf,slot_dict_pop->PU,slot_list_reverse->P9,type_list_reverse->P_,args_tuple_add_2->Qd,entry_tuple_add->Qm,slot_tuple_add->Qo,slot_zip_next->QH,args_dict_keyiterator_next_1->QJ,entry_dict_keyiterator_next->QN,args_tuple_iterator_next_1->QT,entry_tuple_iterator_next->Q5,slot_dict_getitem->Rn,plainAttrs_list->RD,args_dict_pop_3->RE,plainAttrs_dict->RF,entry_dict_pop->RU,slot_dict_len->R4,type_dict_pop->R5,args_zip_next_1->SM,plain_list_iadd->SR,entry_zip_next->S7,slot_dict_iter->Tb,slot_list_lt->T3
open PySem.Flow renaming next->Vs
open PySem.Heap renaming get?_push_of_some->NR,lt_size->NY,get?_push_size->N0,SameBut->OL,size_push->O9,get?_update_self->PN,ExtBut->Qp,DictOfH->QM,get?_update_ne->QO,push->Q6,IsTuple->Ry,get?_update_other->RP,get?_push_ne->SQ,IsList->SX
open PySem.Heap.DictOf renaming new->VF
open PySem.Heap.DictOfH renaming typeIs->Su
open PySem.Heap.IsList renaming push->S9,extBut->Vt
open PySem.Heap.IsListIter renaming extBut->U7
open PySem.Heap.IsSliceOf renaming new->Q3
open PySem.Heap.IsTuple renaming push->SN,extBut->Vn
open PySem.Heap.IsTupleIter renaming extBut->UY
open PySem.Heap.SameBut renaming update->O7
open PySem.IsL renaming update->VA
open PySem.NameKind renaming free->OX,cell->VI
open PySem.Obj renaming mapSeq->OD,data_mapFields->Qg,isFreed_of_fields->R0,data_mapDictKeys->Sj,cls_mapFields->SK,mapFields->Ud
open PySem.Paired renaming length->OF,snoc->U6,cons->Vb
open PySem.PassesOwn renaming never->Od
open PySem.PyData renaming leavesShort->OZ,showable->PJ,hasDict->PR,depth->Qi,leavesShortAll->QB,showableAll->Q7,hasDictAll->Rl,depthAll->RL,bulkAll->R6,bulk->SY
open PySem.SeqAt renaming EqAt->PX,RcAt->Tr,RcNeAt->UP
open PySem.SeqAt.EqAt renaming int_str->Vq,str_int->Vr,of_refs->Vu,same->VG
open PySem.SeqAt.RcAt renaming lists_lengths->UQ,tuples->Vx,lists->VB
open PySem.SeqAt.RcNeAt renaming lists_lengths->Uc,tuples->Vo,lists->Vv
open PySem.Shared renaming heap->P5
open PySem.Str renaming ofString->Pb
open PySem.Value renaming ref->Oa,none->Om,type->OJ,int->Qw,bool->R7,str->Sw,isStrOf->T6,isInt->U0
open PySem.W renaming Frag->NM,fnOf->Pa,keepIn->Qk,codeIn->QP,methodObj->Rj,nsIn->RB,OpenLaw->RJ,kat_nil->RK,cellsFrom_some->RN,mg_of->So,kHook->Sr,kas_mapM->Tc,kitAny->TQ,WalkO->T'
open PySem.W.Hook renaming keeps->Vw,says->Vy,obs->VC,val->VD,of->VH
open PySem.W.KatTups renaming cons->Vl,nil->Vp
open PySem.W.XL renaming keeps->VE
open PySem.Walks renaming tuple->U9
open Std.Legacy.Range renaming forIn_eq_forIn_range'->Sv,size->Vj
open Sum renaming inr->Oe,inl->Pe
open Sum.inl renaming inj->U1
open True renaming intro->O1
namespace L2
open PySem PySem.Spec PyProof.Rows
abbrev Key:=Sum Int Str
def oZ:Key->NK->Bool
 | .inl k,v=>U0 k v
 | .inr x,v=>T6 x v
def Jb(w:N3):Key->Int
 | .inl k=>hashInt k
 | .inr x=>hashStr w x
theorem cB:∀ {k:Key} {v:NK},oZ k v=true->(∃ i t,k=Pe i/\v=Qw i t)\/(∃ x t,k=Oe x/\v=Sw x t)
 | .inl i,v,h=>by
  obtain⟨t,e⟩:=Value.isInt_shape (k:=i) (v:=v) h
  exact .inl ⟨i,t,rfl,e⟩
 | .inr x,v,h=>by
  obtain⟨t,e⟩:=Value.isStrOf_shape (x:=x) (v:=v) h
  exact .inr ⟨x,t,rfl,e⟩
theorem xF(i:Int)(t:Tok):oZ (.inl i) (.int i t)=true:=by simp[oZ,U0]
theorem xT(x:Str)(t:Tok):oZ (.inr x) (.str x t)=true:=by simp[oZ,T6]
theorem F6(a b:Int):decide ((Pe a:Key)=Pe b)=(a == b):=by
 by_cases e:a=b
 ·subst e;simp
 have h:¬(Pe a:Key)=Pe b:=fun q=>e (U1 q)
 rw[decide_eq_false h]
 exact(beq_eq_false_iff_ne.mpr e).symm
theorem FC(a b:Str):decide ((Oe a:Key)=Oe b)=decide (a=b):=by
 by_cases e:a=b
 ·subst e;simp
 have h:¬(Oe a:Key)=Oe b:=fun q=>e (Sum.inr.inj q)
 rw[decide_eq_false h,decide_eq_false e]
theorem FW(a:Int)(b:Str):decide ((Pe a:Key)=Oe b)=false:=decide_eq_false (fun q=>nomatch q)
theorem Fx(a:Str)(b:Int):decide ((Oe a:Key)=Pe b)=false:=decide_eq_false (fun q=>nomatch q)
def bx(prog:NW)(w:N3):PySem.KeyKind prog w Key where
 is:=oZ
 hash:=Jb w
 inj:=fun v a b ha hb=>by
  rcases cB ha with⟨i,t,rfl,rfl⟩ | ⟨x,t,rfl,rfl⟩
  ·rcases cB hb with⟨j,u,rfl,e⟩ | ⟨y,u,rfl,e⟩
   ·injection e with e1 _;rw[e1]
   exact nomatch e
  rcases cB hb with⟨j,u,rfl,e⟩ | ⟨y,u,rfl,e⟩
  ·exact nomatch e
  injection e with e1 _;rw[e1]
 byValue:=fun k v h=>by
  rcases cB h with⟨i,t,rfl,rfl⟩ | ⟨x,t,rfl,rfl⟩ <;> rfl
 pyHash:=fun hv h=>by
  rcases cB hv with⟨i,t,rfl,rfl⟩ | ⟨x,t,rfl,rfl⟩
  ·exact wpAny_pyHash_int h
  exact wpAny_pyHash_str h
 eqBool:=fun hu hv h=>by
  rcases cB hu with⟨i,t,rfl,rfl⟩ | ⟨x,t,rfl,rfl⟩
  ·rcases cB hv with⟨j,u,rfl,rfl⟩ | ⟨y,u,rfl,rfl⟩
   ·rw[F6]at h;exact Rt h
   rw[FW]at h;exact Vq i t y u _ _ _ _ h
  rcases cB hv with⟨j,u,rfl,rfl⟩ | ⟨y,u,rfl,rfl⟩
  ·rw[Fx]at h;exact Vr x t j u _ _ _ _ h
  rw[FC]at h;exact wpAny_eqBool_str h
 «strs»:=fun k x t v h=>by
  rcases cB h with⟨i,u,rfl,e⟩ | ⟨y,u,rfl,e⟩
  ·exact nomatch e
  injection e with e1 _
  subst e1
  cases v <;> rfl
theorem rC(prog:NW)(w:N3)(i:Int)(t:Tok):(bx prog w).is (.inl i) (.int i t)=true:=xF i t
theorem rV(prog:NW)(w:N3)(x:Str)(t:Tok):(bx prog w).is (.inr x) (.str x t)=true:=xT x t
inductive V where
 | non | bl (b:Bool) | int (i:Int) | str (x:Str) | byt (b:Array UInt8) | flt (b:UInt64) | ref (a:NN) | ty (n:String)
 deriving DecidableEq
set_option genInjectivity false
def RelV:V->NK->Prop
 | .non,u=>u=Om
 | .bl b,u=>u=R7 b
 | .int i,u=>∃ t,u=Qw i t
 | .str x,u=>∃ t,u=Sw x t
 | .byt b,u=>∃ t,u=Value.bytes b t
 | .flt b,u=>∃ t,u=Value.float b t
 | .ref a,u=>u=Oa a
 | .ty n,u=>u=OJ n
abbrev Vals:List V->List NK->Prop:=Pw RelV
theorem Vals.length {xs:List V}{us:List NK}(r:Vals xs us):xs.length=us.length:=OF r
theorem Vals.get:∀ {xs:List V} {us:List NK} {i:Nat} {x:V},Vals xs us->xs[i]?=some x->∃ u,us[i]?=some u/\RelV x u
 | _,_,_,_,.nil,e=>by simp at e
 | _,_,0,_,.cons r _,e=>by simp at e;subst e;exact⟨_,rfl,r⟩
 | _,_,i + 1,x,.cons _ t,e=>by
  obtain⟨u,h1,h2⟩:=Vals.get (i:=i) (x:=x) t (by simpa using e)
  exact⟨u,by simpa using h1,h2⟩
theorem Vals.set {x:V}{u:NK}(r:RelV x u):∀ {xs:List V} {us:List NK} (i:Nat),Vals xs us->Vals (xs.set i x) (us.set i u)
 | _,_,_,.nil=>.nil
 | _,_,0,.cons _ t=>.cons r t
 | _,_,i + 1,.cons q t=>.cons q (Vals.set r i t)
theorem Vals.append:∀ {xs ys:List V} {us ws:List NK},Vals xs us->Vals ys ws->Vals (xs++ys) (us++ws)
 | _,_,_,_,.nil,s=>s
 | _,_,_,_,.cons r t,s=>.cons r (Vals.append t s)
theorem Vals.take:∀ {xs:List V} {us:List NK} (n:Nat),Vals xs us->Vals (xs.take n) (us.take n)
 | _,_,0,_=>.nil
 | _,_,_ + 1,.nil=>.nil
 | _,_,n + 1,.cons r t=>.cons r (Vals.take n t)
theorem Vals.drop:∀ {xs:List V} {us:List NK} (n:Nat),Vals xs us->Vals (xs.drop n) (us.drop n)
 | _,_,0,r=>r
 | _,_,_ + 1,.nil=>.nil
 | _,_,n + 1,.cons _ t=>Vals.drop n t
def oh:Option V->Option NK->Prop
 | some v,some u=>RelV v u
 | none,none=>True
 | _,_=>False
def KV{κ:Type}:List (κ × V)->List (κ × NK)->Prop:=Pw fun(p:κ × V) (q:κ × NK)=>p.1=q.1/\RelV p.2 q.2
def kV:Key->V
 | .inl i=>.int i
 | .inr x=>.str x
inductive HO where
 | lst (xs:List V)
 | tup (xs:List V)
 | dK (kvs:List (Key × V)) | dT (kvs:List (List Key × V))
 | set (S:Int->Bool) (n:Nat)
 | ins (C dx:NN) (fs:List (Str × V))
 | own (x:NN)
 | xd (fs:List (Str × V))
 | met (f x:NN)
 | rng (lo hi:Int)
 | frz (o:Obj) (u:HO)
 | tbl (ps:Array NK)
 | ext (φ:N5->Prop)
abbrev Hp:=NN->Option HO
def upd(H:Hp)(a:NN)(o:HO):Hp:=fun b=>if b=a then some o else H b
theorem aR{H:Hp}{a:NN}{o:HO}:upd H a o a=some o:=by unfold upd;rw[if_pos rfl]
theorem aH{H:Hp}{a b:NN}{o:HO}(h:b≠a):upd H a o b=H b:=by unfold upd;rw[if_neg h]
theorem BI{H:Hp}{a:NN}{o u:HO}:upd (upd H a o) a u=upd H a u:=by
 funext b;unfold upd;split <;> rfl
theorem xw{H:Hp}{a b:NN}{o u:HO}(h:H a=some o)(h':H b=some u)(d:o≠u):a≠b:=by
 intro e;subst e;rw[h]at h';exact d (G_ h')
theorem cy{H:Hp}{a b:NN}{o:HO}(h:H a=some o)(h':H b=none):a≠b:=by
 intro e;subst e;rw[h]at h';cases h'
section
variable(P:NW)(w:N3)
def bg(H:Hp)(h:N5)(a:NN):HO->Prop
 | .lst xs=>xs.length<=sizeLine/\∃(its:List NK) (n:Nat),Vals xs its/\h.get? a=some { cls:=.type "list",data:=.seq its.toArray n }
 | .tup xs=>xs.length<=sizeLine/\∃ its:List NK,Vals xs its/\Ug h a its.toArray
 | .dK kvs=>kvs.length<=sizeLine/\(a == Ol)=false/\∃ vs,KV kvs vs/\h.DictOf (bx P w) a vs
 | .dT kvs=>kvs.length<=sizeLine/\(a == Ol)=false/\∃ xs:List (List Key × NN × NK),
   Pw (fun(p:List Key × V) (q:List Key × NN × NK)=>p.1=q.1/\H q.2.1=some (.tup (p.1.map kV))/\RelV p.2 q.2.2) kvs xs/\
   ∃ o es ep,h.get? a=some o/\o.ExactDict/\o.data=.dict es ep/\es.toList=xs.map (QC (Py (bx P w)))/\(xs.map (·.1)).Nodup
 | .set S n=>h.SetOf (intKind P w) a S n
 | .ins C dx fs=>H dx=some (.own a)/\fs.length<=1000/\dx≠a/\h.get? a=some (PySem.W.instObj C dx)/\
   ∃ mA,h.Ns1 dx mA/\(∀ f,oh (fs.lookup f) (mA f))/\PySem.Within mA (fs.map (·.1))
 | .own _=>∃ o,h.get? a=some o
 | .xd fs=>∃ mA,h.Ns1 a mA/\∀ f,oh (fs.lookup f) (mA f)
 | .rng lo hi=>∃ t u v,h.get? a=some { cls:=.type "range",data:=.fields #[.int lo t,.int hi u,.int 1 v] }
 | .frz o u=>h.get? a=some o/\bg H h a u
 | .tbl ps=>h.get? a=some { cls:=.none,data:=.fields ps }
 | .met f x=>h.get? a=some (Rj (.ref f) (.ref x))
 | .ext φ=>φ h/\(∃ o,h.get? a=some o)/\∀ h1 h2:N5,φ h1->(∀ o,h1.get? a=some o->h2.get? a=some o)->φ h2
def HOk(H:Hp)(h:N5):Prop:=∀ a o,H a=some o->bg P w H h a o
end
section
variable{P:NW}{w:N3}{H H':Hp}{h h':N5}{a:NN}{o:HO}
theorem bg.lt (x:bg P w H h a o):a < h.objs.size:=by
 cases o with
 | lst xs=>obtain⟨_,_,_,_,e⟩:=x;exact NY e
 | tup xs=>obtain⟨_,_,_,p⟩:=x;exact p.lt
 | dK kvs=>obtain⟨_,_,_,_,o,_,_,e,_⟩:=x;exact NY e
 | dT kvs=>obtain⟨_,_,_,_,o,_,_,e,_⟩:=x;exact NY e
 | set S n=>obtain⟨o,_,_,_,e,_⟩:=x;exact NY e
 | ins C dx fs=>obtain⟨_,_,_,e,_⟩:=x;exact NY e
 | own y=>obtain⟨_,e⟩:=x;exact NY e
 | xd fs=>obtain⟨_,⟨_,_,_,e,_⟩,_⟩:=x;exact NY e
 | rng lo hi=>obtain⟨_,_,_,e⟩:=x;exact NY e
 | frz ob u=>obtain⟨e,_⟩:=x;exact NY e
 | tbl ps=>exact NY (show h.get? a=some _ from x)
 | met f y=>exact NY (show h.get? a=some _ from x)
 | ext φ=>obtain⟨_,⟨_,e⟩,_⟩:=x;exact NY e
theorem Paired.EA {α β:Type}{F G:α->β->Prop}:∀ {l₁:List α} {l₂:List β},Pw F l₁ l₂->(∀ a b,F a b->G a b)->Pw G l₁ l₂
 | _,_,.nil,_=>.nil
 | _,_,.cons r t,f=>.cons (f _ _ r) (Paired.EA t f)
theorem bg.jK (x:bg P w H h a o)(k:∀ b u,(b=a\/H b=some (.own a))->h.get? b=some u->h'.get? b=some u)
  (ho:∀ b,H b=some (.own a)->H' b=some (.own a)) (ht:∀ b xs,H b=some (.tup xs)->H' b=some (.tup xs)):bg P w H' h' a o:=by
 induction o with
 | lst xs=>obtain⟨z,its,n,r,e⟩:=x;exact⟨z,its,n,r,k _ _ (.inl rfl) e⟩
 | tup xs=>obtain⟨z,its,r,ob,e,c⟩:=x;exact⟨z,its,r,ob,k _ _ (.inl rfl) e,c⟩
 | dK kvs=>obtain⟨z,y,vs,r,ob,es,ep,e,c⟩:=x;exact⟨z,y,vs,r,ob,es,ep,k _ _ (.inl rfl) e,c⟩
 | dT kvs=>
  obtain⟨z,y,xs,r,ob,es,ep,e,c⟩:=x
  exact⟨z,y,xs,Paired.EA r fun p q z=>⟨z.1,ht _ _ z.2.1,z.2.2⟩,ob,es,ep,k _ _ (.inl rfl) e,c⟩
 | set S n=>obtain⟨ob,es,ep,t,e,c⟩:=x;exact⟨ob,es,ep,t,k _ _ (.inl rfl) e,c⟩
 | ins C dx fs=>
  obtain⟨d,z,ne,e,mA,⟨od,es,ep,e2,c⟩,r⟩:=x
  exact⟨ho _ d,z,ne,k _ _ (.inl rfl) e,mA,⟨od,es,ep,k _ _ (.inr d) e2,c⟩,r⟩
 | own y=>obtain⟨ob,e⟩:=x;exact⟨ob,k _ _ (.inl rfl) e⟩
 | xd fs=>obtain⟨mA,⟨od,es,ep,e,c⟩,r⟩:=x;exact⟨mA,⟨od,es,ep,k _ _ (.inl rfl) e,c⟩,r⟩
 | rng lo hi=>obtain⟨t,u,v,e⟩:=x;exact⟨t,u,v,k _ _ (.inl rfl) e⟩
 | frz ob u ih=>obtain⟨e,q⟩:=x;exact⟨k _ _ (.inl rfl) e,ih q⟩
 | tbl ps=>
  have e:h.get? a=some { cls:=.none,data:=.fields ps }:=x
  show h'.get? a=some { cls:=.none,data:=.fields ps }
  exact k a _ (.inl rfl) e
 | met f y=>
  have e:h.get? a=some (Rj (.ref f) (.ref y)):=x
  show h'.get? a=some (Rj (.ref f) (.ref y))
  exact k a _ (.inl rfl) e
 | ext φ=>obtain⟨p,⟨o,e⟩,st⟩:=x;exact⟨st _ _ p fun o q=>k _ _ (.inl rfl) q,⟨o,k _ _ (.inl rfl) e⟩,st⟩
theorem HOk.lt (x:HOk P w H h)(e:H a=some o):a < h.objs.size:=(x a o e).lt
theorem HOk.fresh (x:HOk P w H h)(e:h.objs.size<=a):H a=none:=by
 cases q:H a with
 | none=>rfl
 | some u=>exact absurd (u_ (x.lt q) e) (Km _)
theorem HOk.kept (x:HOk P w H h)(k:∀ b u,h.get? b=some u->h'.get? b=some u):HOk P w H h':=fun a o e=>
 (x a o e).jK (fun b u _ q=>k b u q) (fun _ q=>q) fun _ _ q=>q
theorem HOk.laid (x:HOk P w H h)(k:∀ b u,h.get? b=some u->h'.get? b=some u)(hp:h.objs.size<=a)(new:bg P w (upd H a o) h' a o):HOk P w (upd H a o) h':=fun b u e=>by
 have hn:=x.fresh hp
 by_cases hb:b=a
 ·subst hb;rw[aR]at e;cases e;exact new
 rw[aH hb]at e
 exact(x b u e).jK (fun c v _ q=>k c v q) (fun c q=>by rw[aH (cy q hn)];exact q) fun c xs q=>by rw[aH (cy q hn)];exact q
end
def Rd(H:Hp)(a:NN)(u:HO):Prop:=H a=some u\/∃ o,H a=some (.frz o u)
theorem Rd.ok {P:NW}{w:N3}{H:Hp}{h:N5}{a:NN}{u:HO}(r:Rd H a u)(x:HOk P w H h):bg P w H h a u:=by
 rcases r with r | ⟨o,r⟩
 ·exact x a u r
 obtain⟨_,q⟩:=x a _ r
 exact q
def Mut:Option HO->Prop
 | some (.lst _)=>True
 | some (.dK _)=>True
 | some (.dT _)=>True
 | some (.set _ _)=>True
 | some (.ins _ _ _)=>True
 | some (.ext _)=>True
 | _=>False
section
variable{P:NW}{w:N3}{H:Hp}{h h':N5}{x e:NN}{o':HO}
theorem HOk.write (ok:HOk P w H h)(mu:Mut (H x))(he:e=x\/H e=some (.own x))(k:∀ b u,b≠e->h.get? b=some u->h'.get? b=some u)(heo:∃ u,h'.get? e=some u)
  (new:bg P w (upd H x o') h' x o'):HOk P w (upd H x o') h':=fun b u q=>by
 have nown:∀ c y,H c=some (.own y)->c≠x:=fun c y r z=>by subst z;rw[r]at mu;exact mu
 have ntup:∀ c xs,H c=some (.tup xs)->c≠x:=fun c xs r z=>by subst z;rw[r]at mu;exact mu
 by_cases hb:b=x
 ·subst hb;rw[aR]at q;cases q;exact new
 rw[aH hb]at q
 by_cases hbe:b=e
 ·have q':H b=some (.own x):=by
   rcases he with z | z
   ·exact absurd (hbe.trans z) hb
   rw[hbe];exact z
  rw[q]at q';cases q'
  obtain⟨v,hv⟩:=heo
  exact⟨v,by rw[hbe];exact hv⟩
 refine(ok b u q).jK (fun c v hc r=>k c v ?_ r) (fun c r=>by rw[aH (nown c b r)];exact r) fun c xs r=>by rw[aH (ntup c xs r)];exact r
 rcases hc with rfl | hc
 ·exact hbe
 rintro rfl
 rcases he with z | z
 ·exact nown c b hc z
 rw[hc]at z;cases z;exact hb rfl
end
structure Un (fs ex:List NN) (H H':Hp) (h h':N5):Prop where
 keep:∀ b o,h.get? b=some o->H b=none->b ∉ fs->b ∉ ex->h'.get? b=some o
 slot:∀ b o,h.get? b=some o->H b=none->b∈fs->b ∉ ex->∃ sl,h'.get? b=some { o with slots:=sl }
 free:∀ b o,h.get? b=some o->H b=none->b ∉ ex->H' b=none
 there:∀ b o,h.get? b=some o->b ∉ ex->∃ o',h'.get? b=some o'
 tups:∀ b xs,H b=some (.tup xs)->H' b=some (.tup xs)
 frzs:∀ b o u,H b=some (.frz o u)->H' b=some (.frz o u)
 tbls:∀ b ps,H b=some (.tbl ps)->∃ more,H' b=some (.tbl (ps++more))
section
variable{fs fs' ex ex':List NN}{H H1 H2:Hp}{h h1 h2 h':N5}{a x e:NN}{o:HO}
theorem Un.any (u:Un fs ex H H1 h h1){b:NN}{ob:Obj}(q:h.get? b=some ob)(n:H b=none)(hx:b ∉ ex):∃ sl,h1.get? b=some { ob with slots:=sl }:=by
 by_cases hb:b∈fs
 ·exact u.slot b ob q n hb hx
 exact⟨ob.slots,u.keep b ob q n hb hx⟩
theorem Un.kept (k:∀ b u,h.get? b=some u->h'.get? b=some u):Un fs ex H H h h':=
 ⟨fun b ob q _ _ _=>k b ob q,fun b ob q _ _ _=>⟨ob.slots,k b ob q⟩,fun _ _ _ n _=>n,fun b ob q _=>⟨ob,k b ob q⟩,fun _ _ q=>q,fun _ _ _ q=>q,fun _ ps q=>⟨#[],by rw[q];simp⟩⟩
theorem Un.refl:Un fs ex H H h h:=Un.kept fun _ _ q=>q
theorem Un.laid (k:∀ b u,h.get? b=some u->h'.get? b=some u)(hp:h.objs.size<=a)(hn:H a=none):Un fs ex H (upd H a o) h h' where
 keep:=fun b u q _ _ _=>k b u q
 slot:=fun b u q _ _ _=>⟨u.slots,k b u q⟩
 free:=fun b u q n _=>by rw[aH (yp (u_ (NY q) hp))];exact n
 there:=fun b u q _=>⟨u,k b u q⟩
 tups:=fun b xs q=>by rw[aH (cy q hn)];exact q
 frzs:=fun b u xs q=>by rw[aH (cy q hn)];exact q
 tbls:=fun b ps q=>⟨#[],by rw[aH (cy q hn),q];simp⟩
theorem Un.write (mu:Mut (H x))(he:e=x\/H e=some (.own x))(k:∀ b u,b≠e->h.get? b=some u->h'.get? b=some u)(heo:∃ u,h'.get? e=some u):Un fs ex H (upd H x o) h h':=by
 have hx:∀ b,H b=none->b≠x:=fun b n z=>by subst z;rw[n]at mu;exact mu
 have hb:∀ b,H b=none->b≠e:=fun b n z=>by
  subst z
  rcases he with r | r
  ·exact hx b n r
  rw[n]at r;cases r
 have hm:∀ b u,H b=some u->¬ Mut (some u)->b≠x:=fun b u q nm z=>by subst z;rw[q]at mu;exact nm mu
 refine⟨fun b u q n _ _=>k b u (hb b n) q,fun b u q n _ _=>⟨u.slots,k b u (hb b n) q⟩,fun b u q n _=>by rw[aH (hx b n)];exact n,fun b u q _=>?_,
  fun b xs q=>by rw[aH (hm b _ q fun z=>z)];exact q,fun b u xs q=>by rw[aH (hm b _ q fun z=>z)];exact q,fun b ps q=>⟨#[],by rw[aH (hm b _ q fun z=>z),q];simp⟩⟩
 by_cases hbe:b=e
 ·subst hbe;exact heo
 exact⟨u,k b u hbe q⟩
end
def trk(h:N5)(H:Hp):List NN:=(p_ h.objs.size).filter fun a=>(H a).isSome
def qo(h:N5)(H:Hp):N5:=PySem.W.hideAll h (trk h H)
theorem yH(h:N5)(H:Hp):(qo h H).objs.size=h.objs.size:=PySem.W.hideAll_size _ _
theorem zl{h:N5}{H:Hp}{b:NN}{o:Obj}(e:h.get? b=some o)(n:H b=none):(qo h H).get? b=some o:=
 PySem.W.hideAll_get _ e fun hm=>by
  have q:(H b).isSome=true:=(KW.mp hm).2
  rw[n]at q;simp at q
theorem Ci{h:N5}{H:Hp}{b:NN}{o:Obj}(e:(qo h H).get? b=some o):h.get? b=some o/\H b=none:=by
 have e':h.get? b=some o:=PySem.W.of_hideAll (trk h H) e
 refine⟨e',?_⟩
 cases q:H b with
 | none=>rfl
 | some x=>
  have hm:b∈trk h H:=KW.mpr ⟨KL.mpr (NY e'),by simp[q]⟩
  have z:(qo h H).get? b=none:=PySem.W.hideAll_none (trk h H) hm
  rw[z]at e;cases e
def C9(g h:N5)(L:NN):List (NN × Obj):=(p_ h.objs.size).filterMap fun a=>if a=L\/(g.get? a).isSome=true then none else(h.get? a).map fun o=>(a,o)
def rest(g h:N5)(L d:NN):List (NN × Obj):=(C9 g h L).filter fun p=>decide (p.1≠d)
structure Mod (K:NM) (mg:Str->Option NK) (base:N5):Prop where
 kin:K.In base
 glob:base.Ns OA mg
 blt:∃ mb,base.Ns R8 mb/\∀ x:Str,x≠"__name__"->mb x=Pl x
 nolimit:base.NoLimit
structure Cx where
 prog:NW
 w:N3
 K:NM
 mg:Str->Option NK
 base:N5
 A:N_
 N:List Str
 s₀:NO
 H₀:Hp
 env:Env
 outer:List Env
 stack:List Env
 ex:List NN
 fn:Str->Bool
 calm:Bool
 pn:List (NN × Obj)
 xe:NK->NO->Prop
def frs(l:List Env):List NN:=l.filterMap (·.frame)
abbrev Cx.fs (X:Cx):List NN:=frs X.outer
def Vis(sc:OH)(x:Str):Prop:=sc.names.lookup x=some .local\/sc.names.lookup x=some .cell\/sc.names.lookup x=some .free
def Loc(sc:OH)(x:Str):Prop:=sc.names.lookup x=some .local\/sc.names.lookup x=some .cell
def Look(env:Env)(h:N5)(m:Str->Option NK)(x:Str)(u:NK):Prop:=
 (env.kindOf x=some .local/\m x=some u)\/((env.kindOf x=some .cell\/env.kindOf x=some .free)/\∃ c,env.cells.lookup x=some c/\h.IsCell c (some u))
structure Cx.Ok (X:Cx):Prop where
 mod:Mod X.K X.mg X.base
 kind:X.env.scope.kind=.function
 glob:X.env.globals=OA
 blt:X.env.builtins=R8
 above:X.s₀.heap.objs.size<=X.env.locals
 inj:∀ x y c,X.env.cells.lookup x=some c->X.env.cells.lookup y=some c->x=y
 has:∀ x,(X.env.kindOf x=some .cell\/X.env.kindOf x=some .free)->∃ c,X.env.cells.lookup x=some c
 cab:∀ x c,X.fn x=true->X.env.cells.lookup x=some c->X.s₀.heap.objs.size<=c
 hd:X.calm=true->X.A.handled=none
 frames:X.A.frames=some X.stack
 stk:X.stack=X.outer\/(X.stack=X.env::X.outer/\X.env.frame=some X.env.locals)
 exf:∀ b∈X.ex,b≠X.env.locals/\∀ x c,X.env.cells.lookup x=some c->c≠b
 bs:∀ b o,X.base.get? b=some o->X.s₀.heap.get? b=some o/\X.H₀ b=none
 bsz:X.base.objs.size<=X.s₀.heap.objs.size
 noex:∀ b o,X.base.get? b=some o->b ∉ X.ex
 exfs:∀ b∈X.ex,b ∉ X.fs
 ny:X.s₀.heap.FunFrames X.base X.outer
 frf:∀ b∈X.fs,X.H₀ b=none
structure Inv (X:Cx) (pins:List (NN × Obj)) (σ:List (Option V)) (H:Hp) (s:NO):Prop where
 ok:X.Ok
 os:s.os=X.s₀.os
 bare:Qx s.gens
 base:Un X.fs X.ex X.H₀ H X.s₀.heap s.heap
 loc:∃ m,s.heap.Ns X.env.locals m/\∀(i:Nat) (x:Str) (v:V),X.N[i]?=some x->σ[i]?=some (some v)->Vis X.env.scope x->∃ u,RelV v u/\Look X.env s.heap m x u
 cell:∀ x c,X.env.cells.lookup x=some c->∃ v,s.heap.IsCell c v
 free:H X.env.locals=none
 freeC:∀ x c,X.env.cells.lookup x=some c->H c=none
 pin:∀ p∈X.pn++pins,s.heap.get? p.1=some p.2/\H p.1=none/\p.1≠X.env.locals/\p.1 ∉ X.fs/\∀ v,p.2.data≠.cell v
 hok:HOk X.prog X.w H s.heap
 len:σ.length=X.N.length
section
variable{X:Cx}{pins:List (NN × Obj)}{σ:List (Option V)}{H H':Hp}{s:NO}{h':N5}
theorem Cx.Ok.Js (ok:X.Ok){b:NN}{o:Obj}(e:X.base.get? b=some o):b ∉ X.fs:=fun hb=>by
 have:=(ok.ny.mem hb).1
 rw[e]at this;cases this
theorem Inv.bs (I:Inv X pins σ H s):∀ b o,X.base.get? b=some o->s.heap.get? b=some o/\H b=none:=fun b o e=>
 ⟨I.base.keep b o (I.ok.bs b o e).1 (I.ok.bs b o e).2 (I.ok.Js e) (I.ok.noex b o e),I.base.free b o (I.ok.bs b o e).1 (I.ok.bs b o e).2 (I.ok.noex b o e)⟩
theorem Inv.bk (I:Inv X pins σ H s):∀ b o,X.base.get? b=some o->s.heap.get? b=some o:=fun b o e=>(I.bs b o e).1
theorem Inv.mod (I:Inv X pins σ H s):Mod X.K X.mg X.base:=I.ok.mod
theorem Inv.kIn (I:Inv X pins σ H s):X.K.In s.heap:=I.ok.mod.kin.keeps I.bk
theorem Inv.lt (I:Inv X pins σ H s):X.env.locals < s.heap.objs.size:=let ⟨_,hn,_⟩:=I.loc;hn.lt
theorem Inv.sz (I:Inv X pins σ H s):X.s₀.heap.objs.size<=s.heap.objs.size:=n_ I.ok.above (JI I.lt)
theorem Inv.JD (I:Inv X pins σ H s){a:NN}(h:s.heap.objs.size<=a):a ∉ X.fs:=fun hb=>by
 obtain⟨_,o,ho,_⟩:=I.ok.ny.mem hb
 exact absurd (u_ (NY ho) (n_ I.sz h)) (Km _)
theorem Inv.cne (I:Inv X pins σ H s):∀ x c,X.env.cells.lookup x=some c->c≠X.env.locals:=fun x c e z=>by
 obtain⟨v,o,ho,hd⟩:=I.cell x c e
 obtain⟨m,⟨o',es,ep,ho',hd',_⟩,_⟩:=I.loc
 rw[z,ho']at ho;cases ho;rw[hd']at hd;cases hd
theorem Inv.ny (I:Inv X pins σ H s):s.heap.FunFrames X.base X.outer:=by
 have all:∀(l:List Env),(∀ b∈frs l,b∈X.fs)->X.s₀.heap.FunFrames X.base l->s.heap.FunFrames X.base l:=by
  intro l
  induction l with
  | nil=>intro _ _;trivial
  | cons env r ih=>
   intro hs hl
   obtain⟨hk,⟨L,o,hf,hn,ho,hd⟩,hr⟩:=hl
   have hL:L∈X.fs:=hs L (by unfold frs;rw[L0,hf];exact v_)
   obtain⟨sl,e⟩:=I.base.slot L o ho (I.ok.frf L hL) hL fun z=>I.ok.exfs L z hL
   exact⟨hk,⟨L,_,hf,hn,e,hd⟩,ih (fun b hb=>hs b (by unfold frs;rw[L0,hf];exact l_ _ hb)) hr⟩
 exact all X.outer (fun _ hb=>hb) I.ok.ny
theorem Inv.stack (I:Inv X pins σ H s):s.heap.FunFrames X.base X.stack:=by
 rcases I.ok.stk with e | ⟨e,hf⟩
 ·rw[e];exact I.ny
 rw[e]
 obtain⟨m,hn,_⟩:=I.loc
 refine .cons (by rw[I.ok.kind];decide) hf hn ?_ I.ny
 exact Heap.get?_none_of_le (n_ I.ok.bsz I.ok.above)
theorem Inv.uS (I:Inv X pins σ H s):∀ b∈frs X.stack,b∈X.env.locals::X.fs:=fun b hb=>by
 rcases I.ok.stk with e | ⟨e,hf⟩
 ·rw[e]at hb;exact l_ _ hb
 rw[e]at hb
 unfold frs at hb
 rw[L0,hf]at hb
 exact hb
theorem Inv.vZ (I:Inv X pins σ H s):∀ b∈frs X.stack,H b=none:=fun b hb=>by
 rcases t_.mp (I.uS b hb)with e | hb
 ·rw[e];exact I.free
 obtain⟨_,o,ho,_⟩:=I.ok.ny.mem hb
 exact I.base.free b o ho (I.ok.frf b hb) fun z=>I.ok.exfs b z hb
theorem Inv.step {g':Array GenState}{t':Nat}{d':Drawn}{ch:List NN}(I:Inv X pins σ H s)
  (hch:∀ b∈ch,(b∈X.ex\/X.s₀.heap.objs.size<=b)/\b≠X.env.locals/\(∀ x c,X.env.cells.lookup x=some c->c≠b)/\∀ p∈X.pn++pins,p.1≠b)
  (keep:∀ b o,b≠X.env.locals->b ∉ X.fs->b ∉ ch->s.heap.get? b=some o->H b=none->h'.get? b=some o)
  (slot:∀ b o,b≠X.env.locals->b∈X.fs->b ∉ ch->s.heap.get? b=some o->H b=none->∃ sl,h'.get? b=some { o with slots:=sl }) (free:∀ b o,b ∉ ch->s.heap.get? b=some o->H b=none->H' b=none)
  (there:∀ b o,b ∉ ch->s.heap.get? b=some o->∃ o',h'.get? b=some o')
  (tups:∀ b xs,H b=some (.tup xs)->H' b=some (.tup xs)) (frzs:∀ b o u,H b=some (.frz o u)->H' b=some (.frz o u)) (tbls:∀ b ps,H b=some (.tbl ps)->∃ more,H' b=some (.tbl (ps++more)))
  (ns:∀ m,s.heap.Ns X.env.locals m->h'.Ns X.env.locals m) (hok:HOk X.prog X.w H' h') (hg:Qx g') :
  Inv X pins σ H' { s with heap:=h',gens:=g',drawn:=d',toks:=t' }:=by
 have neL:∀ b o,X.s₀.heap.get? b=some o->b≠X.env.locals:=fun b o e=>yp (u_ (NY e) I.ok.above)
 have neC:∀ b o,X.s₀.heap.get? b=some o->b ∉ X.ex->b ∉ ch:=fun b o e hx hb=>by
  rcases(hch b hb).1 with z | z
  ·exact hx z
  exact absurd (u_ (NY e) z) (Km _)
 have cellK:∀ x c,X.env.cells.lookup x=some c->∀ v,s.heap.IsCell c v->h'.IsCell c v:=fun x c e v ⟨o,ho,hd⟩=>by
  have nch:c ∉ ch:=fun z=>(hch c z).2.2.1 x c e rfl
  by_cases hc:c∈X.fs
  ·obtain⟨sl,q⟩:=slot c o (I.cne x c e) hc nch ho (I.freeC x c e)
   exact⟨_,q,hd⟩
  exact⟨o,keep c o (I.cne x c e) hc nch ho (I.freeC x c e),hd⟩
 refine⟨I.ok,I.os,hg,⟨fun b o e n hb hx=>?_,fun b o e n hb hx=>?_,fun b o e n hx=>?_,fun b o e hx=>?_,fun b xs e=>tups b xs (I.base.tups b xs e),fun b o xs e=>frzs b o xs (I.base.frzs b o xs e),fun b ps e=>?_⟩,?_,fun x c e=>?_,?_,fun x c e=>?_,fun p hp=>?_,hok,I.len⟩
 ·exact keep b o (neL b o e) hb (neC b o e hx) (I.base.keep b o e n hb hx) (I.base.free b o e n hx)
 ·obtain⟨sl,e1⟩:=I.base.slot b o e n hb hx
  obtain⟨sl',e2⟩:=slot b _ (neL b o e) hb (neC b o e hx) e1 (I.base.free b o e n hx)
  exact⟨sl',e2⟩
 ·obtain⟨o',e1⟩:=I.base.there b o e hx
  exact free b o' (neC b o e hx) e1 (I.base.free b o e n hx)
 ·obtain⟨o',e1⟩:=I.base.there b o e hx
  exact there b o' (neC b o e hx) e1
 ·obtain⟨m1,e1⟩:=I.base.tbls b ps e
  obtain⟨m2,e2⟩:=tbls b _ e1
  exact⟨m1++m2,by rw[e2,Array.append_assoc]⟩
 ·obtain⟨m,hn,hl⟩:=I.loc
  refine⟨m,ns m hn,fun i x v e1 e2 e3=>?_⟩
  obtain⟨u,r,l⟩:=hl i x v e1 e2 e3
  refine⟨u,r,?_⟩
  rcases l with l | ⟨k,c,e,z⟩
  ·exact .inl l
  exact .inr ⟨k,c,e,cellK x c e _ z⟩
 ·obtain⟨v,z⟩:=I.cell x c e
  exact⟨v,cellK x c e v z⟩
 ·obtain⟨m,⟨o,_,_,ho,_⟩,_⟩:=I.loc
  exact free _ o (fun z=>(hch _ z).2.1 rfl) ho I.free
 ·obtain⟨v,o,ho,hd⟩:=I.cell x c e
  exact free c o (fun z=>(hch c z).2.2.1 x c e rfl) ho (I.freeC x c e)
 obtain⟨e,n,ne,nf,d⟩:=I.pin p hp
 have nch:p.1 ∉ ch:=fun z=>(hch p.1 z).2.2.2 p hp rfl
 exact⟨keep p.1 p.2 ne nf nch e n,free p.1 p.2 nch e n,ne,nf,d⟩
theorem Inv.un {t':Nat}(I:Inv X pins σ H s)(u:Un X.fs [] H H' s.heap h')(hok:HOk X.prog X.w H' h'):Inv X pins σ H' { s with heap:=h',toks:=t' }:=by
 obtain⟨m,⟨o,es,ep,ho,r⟩,_⟩:=id I.loc
 obtain⟨sl,hL⟩:=u.any ho I.free (by simp)
 exact I.step (g':=s.gens) (d':=s.drawn) (ch:=[]) (fun _ z=>nomatch z) (fun b o _ hb _ e n=>u.keep b o e n hb (by simp)) (fun b o _ hb _ e n=>u.slot b o e n hb (by simp)) (fun b o _ e n=>u.free b o e n (by simp)) (fun b o _ e=>u.there b o e (by simp)) u.tups u.frzs u.tbls (fun m' hm=>by
  obtain⟨o',es',ep',ho',r'⟩:=hm
  rw[ho]at ho';cases ho'
  exact⟨_,es',ep',hL,r'⟩) hok I.bare
theorem Inv.call {g':Array GenState}{t':Nat}{d':Drawn}{ch:List NN}(I:Inv X pins σ H s)(u:Un (frs X.stack) ch H H' s.heap h')(hok:HOk X.prog X.w H' h')(hg:Qx g')
  (hch:∀ b∈ch,(b∈X.ex\/X.s₀.heap.objs.size<=b)/\b≠X.env.locals/\(∀ x c,X.env.cells.lookup x=some c->c≠b)/\∀ p∈X.pn++pins,p.1≠b) :
  Inv X pins σ H' { s with heap:=h',gens:=g',drawn:=d',toks:=t' }:=by
 obtain⟨m,⟨o,es,ep,ho,r⟩,_⟩:=id I.loc
 obtain⟨sl,hL⟩:=u.any ho I.free fun z=>(hch _ z).2.1 rfl
 exact I.step (ch:=ch) hch (fun b o hL hb hc e n=>u.keep b o e n (fun z=>(t_.mp (I.uS b z)).elim hL hb) hc) (fun b o _ _ hc e n=>u.any e n hc) (fun b o hc e n=>u.free b o e n hc) (fun b o hc e=>u.there b o e hc) u.tups u.frzs u.tbls (fun m' hm=>by
  obtain⟨o',es',ep',ho',r'⟩:=hm
  rw[ho]at ho';cases ho'
  exact⟨_,es',ep',hL,r'⟩) hok hg
theorem Inv.turned {t':Nat}{it:NN}(I:Inv X pins σ H s)(k:∀ b o,b≠it->s.heap.get? b=some o->h'.get? b=some o)(hn:H it=none)(hL:it≠X.env.locals)
  (h1:it∈X.ex\/X.s₀.heap.objs.size<=it) (h2:∀ x c,X.env.cells.lookup x=some c->c≠it) (h3:∀ p∈X.pn++pins,p.1≠it):Inv X pins σ H { s with heap:=h',toks:=t' }:=by
 have nit:∀ b u,H b=some u->b≠it:=fun b u e z=>by rw[z,hn]at e;cases e
 refine I.step (g':=s.gens) (d':=s.drawn) (ch:=[it]) (fun b hb=>?_) (fun b o _ _ hc e _=>k b o (fun z=>hc (by simp[z])) e) (fun b o _ _ hc e _=>⟨o.slots,k b o (fun z=>hc (by simp[z])) e⟩) (fun _ _ _ _ n=>n)
  (fun b o hc e=>⟨o,k b o (fun z=>hc (by simp[z])) e⟩) (fun _ _ e=>e) (fun _ _ _ e=>e) (fun b ps e=>⟨#[],by rw[e];simp⟩) (fun m hm=>?_) (fun b u e=>?_) I.bare
 ·have e:b=it:=by simpa using hb
  subst e
  exact⟨h1,hL,h2,h3⟩
 ·obtain⟨o,es,ep,ho,r⟩:=hm
  exact⟨o,es,ep,k _ o (Qj hL) ho,r⟩
 refine(I.hok b u e).jK (fun c v hc q=>k c v ?_ q) (fun _ q=>q) fun _ _ q=>q
 rcases hc with z | z
 ·rw[z];exact nit b u e
 exact nit c _ z
theorem Inv.tok (I:Inv X pins σ H s)(t:Nat):Inv X pins σ H { s with toks:=t }:=I.un (h':=s.heap) (t':=t) Un.refl I.hok
theorem Inv.kept {t':Nat}(I:Inv X pins σ H s)(k:∀ b u,s.heap.get? b=some u->h'.get? b=some u):Inv X pins σ H { s with heap:=h',toks:=t' }:=I.un (Un.kept k) (I.hok.kept k)
theorem Inv.laid {a:NN}{o:HO}{t':Nat}(I:Inv X pins σ H s)(k:∀ b u,s.heap.get? b=some u->h'.get? b=some u)(hp:s.heap.objs.size<=a)(new:bg X.prog X.w (upd H a o) h' a o) :
  Inv X pins σ (upd H a o) { s with heap:=h',toks:=t' }:=I.un (Un.laid k hp (I.hok.fresh hp)) (I.hok.laid k hp new)
theorem Inv.write {x e:NN}{o:HO}{t':Nat}(I:Inv X pins σ H s)(mu:Mut (H x))(he:e=x\/H e=some (.own x))(k:∀ b u,b≠e->s.heap.get? b=some u->h'.get? b=some u)(heo:∃ u,h'.get? e=some u)
  (new:bg X.prog X.w (upd H x o) h' x o):Inv X pins σ (upd H x o) { s with heap:=h',toks:=t' }:=I.un (Un.write mu he k heo) (I.hok.write mu he k heo new)
theorem Inv.vY {pins':List (NN × Obj)}(I:Inv X pins σ H s)(h:∀ p∈pins',s.heap.get? p.1=some p.2/\H p.1=none/\p.1≠X.env.locals/\p.1 ∉ X.fs/\∀ v,p.2.data≠.cell v):Inv X pins' σ H s:=
 ⟨I.ok,I.os,I.bare,I.base,I.loc,I.cell,I.free,I.freeC,fun p hp=>(D_.mp hp).elim (fun z=>I.pin p (JJ _ z)) (h p),I.hok,I.len⟩
theorem sV{N:List Str}(hN:N.Nodup){i j:Nat}{x:Str}(a:N[i]?=some x)(b:N[j]?=some x):i=j:=by
 obtain⟨h1,e1⟩:=f_.mp a
 obtain⟨h2,e2⟩:=f_.mp b
 exact(Nh hN).mp (e1.trans e2.symm)
theorem pG{M:Pz}{A:N_}{E:NK->NO->Prop}{i:Nat}{x:Str}{v:V}{u:NK}{Q:Unit->NO->Prop}(I:Inv X pins σ H s)(hN:X.N.Nodup)(hi:X.N[i]?=some x)(hx:Loc X.env.scope x)(r:RelV v u)
  (h:∀ s',Inv X pins (σ.set i (some v)) H s'->(∃ a,OL a s.heap s'.heap/\(a=X.env.locals\/X.env.cells.lookup x=some a))->Q () s') (hf:X.fn x=true\/X.env.scope.names.lookup x=some .local:=by first | exact .inl rfl | exact .inr rfl | assumption):NT M A (storeName X.env x u) Q E s:=by
 obtain⟨m,hn,hl⟩:=id I.loc
 have hcls:(X.env.scope.kind == .class || (X.env.scope.kind == .module && X.env.locals != X.env.globals))=false:=by rw[I.ok.kind];rfl
 have hiσ:i < σ.length:=by rw[I.len];exact(f_.mp hi).1
 have cne:=I.cne
 have tracked:∀ {a:NN} {h':N5},(∃ o,s.heap.get? a=some o/\H a=none)->OL a s.heap h'->HOk X.prog X.w H h':=fun{a h'} ha hs b ob e=>by
  obtain⟨_,_,hfree⟩:=ha
  refine(I.hok b ob e).jK (fun c w' hc q=>(hs.2 c ?_).trans q) (fun _ q=>q) fun _ _ q=>q
  rintro rfl
  rcases hc with rfl | hc
  ·rw[hfree]at e;cases e
  rw[hfree]at hc;cases hc
 rcases hx with hk | hk
 ·refine wpAny_storeName_local hk hn (fun h' hn' hs=>?_) hcls
  obtain⟨oL,_,_,hoL,_⟩:=id hn
  refine h _ ⟨I.ok,I.os,I.bare,⟨fun b o e n hb hx=>?_,fun b o e n hb hx=>?_,I.base.free,fun b o e hx=>?_,I.base.tups,I.base.frzs,I.base.tbls⟩,⟨_,hn',fun j y v' e1 e2 e3=>?_⟩,fun y c e=>?_,I.free,I.freeC,fun p hp=>?_,tracked ⟨oL,hoL,I.free⟩ hs,by simpa using I.len⟩ ⟨_,hs,.inl rfl⟩
  ·exact(hs.2 b (yp (u_ (NY e) I.ok.above))).trans (I.base.keep b o e n hb hx)
  ·obtain⟨sl,e1⟩:=I.base.slot b o e n hb hx
   exact⟨sl,(hs.2 b (yp (u_ (NY e) I.ok.above))).trans e1⟩
  ·obtain⟨o',e1⟩:=I.base.there b o e hx
   exact⟨o',(hs.2 b (yp (u_ (NY e) I.ok.above))).trans e1⟩
  ·by_cases hj:j=i
   ·subst hj
    rw[hi]at e1;cases e1
    rw[LK hiσ]at e2
    cases e2
    exact⟨u,r,.inl ⟨hk,by simp⟩⟩
   rw[LP (Qj hj)]at e2
   obtain⟨u',r',q⟩:=hl j y v' e1 e2 e3
   refine⟨u',r',?_⟩
   rcases q with⟨k,e⟩ | ⟨k,c,e,z⟩
   ·refine .inl ⟨k,?_⟩
    have:y≠x:=fun e=>hj (sV hN e1 (e ▸ hi))
    simp[this,e]
   exact .inr ⟨k,c,e,z.sameBut hs (cne y c e)⟩
  ·obtain⟨w',z⟩:=I.cell y c e
   exact⟨w',z.sameBut hs (cne y c e)⟩
  obtain⟨e,n,ne,nf,d⟩:=I.pin p hp
  exact⟨(hs.2 p.1 ne).trans e,n,ne,nf,d⟩
 have hfn:X.fn x=true:=by
  rcases hf with z | z
  ·exact z
  rw[z]at hk;cases hk
 obtain⟨c,hc⟩:=I.ok.has x (.inl hk)
 obtain⟨w',z⟩:=I.cell x c hc
 refine wpAny_storeName_cell I.ok.kind hk hc z (fun h' hc' hs=>?_)
 obtain⟨oc,hoc,hocd⟩:=id z
 refine h { s with heap:=h' } ⟨I.ok,I.os,I.bare,⟨fun b o e n hb hx=>?_,fun b o e n hb hx=>?_,I.base.free,fun b o e hx=>?_,I.base.tups,I.base.frzs,I.base.tbls⟩,⟨m,hn.sameBut hs (Qj (cne x c hc)),fun j y v' e1 e2 e3=>?_⟩,fun y c' e=>?_,I.free,I.freeC,fun p hp=>?_,tracked ⟨oc,hoc,I.freeC x c hc⟩ hs,by simpa using I.len⟩ ⟨c,hs,.inr hc⟩
 ·exact(hs.2 b (yp (u_ (NY e) (I.ok.cab x c hfn hc)))).trans (I.base.keep b o e n hb hx)
 ·obtain⟨sl,e1⟩:=I.base.slot b o e n hb hx
  exact⟨sl,(hs.2 b (yp (u_ (NY e) (I.ok.cab x c hfn hc)))).trans e1⟩
 ·obtain⟨o',e1⟩:=I.base.there b o e hx
  exact⟨o',(hs.2 b (yp (u_ (NY e) (I.ok.cab x c hfn hc)))).trans e1⟩
 ·by_cases hj:j=i
  ·subst hj
   rw[hi]at e1;cases e1
   rw[LK hiσ]at e2
   cases e2
   exact⟨u,r,.inr ⟨.inl hk,c,hc,hc'⟩⟩
  rw[LP (Qj hj)]at e2
  obtain⟨u',r',q⟩:=hl j y v' e1 e2 e3
  refine⟨u',r',?_⟩
  rcases q with q | ⟨k,c',e,z'⟩
  ·exact .inl q
  refine .inr ⟨k,c',e,z'.sameBut hs ?_⟩
  rintro rfl
  exact hj (sV hN e1 (I.ok.inj _ _ _ e hc ▸ hi))
 ·by_cases hcc:c'=c
  ·subst hcc;exact⟨_,hc'⟩
  obtain⟨w2,z2⟩:=I.cell y c' e
  exact⟨w2,z2.sameBut hs hcc⟩
 obtain⟨e,n,ne,nf,d⟩:=I.pin p hp
 refine⟨(hs.2 p.1 ?_).trans e,n,ne,nf,d⟩
 intro q
 rw[q,hoc]at e
 have q':oc=p.2:=G_ e
 exact d w' (by rw[<-q'];exact hocd)
theorem jQ{M:Pz}{A:N_}{E:NK->NO->Prop}{i:Nat}{x:Str}{v:V}{u:NK}{Q:Unit->NO->Prop}(I:Inv X pins σ H s)(hN:X.N.Nodup)(hi:X.N[i]?=some x)(hx:Loc X.env.scope x)(r:RelV v u)
  (h:∀ s',Inv X pins (σ.set i (some v)) H s'->Q () s') (hf:X.fn x=true\/X.env.scope.names.lookup x=some .local:=by first | exact .inl rfl | exact .inr rfl | assumption):NT M A (storeName X.env x u) Q E s:=
 pG I hN hi hx r (fun s' I' _=>h s' I') hf
theorem Inv.Ej {s':NO}{ch:List NN}(I:Inv X pins σ H s)(ho:s'.os=s.os)(u:Un (frs X.stack) ch H H' s.heap s'.heap)(hok:HOk X.prog X.w H' s'.heap)(hg:Qx s'.gens)
  (hch:∀ b∈ch,(b∈X.ex\/X.s₀.heap.objs.size<=b)/\b≠X.env.locals/\(∀ x c,X.env.cells.lookup x=some c->c≠b)/\∀ p∈X.pn++pins,p.1≠b):Inv X pins σ H' s':=by
 obtain⟨h',g',d',t',o'⟩:=s'
 have e:o'=s.os:=ho
 subst e
 exact I.call (g':=g') (t':=t') (d':=d') u hok hg hch
end
abbrev XK:=NK->Option NN->Hp->Prop
abbrev St:=List (Option V)
abbrev VK:=V->Hp->Prop
abbrev TE:=St->Hp->VK->Prop
abbrev TT:=St->Hp->(Bool->Hp->Prop)->Prop
abbrev TA:=St->Hp->(List V->Hp->Prop)->Prop
structure Ends where
 nx:St->Hp->Prop
 rt:VK
 bk:St->Hp->Prop:=fun _ _=>False
 ct:St->Hp->Prop:=fun _ _=>False
abbrev TS:=Ends->St->Hp->Prop
def EP(X:Cx)(pins:List (NN × Obj))(σ:St)(Q:VK)(u:NK)(s':NO):Prop:=∃ v H',Inv X pins σ H' s'/\RelV v u/\Q v H'
def TP(X:Cx)(pins:List (NN × Obj))(σ:St)(Q:Bool->Hp->Prop)(b:Bool)(s':NO):Prop:=∃ H',Inv X pins σ H' s'/\Q b H'
def AP(X:Cx)(pins:List (NN × Obj))(σ:St)(Q:List V->Hp->Prop)(us:List NK)(s':NO):Prop:=∃ vs H',Inv X pins σ H' s'/\Vals vs us/\Q vs H'
noncomputable def SP(X:Cx)(pins:List (NN × Obj))(D:Ends)(f:Flow)(s':NO):Prop:=
 match f with
 | .next=>∃ σ' H',Inv X pins σ' H' s'/\D.nx σ' H'
 | .brk=>∃ σ' H',Inv X pins σ' H' s'/\D.bk σ' H'
 | .cont=>∃ σ' H',Inv X pins σ' H' s'/\D.ct σ' H'
 | .ret u=>∃ v σ' H',Inv X pins σ' H' s'/\RelV v u/\D.rt v H'
def PE(X:Cx)(e:N2)(t:TE):Prop:=
 ∀(pins:List (NN × Obj)) (s:NO) (σ:St) (H:Hp) (Q:VK),Inv X pins σ H s->t σ H Q->NT (N1 X.prog X.w) X.A (Og e X.env) (EP X pins σ Q) X.xe s
def PT(X:Cx)(e:N2)(t:TT):Prop:=
 ∀(pins:List (NN × Obj)) (s:NO) (σ:St) (H:Hp) (Q:Bool->Hp->Prop),Inv X pins σ H s->t σ H Q->NT (N1 X.prog X.w) X.A (RV e X.env (Og e X.env)) (TP X pins σ Q) X.xe s
def PW(X:Cx)(e:N2)(t:TT):Prop:=
 ∀(whole:Sem NK) (pins:List (NN × Obj)) (s:NO) (σ:St) (H:Hp) (Q:Bool->Hp->Prop),Inv X pins σ H s->t σ H Q->NT (N1 X.prog X.w) X.A (RV e X.env whole) (TP X pins σ Q) X.xe s
theorem PW.pt {X:Cx}{e:N2}{t:TT}(h:PW X e t):PT X e t:=h _
def PA(X:Cx)(es:List N2)(t:TA):Prop:=
 ∀(pos:Pos) (pins:List (NN × Obj)) (s:NO) (σ:St) (H:Hp) (Q:List V->Hp->Prop),Inv X pins σ H s->t σ H Q->NT (N1 X.prog X.w) X.A (spliced (O_ pos (N7 es X.env))) (AP X pins σ Q) X.xe s
def PS(X:Cx)(st:Of)(t:TS):Prop:=
 ∀(pins:List (NN × Obj)) (s:NO) (σ:St) (H:Hp) (D:Ends),Inv X pins σ H s->t D σ H->NT (N1 X.prog X.w) X.A (exec st X.env) (SP X pins D) X.xe s
def PSs(X:Cx)(st:List Of)(t:TS):Prop:=
 ∀(pins:List (NN × Obj)) (s:NO) (σ:St) (H:Hp) (D:Ends),Inv X pins σ H s->t D σ H->NT (N1 X.prog X.w) X.A (execs st X.env) (SP X pins D) X.xe s
theorem thn{α:Type}{t:Sem α}{Q Q':α->NO->Prop}{M:Pz}{A:N_}{E:NK->NO->Prop}{s:NO}(h:NT M A t Q E s)(hQ:∀ a s,Q a s->Q' a s):NT M A t Q' E s:=Oh h hQ fun _ _ x=>x
section
variable{X:Cx}
def FH(i:Nat):TE:=fun σ H Q=>∃ v,σ[i]?=some (some v)/\Q v H
def tC(v:V):TE:=fun _ H Q=>Q v H
theorem gA{i:Nat}{x:Str}{pos:Pos}(hN:X.N[i]?=some x)(hv:Vis X.env.scope x)(hd:(x ==("__debug__":Str))=false:=by decide)(hcd:(x ==("__classdict__":Str))=false:=by decide):PE X (.Name x pos) (FH i):=by
 intro pins s σ H Q I h
 obtain⟨v,e,h⟩:=h
 obtain⟨m,hn,hl⟩:=I.loc
 obtain⟨u,r,l⟩:=hl i x v hN e hv
 have fin:EP X pins σ Q u s:=⟨v,H,I,r,h⟩
 rcases l with⟨hk,hm⟩ | ⟨hk,c,hc,hcell⟩
 ·exact Td (wpAny_loadName_local I.ok.kind hk hn hm fin) hd
 rcases hk with hk | hk
 ·exact Td (wpAny_loadName_cell I.ok.kind hk hc hcell fin) hd
 exact Td (wpAny_loadName_free I.ok.kind hk hc hcell fin hcd) hd
theorem d7{i j pos}:PE X (.Constant (.int i) j pos) (tC (.int i)):=fun _ _ _ H _ I h=>wpAny_Constant_int ⟨.int i,H,I.tok _,⟨_,rfl⟩,h⟩
theorem zV{b j pos}:PE X (.Constant (.bool b) j pos) (tC (.bl b)):=fun _ _ _ H _ I h=>Constant_bool ⟨.bl b,H,I,rfl,h⟩
theorem Gs{j pos}:PE X (.Constant .none j pos) (tC .non):=fun _ _ _ H _ I h=>T7 ⟨.non,H,I,rfl,h⟩
theorem jt{x j pos}:PE X (.Constant (.str x) j pos) (tC (.str x)):=fun _ _ _ H _ I h=>Calls.Constant_str ⟨.str x,H,I.tok _,⟨_,rfl⟩,h⟩
def Gl(X:Cx)(x:Str):Prop:=X.env.kindOf x=some .globalImplicit
theorem xt{E:NK->NO->Prop}{pins:List (NN × Obj)}{s:NO}{σ:St}{H:Hp}{x:Str}{u:NK}{pos:Pos}{Q:NK->NO->Prop}(I:Inv X pins σ H s)(hg:Gl X x)(hm:X.mg x=some u)(h:Q u s)
  (hd:(x ==("__debug__":Str))=false:=by decide):NT (N1 X.prog X.w) X.A (Og (.Name x pos) X.env) Q E s:=
 Q8 I.ok.kind hg (Calls.loadGlobal_global (by rw[I.ok.glob];exact I.mod.glob.keeps I.bk) hm h) hd
theorem jr{E:NK->NO->Prop}{pins:List (NN × Obj)}{s:NO}{σ:St}{H:Hp}{x:Str}{u:NK}{pos:Pos}{Q:NK->NO->Prop}(I:Inv X pins σ H s)(hg:Gl X x)(hm:X.mg x=none)(hv:Pl x=some u)(h:Q u s)
  (hn:x≠"__name__":=by decide) (hd:(x ==("__debug__":Str))=false:=by decide):NT (N1 X.prog X.w) X.A (Og (.Name x pos) X.env) Q E s:=by
 obtain⟨mb,h1,h2⟩:=I.mod.blt
 exact Q8 I.ok.kind hg (Calls.loadGlobal_builtin (by rw[I.ok.glob];exact I.mod.glob.keeps I.bk) hm (by rw[I.ok.blt];exact h1.keeps I.bk) ((h2 x hn).trans hv) h) hd
theorem C5{x:Str}{v:V}{u:NK}{pos:Pos}(hg:Gl X x)(hm:X.mg x=some u)(r:RelV v u)(hd:(x ==("__debug__":Str))=false:=by decide):PE X (.Name x pos) (tC v):=
 fun _ _ _ H _ I h=>xt I hg hm ⟨v,H,I,r,h⟩ hd
theorem eY{x:Str}{v:V}{u:NK}{pos:Pos}(hg:Gl X x)(hm:X.mg x=none)(hv:Pl x=some u)(r:RelV v u)(hn:x≠"__name__":=by decide)(hd:(x ==("__debug__":Str))=false:=by decide):PE X (.Name x pos) (tC v):=
 fun _ _ _ H _ I h=>jr I hg hm hv ⟨v,H,I,r,h⟩ hn hd
variable{a b:N2}{ta tb:TE}{pos:Pos}
noncomputable def PC(X:Cx)(op:Qs)(a b:N2)(t:TE):Prop:=
 ∀(pins:List (NN × Obj)) (s:NO) (σ:St) (H:Hp) (Q:VK),Inv X pins σ H s->t σ H Q->
  NT (N1 X.prog X.w) X.A (Og a X.env) (fun v s₁=>NT (N1 X.prog X.w) X.A (Og b X.env) (fun u s₂=>NT (N1 X.prog X.w) X.A (Ob op v u) (EP X pins σ Q) X.xe s₂) X.xe s₁) X.xe s
theorem rT(b:N2){op:Qs}(h:op≠.In)(h2:op≠.NotIn):OW op b=false:=by
 have e1:(op == Vz)=false:=by cases op <;> first | rfl | exact absurd rfl h
 have e2:(op == U2)=false:=by cases op <;> first | rfl | exact absurd rfl h2
 cases b <;> simp[OW,e1,e2]
def JG(ta:TE):TE:=fun σ H Q=>ta σ H fun x H1=>Q (.bl (decide (x=.non))) H1
theorem RelV.Bi {x:V}{v:NK}(r:RelV x v):(v == Om)=decide (x=.non):=by
 cases x with
 | non=>cases r;rfl
 | bl _=>cases r;rfl
 | int _=>obtain⟨t,rfl⟩:=r;rfl
 | str _=>obtain⟨t,rfl⟩:=r;rfl
 | byt _=>obtain⟨t,rfl⟩:=r;rfl
 | flt _=>obtain⟨t,rfl⟩:=r;rfl
 | ref _=>cases r;rfl
 | ty _=>cases r;rfl
theorem B6{j pos'}(ha:PE X a ta):PC X .Is a (.Constant .none j pos') (JG ta):=by
 intro pins s σ H Q I h
 refine thn (ha pins s σ H _ I h) ?_
 rintro v s1 ⟨x,H1,I1,r1,q1⟩
 exact T7 (U3 ⟨.bl _,H1,I1,by rw[r1.Bi];rfl,q1⟩)
def tB(t:TE):TT:=fun σ H Q=>t σ H fun x H1=>∃ c,x=.bl c/\Q c H1
theorem GP{op:Qs}{t:TE}(h:PC X op a b t)(h1:OW op b=false:=by first | exact rT _ (by decide) (by decide) | rfl):PE X (.Compare a [op] [b] pos) t:=fun pins s σ H Q I hw=>Tz (h pins s σ H Q I hw) h1
theorem EH{op:Qs}{t:TE}(h:PC X op a b t)(h1:OW op b=false:=by first | exact rT _ (by decide) (by decide) | rfl):PT X (.Compare a [op] [b] pos) (tB t):=by
 intro pins s σ H Q I hw
 refine RW (thn (h pins s σ H _ I hw) fun v s1 h1=>thn h1 fun u s2 h2=>thn h2 fun c s3 ⟨x,H1,I1,r1,q1⟩=>?_) h1
 obtain⟨d,rfl,q⟩:=q1
 cases r1
 exact Oo ⟨H1,I1,q⟩
theorem qb{e:N2}{t:TE}(h:PE X e t)(he:∀ whole,RV e X.env whole=(do let v <-whole;SG e.pos;Qy [v] (Uv v)):=by intro _;rfl):PT X e (tB t):=by
 intro pins s σ H Q I hw
 refine Uw (thn (h pins s σ H _ I hw) fun v s1 ⟨x,H1,I1,r1,q1⟩=>?_) (he _)
 obtain⟨d,rfl,q⟩:=q1
 cases r1
 exact Oo ⟨H1,I1,q⟩
variable{tA tB':TT}{rest:List N2}
def Jn(t u:TT):TT:=fun σ H Q=>t σ H fun c H1=>if c=true then u σ H1 Q else Q false H1
def tOr(t u:TT):TT:=fun σ H Q=>t σ H fun c H1=>if c=true then Q true H1 else u σ H1 Q
def Jt(t:TT):TT:=fun σ H Q=>t σ H fun c H1=>Q (!c) H1
theorem Dw(ha:PT X a tA):PW X (.BoolOp .And [a] pos) tA:=by
 intro wh pins s σ H Q I h
 refine isTrue_and (thn (ha pins s σ H Q I h) fun c s1 e=>?_)
 cases c with
 | true=>exact isTrue_and_nil e
 | false=>exact e
theorem uT(ha:PT X a tA):PW X (.BoolOp .Or [a] pos) tA:=by
 intro wh pins s σ H Q I h
 refine isTrue_or (thn (ha pins s σ H Q I h) fun c s1 e=>?_)
 cases c with
 | false=>exact isTrue_or_nil e
 | true=>exact e
theorem FZ(ha:PT X a tA)(hb:PW X (.BoolOp .And (b::rest) pos) tB'):PW X (.BoolOp .And (a::b::rest) pos) (Jn tA tB'):=by
 intro wh pins s σ H Q I h
 refine isTrue_and (thn (ha pins s σ H _ I h) ?_)
 rintro c s1 ⟨H1,I1,q1⟩
 cases c with
 | true=>exact hb wh pins s1 σ H1 Q I1 q1
 | false=>exact⟨H1,I1,q1⟩
theorem Bs(ha:PT X a tA)(hb:PW X (.BoolOp .Or (b::rest) pos) tB'):PW X (.BoolOp .Or (a::b::rest) pos) (tOr tA tB'):=by
 intro wh pins s σ H Q I h
 refine isTrue_or (thn (ha pins s σ H _ I h) ?_)
 rintro c s1 ⟨H1,I1,q1⟩
 cases c with
 | true=>exact⟨H1,I1,q1⟩
 | false=>exact hb wh pins s1 σ H1 Q I1 q1
theorem Gn(ha:PT X a tA):PT X (.UnaryOp .Not a pos) (Jt tA):=by
 intro pins s σ H Q I h
 exact isTrue_not (ha pins s σ H (fun c H1=>Q (!c) H1) I h)
def Il(ta tb:TE):TE:=fun σ H Q=>ta σ H fun x H1=>∃ c,x=.bl c/\if c=true then tb σ H1 Q else Q (.bl false) H1
def JB(ta tb:TE):TE:=fun σ H Q=>ta σ H fun x H1=>∃ c,x=.bl c/\if c=true then Q (.bl true) H1 else tb σ H1 Q
def HQ(ta:TE):TE:=fun σ H Q=>ta σ H fun x H1=>∃ c,x=.bl c/\Q (.bl (!c)) H1
theorem vb{op}{t:TE}(h:PE X a t):PE X (.BoolOp op [a] pos) t:=fun pins s σ H Q I hw=>BoolOp_one (h pins s σ H Q I hw)
theorem qf(ha:PE X a ta)(hb:PE X (.BoolOp .And (b::rest) pos) tb):PE X (.BoolOp .And (a::b::rest) pos) (Il ta tb):=by
 intro pins s σ H Q I h
 refine BoolOp_and (thn (ha pins s σ H _ I h) ?_)
 rintro v s1 ⟨x,H1,I1,r1,q1⟩
 obtain⟨c,rfl,q1⟩:=q1
 cases r1
 refine Oo ?_
 cases c with
 | true=>exact hb pins s1 σ H1 Q I1 q1
 | false=>exact⟨.bl false,H1,I1,rfl,q1⟩
theorem Ih(ha:PE X a ta)(hb:PE X (.BoolOp .Or (b::rest) pos) tb):PE X (.BoolOp .Or (a::b::rest) pos) (JB ta tb):=by
 intro pins s σ H Q I h
 refine BoolOp_or (thn (ha pins s σ H _ I h) ?_)
 rintro v s1 ⟨x,H1,I1,r1,q1⟩
 obtain⟨c,rfl,q1⟩:=q1
 cases r1
 refine Oo ?_
 cases c with
 | false=>exact hb pins s1 σ H1 Q I1 q1
 | true=>exact⟨.bl true,H1,I1,rfl,q1⟩
theorem FO(ha:PE X a ta):PE X (.UnaryOp .Not a pos) (HQ ta):=by
 intro pins s σ H Q I h
 refine UnaryOp_ (thn (ha pins s σ H _ I h) ?_)
 rintro v s1 ⟨x,H1,I1,r1,q1⟩
 obtain⟨c,rfl,q1⟩:=q1
 cases r1
 exact not_of (Oo ⟨.bl (!c),H1,I1,rfl,q1⟩)
end
noncomputable def SqL(K:NM)(H:Hp)(a:NN)(xs:List V):Prop:=
 Rd H a (.lst xs)\/
  ∃(o:Obj) (its:Array NK) (n:Nat),K.lookup a=some o/\o.cls=.type "list"/\o.dict=none/\o.data=.seq its n/\its.size<=sizeLine/\Vals xs its.toList
noncomputable def SqT(K:NM)(H:Hp)(a:NN)(xs:List V):Prop:=
 Rd H a (.tup xs)\/
  ∃(o:Obj) (its:Array NK) (n:Nat),K.lookup a=some o/\o.cls=.type "tuple"/\o.data=.seq its n/\its.size<=sizeLine/\Vals xs its.toList
def JF:NK->Option V
 | .none=>some .non
 | .bool b=>some (.bl b)
 | .int i _=>some (.int i)
 | .str x _=>some (.str x)
 | .bytes b _=>some (.byt b)
 | .float b _=>some (.flt b)
 | .ref a=>some (.ref a)
 | .type n=>some (.ty n)
 | _=>none
theorem RelV.abs {x:V}{u:NK}(r:RelV x u):JF u=some x:=by
 cases x with
 | non=>cases r;rfl
 | bl _=>cases r;rfl
 | int _=>obtain⟨t,rfl⟩:=r;rfl
 | str _=>obtain⟨t,rfl⟩:=r;rfl
 | byt _=>obtain⟨t,rfl⟩:=r;rfl
 | flt _=>obtain⟨t,rfl⟩:=r;rfl
 | ref _=>cases r;rfl
 | ty _=>cases r;rfl
theorem RelV.inj {x y:V}{u:NK}(r:RelV x u)(q:RelV y u):x=y:=G_ (r.abs.symm.trans q.abs)
theorem Vals.inj:∀ {xs ys:List V} {us:List NK},Vals xs us->Vals ys us->xs=ys
 | _,_,_,.nil,.nil=>rfl
 | _,_,_,.cons r t,.cons r' t'=>by rw[r.inj r',Vals.inj t t']
section
variable{X:Cx}{pins:List (NN × Obj)}{σ:St}{H:Hp}{s:NO}{a:NN}{xs ys:List V}
theorem SqL.of {K:NM}(h:H a=some (.lst xs)):SqL K H a xs:=.inl (.inl h)
theorem SqT.of {K:NM}(h:H a=some (.tup xs)):SqT K H a xs:=.inl (.inl h)
theorem Inv.list (I:Inv X pins σ H s)(h:SqL X.K H a xs):∃ its:List NK,Vals xs its/\PlainL s.heap a its.toArray/\xs.length<=sizeLine:=by
 rcases h with h | ⟨o,its,n,hk,hc,hd,hs,hz,r⟩
 ·obtain⟨z,its,n,r,e⟩:=h.ok I.hok
  exact⟨its,r,⟨_,n,e,rfl,rfl,rfl⟩,z⟩
 refine⟨its.toList,r,⟨o,n,I.kIn a o hk,hc,hd,by simpa using hs⟩,?_⟩
 have e:=r.length
 simp only[g_]at e
 lia
theorem Inv.tuple (I:Inv X pins σ H s)(h:SqT X.K H a xs):∃ its:List NK,Vals xs its/\Ug s.heap a its.toArray/\xs.length<=sizeLine:=by
 rcases h with h | ⟨o,its,n,hk,hc,hs,hz,r⟩
 ·obtain⟨z,its,r,p⟩:=h.ok I.hok
  exact⟨its,r,p,z⟩
 refine⟨its.toList,r,⟨o,I.kIn a o hk,hc,n,by simpa using hs⟩,?_⟩
 have e:=r.length
 simp only[g_]at e
 lia
theorem Inv.nC (I:Inv X pins σ H s)(h:SqL X.K H a xs)(h':SqL X.K H a ys):xs=ys:=by
 obtain⟨its,r,⟨o,n,e,_,_,d⟩,_⟩:=I.list h
 obtain⟨its',r',⟨o',n',e',_,_,d'⟩,_⟩:=I.list h'
 rw[e]at e';cases e'
 rw[d]at d'
 injection d' with d1 _
 have:its=its':=by simpa using congrArg ND d1
 subst this
 exact r.inj r'
theorem Inv.iS (I:Inv X pins σ H s)(h:SqT X.K H a xs)(h':SqT X.K H a ys):xs=ys:=by
 obtain⟨its,r,⟨o,e,_,n,d⟩,_⟩:=I.tuple h
 obtain⟨its',r',⟨o',e',_,n',d'⟩,_⟩:=I.tuple h'
 rw[e]at e';cases e'
 rw[d]at d'
 injection d' with d1 _
 have:its=its':=by simpa using congrArg ND d1
 subst this
 exact r.inj r'
end
abbrev Cx.og (X:Cx)(E:NK->NO->Prop):Cx:={ X with xe:=E }
abbrev Cx.nox (X:Cx):Cx:=X.og fun _ _=>False
theorem Cx.Ok.og {X:Cx}(ok:X.Ok)(E:NK->NO->Prop):(X.og E).Ok:=
 ⟨ok.mod,ok.kind,ok.glob,ok.blt,ok.above,ok.inj,ok.has,ok.cab,ok.hd,ok.frames,ok.stk,ok.exf,ok.bs,ok.bsz,ok.noex,ok.exfs,ok.ny,ok.frf⟩
theorem Cx.Ok.iz {X:Cx}{E:NK->NO->Prop}(ok:(X.og E).Ok):X.Ok:=
 ⟨ok.mod,ok.kind,ok.glob,ok.blt,ok.above,ok.inj,ok.has,ok.cab,ok.hd,ok.frames,ok.stk,ok.exf,ok.bs,ok.bsz,ok.noex,ok.exfs,ok.ny,ok.frf⟩
section
variable{X:Cx}{pins:List (NN × Obj)}{σ:St}{H:Hp}{s:NO}{E:NK->NO->Prop}
theorem Inv.og (I:Inv X pins σ H s)(E:NK->NO->Prop):Inv (X.og E) pins σ H s:=⟨I.ok.og E,I.os,I.bare,I.base,I.loc,I.cell,I.free,I.freeC,I.pin,I.hok,I.len⟩
theorem Inv.iz (I:Inv (X.og E) pins σ H s):Inv X pins σ H s:=⟨I.ok.iz,I.os,I.bare,I.base,I.loc,I.cell,I.free,I.freeC,I.pin,I.hok,I.len⟩
theorem SP.iz {D:Ends}{f:Flow}{s':NO}(h:SP (X.og E) pins D f s'):SP X pins D f s':=by
 cases f with
 | next=>obtain⟨σ',H',I,q⟩:=h;exact⟨σ',H',I.iz,q⟩
 | brk=>obtain⟨σ',H',I,q⟩:=h;exact⟨σ',H',I.iz,q⟩
 | cont=>obtain⟨σ',H',I,q⟩:=h;exact⟨σ',H',I.iz,q⟩
 | ret u=>obtain⟨v,σ',H',I,r,q⟩:=h;exact⟨v,σ',H',I.iz,r,q⟩
theorem PSs.nox {st:List Of}{t:TS}(h:PSs X.nox st t):PSs X st t:=fun pins s σ H D I hw=>
 Oh (h pins s σ H D (I.og _) hw) (fun _ _ q=>q.iz) fun _ _ z=>N4 z
end
section
variable{X:Cx}{st:Of}{rest:List Of}{t u:TS}{e:N2}{te:TE}{pos:Pos}
def IK:TS:=fun D σ H=>D.nx σ H
def Jd(t u:TS):TS:=fun D σ H=>t { D with nx:=u D } σ H
theorem fX:PSs X [] IK:=fun _ _ σ H _ I h=>RG ⟨σ,H,I,h⟩
theorem bj(h1:PS X st t)(h2:PSs X rest u):PSs X (st::rest) (Jd t u):=by
 intro pins s σ H D I h
 refine S0 (thn (h1 pins s σ H { D with nx:=u D } I h) fun f s1 q=>?_)
 cases f with
 | next=>
  obtain⟨σ',H',I',q⟩:=q
  exact h2 pins s1 σ' H' D I' q
 | ret v=>exact q
 | brk=>exact q
 | cont=>exact q
theorem eZ(h1:PS X st t):PSs X [st] t:=by
 intro pins s σ H D I h
 refine S0 (thn (h1 pins s σ H D I h) fun f s1 q=>?_)
 cases f with
 | next=>exact RG q
 | ret v=>exact q
 | brk=>exact q
 | cont=>exact q
theorem Inv.quiet {pins:List (NN × Obj)}{σ:St}{H:Hp}{s:NO}(I:Inv X pins σ H s):U4 X.env=false:=by simp[U4,I.ok.kind]
def Hm(te:TE):TS:=fun D σ H=>te σ H fun _ H1=>D.nx σ H1
theorem CT(he:PE X e te)(hs:P' e none pos.line X.env=pure false:=by rfl):PS X (.Expr e pos) (Hm te):=by
 intro pins s σ H D I h
 exact wpAny_Expr_any (thn (he pins s σ H _ I h) fun v s1 ⟨x,H1,I1,r1,q1⟩=>⟨σ,H1,I1,q1⟩) I.quiet hs
def Jw(te:TE):TS:=fun D σ H=>te σ H D.rt
theorem gF(he:PE X e te):PS X (.Return (some e) pos) (Jw te):=by
 intro pins s σ H D I h
 exact wpAny_Return_some (thn (he pins s σ H _ I h) fun v s1 ⟨x,H1,I1,r1,q1⟩=>⟨x,σ,H1,I1,r1,q1⟩)
def JH(c:TT)(t u:TS):TS:=fun D σ H=>c σ H fun b H1=>if b=true then t D σ H1 else u D σ H1
theorem jL{c:N2}{a b:List Of}{tc:TT}(hc:PT X c tc)(ha:PSs X a t)(hb:PSs X b u):PS X (.If c a b pos) (JH tc t u):=by
 intro pins s σ H D I h
 refine wpAny_If (thn (hc pins s σ H _ I h) ?_)
 rintro d s1 ⟨H1,I1,q1⟩
 cases d with
 | true=>exact ha pins s1 σ H1 D I1 q1
 | false=>exact hb pins s1 σ H1 D I1 q1
def Fo:TS:=fun _ _ _=>False
theorem yx{sts:List Of}:PSs X sts Fo:=fun _ _ _ _ _ _ h=>h.elim
end
abbrev TG:=V->St->Hp->(St->Hp->Prop)->Prop
abbrev TGs:=List V->St->Hp->(St->Hp->Prop)->Prop
noncomputable def PG(X:Cx)(target:N2)(t:TG):Prop:=
 ∀(pins:List (NN × Obj)) (s:NO) (σ:St) (H:Hp) (v:V) (u:NK) (Q:St->Hp->Prop),Inv X pins σ H s->RelV v u->t v σ H Q->
  NT (N1 X.prog X.w) X.A (Qa target X.env u) (fun _ s'=>∃ σ' H',Inv X pins σ' H' s'/\Q σ' H') X.xe s
noncomputable def PGs(X:Cx)(ts:List N2)(t:TGs):Prop:=
 ∀(pins:List (NN × Obj)) (s:NO) (σ:St) (H:Hp) (vs:List V) (us:List NK) (Q:St->Hp->Prop),Inv X pins σ H s->Vals vs us->t vs σ H Q->
  NT (N1 X.prog X.w) X.A (Q9 ((Oy ts X.env).map (·.2)) us) (fun _ s'=>∃ σ' H',Inv X pins σ' H' s'/\Q σ' H') X.xe s
abbrev CA:=V->V->V->Hp->(Hp->Prop)->Prop
noncomputable def uN(X:Cx)(t:CA):Prop:=
 ∀(pins:List (NN × Obj)) (s:NO) (σ:St) (H:Hp) (o i v:V) (ov iv u:NK) (Q:Hp->Prop),Inv X pins σ H s->RelV o ov->RelV i iv->RelV v u->t o i v H Q->
  NT (N1 X.prog X.w) X.A (TB ov iv u) (fun _ s'=>∃ H',Inv X pins σ H' s'/\Q H') X.xe s
section
variable{X:Cx}{pos:Pos}
def xq(i:Nat):TG:=fun v σ H Q=>Q (σ.set i (some v)) H
theorem ml{i:Nat}{x:Str}(hN:X.N.Nodup)(hi:X.N[i]?=some x)(hx:Loc X.env.scope x)(hf:X.fn x=true\/X.env.scope.names.lookup x=some .local:=by first | exact .inl rfl | exact .inr rfl | assumption):PG X (.Name x pos) (xq i):=by
 intro pins s σ H v u Q I r h
 exact SI (jQ I hN hi hx r (fun s' I'=>⟨_,H,I',h⟩) hf)
def JE:TGs:=fun vs σ H Q=>vs=[]/\Q σ H
def HC(t:TG)(u:TGs):TGs:=fun vs σ H Q=>∃ v r,vs=v::r/\t v σ H fun σ' H'=>u r σ' H' Q
theorem pT:PGs X [] JE:=by
 intro pins s σ H vs us Q I r h
 obtain⟨e,h⟩:=h
 subst e
 cases r
 exact SJ ⟨σ,H,I,h⟩
theorem iI{e:N2}{es:List N2}{t:TG}{u:TGs}(h1:PG X e t)(h2:PGs X es u)
  (hs:(Oy (e::es) X.env).map (·.2)=Qa e X.env::(Oy es X.env).map (·.2):=by rfl):PGs X (e::es) (HC t u):=by
 intro pins s σ H vs us Q I r h
 obtain⟨v,vr,e1,h⟩:=h
 subst e1
 cases r with
 | cons r rr=>
  rw[hs]
  refine Q1 (thn (h1 pins s σ H _ _ _ I r h) ?_)
  rintro _ s1 ⟨σ1,H1,I1,q1⟩
  exact h2 pins s1 σ1 H1 _ _ Q I1 rr q1
def Jc(K:NM)(n:Nat)(t:TGs):TG:=fun v σ H Q=>∃ a xs,v=.ref a/\SqT K H a xs/\xs.length=n/\t xs σ H Q
theorem uV{es:List N2}{k:Nat}{t:TGs}{n:Nat}(hc:X.calm=true)(h:PGs X es t)
  (hn:(Oy es X.env).length=n:=by rfl) (hst:(Oy es X.env).findIdx? (·.1)=none:=by rfl):PG X (.Tuple es k pos) (Jc X.K n t):=by
 intro pins s σ H v u Q I r hw
 obtain⟨a,xs,e1,hq,hl,hw⟩:=hw
 subst e1
 cases r
 obtain⟨its,rv,ht,hz⟩:=I.tuple hq
 refine assign_Tuple_tuple (I.ok.hd hc) ht (by simp[hn,<-hl,rv.length]) hst fun h' hx=>?_
 have I1:Inv X pins σ H { s with heap:=h' }:=I.kept (t':=s.toks) fun b o e=>hx b o (yp (NY e)) e
 exact h pins _ σ H xs _ Q I1 (by simpa using rv) hw
def Jv(to ti:TE)(t:CA):TG:=fun v σ H Q=>to σ H fun o H1=>ti σ H1 fun i H2=>t o i v H2 fun H3=>Q σ H3
theorem zk{o i:N2}{to ti:TE}{t:CA}(ho:PE X o to)(hi:PE X i ti)(hs:uN X t)
  (ha:∀ v,Qa (.Subscript o i pos) X.env v=(do
   let ov <-Qy [v] (Og o X.env)
   let iv <-Qy [v,ov] (Og i X.env)
   SG pos
   Qy [v,ov,iv] (TB ov iv v)
   release [v,ov,iv] []):=by intro _;rfl):PG X (.Subscript o i pos) (Jv to ti t):=by
 intro pins s σ H v u Q I r h
 rw[ha]
 refine NL (Oj (thn (ho pins s σ H _ I h) ?_))
 rintro ov s1 ⟨x,H1,I1,r1,q1⟩
 refine NL (Oj (thn (hi pins s1 σ H1 _ I1 q1) ?_))
 rintro iv s2 ⟨y,H2,I2,r2,q2⟩
 refine NL (Pq (NL (Oj (thn (hs pins s2 σ H2 x y v ov iv u _ I2 r1 r2 r q2) ?_))))
 rintro _ s3 ⟨H3,I3,q3⟩
 exact wpAny_release ⟨σ,H3,I3,q3⟩
def CM(te:TE)(g:TG):TS:=fun D σ H=>te σ H fun x H1=>g x σ H1 D.nx
theorem BA{tg e:N2}{te:TE}{g:TG}(he:PE X e te)(hg:PG X tg g)(hs:Q_ [tg] e pos.line X.env=pure false:=by rfl)(hw:Ra [tg] e X.env=pure none:=by rfl)
  (h1:(Oy [tg] X.env).map (·.2)=[Qa tg X.env]:=by rfl):PS X (.Assign [tg] e pos) (CM te g):=by
 intro pins s σ H D I h
 refine wpAny_Assign_stores (thn (he pins s σ H _ I h) fun v s1 ⟨x,H1,I1,r1,q1⟩=>?_) hs hw
 rw[h1]
 exact thn (hg pins s1 σ H1 x v _ I1 r1 q1) fun _ s2 q=>q
theorem iJ{i:Nat}{x:Str}{e:N2}{te:TE}{pos':Pos}(hN:X.N.Nodup)(hi:X.N[i]?=some x)(hx:Loc X.env.scope x)(he:PE X e te)(hs:P' e (some (.Name x pos')) pos.line X.env=pure false:=by rfl)(hf:X.fn x=true\/X.env.scope.names.lookup x=some .local:=by first | exact .inl rfl | exact .inr rfl | assumption) :
  PS X (.Assign [.Name x pos'] e pos) (CM te (xq i)):=by
 intro pins s σ H D I h
 refine wpAny_Assign_Name (thn (he pins s σ H _ I h) fun v s1 ⟨y,H1,I1,r1,q1⟩=>?_) hs
 exact jQ I1 hN hi hx r1 (fun s2 I2=>⟨_,H1,I2,q1⟩) hf
def Jo(i j:Nat)(ta:TA):TS:=fun D σ H=>ta σ H fun vs H1=>∃ v w,vs=[v,w]/\D.nx ((σ.set i (some v)).set j (some w)) H1
theorem ED{i j:Nat}{x y:Str}{a b:N2}{ta:TA}{px py pt:Pos}{kt k2 pt2}(hc:X.calm=true)(hN:X.N.Nodup)(hi:X.N[i]?=some x)(hj:X.N[j]?=some y)(hij:i≠j)
  (hx:X.env.scope.names.lookup x=some .local) (hy:X.env.scope.names.lookup y=some .local) (ha:PA X [a,b] ta)
  (hw:Ra [.Tuple [.Name x px,.Name y py] kt pt] (.Tuple [a,b] k2 pt2) X.env=pure (some [x,y]))
  (hs:Q_ [.Tuple [.Name x px,.Name y py] kt pt] (.Tuple [a,b] k2 pt2) pos.line X.env=pure false:=by rfl) :
  PS X (.Assign [.Tuple [.Name x px,.Name y py] kt pt] (.Tuple [a,b] k2 pt2) pos) (Jo i j ta):=by
 intro pins s σ H D I h
 rw[exec_Assign_arm]
 refine NL (Pq ?_)
 rw[hs]
 refine NL (NP ?_)
 rw[if_neg (by decide)]
 refine NL (Tuple_ (thn (ha _ pins s σ H _ I h) ?_))
 rintro us s1 ⟨vs,H1,I1,r1,q1⟩
 obtain⟨v,w,e1,q1⟩:=q1
 subst e1
 obtain⟨u1,u2,rfl,rv,rw'⟩:∃ u1 u2,us=[u1,u2]/\RelV v u1/\RelV w u2:=by
  cases r1 with
  | cons p q=>
   cases q with
   | cons p' q'=>
    cases q'
    exact⟨_,_,rfl,p,p'⟩
 refine Ow ?_ (by show 2<=sizeLine;decide)
 have I2:Inv X pins σ H1 { s1 with heap:=s1.heap.push { cls:=.type "tuple",data:=.seq [u1,u2].toArray } }:=I1.kept (t':=s1.toks) fun b o e=>NR _ e
 rw[hw]
 refine NL (NP ?_)
 show NT (N1 X.prog X.w) X.A (do rule "assign.swapped-stores";let items <-unpackItems (.ref s1.heap.objs.size) 2 none;Q9 [fun v=>S3 X.env y v,fun v=>S3 X.env x v] items.reverse;pure Vs) _ _ _
 refine NL (PD (NL (unpackItems_tuple (items:=#[u1,u2]) (I.ok.hd hc) (Sx s1.heap _) fun h' hx'=>?_)))
 have I3:=I2.kept (h':=h') (t':=s1.toks) fun b o e=>hx' b o (yp (NY e)) e
 show NT _ _ (Q9 [fun v=>S3 X.env y v,fun v=>S3 X.env x v] [u2,u1] >>= fun _=>pure Vs) _ _ _
 refine NL (Q1 (TC (jQ I3 hN hj (.inl hy) rw' (fun s2 I4=>?_) (.inr hy))))
 refine Q1 (TC (jQ I4 hN hi (.inl hx) rv (fun s3 I5=>SJ (NP ?_)) (.inr hx)))
 rw[List.set_comm _ _ (Qj hij)]at I5
 exact⟨_,H1,I5,q1⟩
end
structure It where
 go:Nat->Hp->Prop
 yld:Nat->Hp->V->Hp->Prop
 stop:Nat->Hp->Prop
noncomputable def jA(X:Cx)(pins:List (NN × Obj))(H:Hp)(b:NN):Prop:=
 H b=none/\b≠X.env.locals/\b ∉ X.fs/\(b∈X.ex\/X.s₀.heap.objs.size<=b)/\(∀ x c,X.env.cells.lookup x=some c->c≠b)/\∀ p∈X.pn++pins,p.1≠b
theorem Inv.rO {X:Cx}{pins:List (NN × Obj)}{σ:St}{H H':Hp}{s:NO}{b:NN}(I:Inv X pins σ H s)(hb:s.heap.objs.size<=b)(hn:H' b=none):jA X pins H' b:=by
 refine⟨hn,Lb (u_ I.lt hb),I.JD hb,.inr (n_ I.sz hb),fun x c e z=>?_,fun p hp z=>?_⟩
 ·obtain⟨v,q⟩:=I.cell x c e
  exact absurd (u_ q.lt (by rw[z];exact hb)) (Km _)
 exact absurd (u_ (NY (I.pin p hp).1) (by rw[z];exact hb)) (Km _)
structure Turn (P:NW) (w:N3) (K:NM) (tg:N2) (J:It) (fp:List NN) (it:NN) (tn:Nat->N5->Prop):Prop where
 mem:it∈fp
 obj:∀ i h,tn i h->∀ b∈fp,∃ o,h.get? b=some o/\∀ v,o.data≠.cell v
 keep:∀ i h h',tn i h->(∀ b∈fp,∀ o,h.get? b=some o->h'.get? b=some o)->tn i h'
 item:∀(X:Cx),X.prog=P->X.w=w->X.K=K->X.calm=true->∀(i:Nat) (pins:List (NN × Obj)) (s:NO) (σ:St) (H:Hp) (E:NK->NO->Prop),Inv X pins σ H s->(∀ b∈fp,jA X pins H b)->tn i s.heap->J.go i H->
  NT (N1 P w) X.A (Qn (.ref it)) (fun r s1=>∃ u,r=some u/\
   NT (N1 P w) X.A (QD tg (.ref it) u) (fun _ s2=>∃ x H',Inv X pins σ H' s2/\RelV x u/\J.yld i H x H'/\tn (i + 1) s2.heap/\∀ b∈fp,H' b=none) E s1) E s
 done:∀(X:Cx),X.prog=P->X.w=w->X.K=K->X.calm=true->∀(i:Nat) (pins:List (NN × Obj)) (s:NO) (σ:St) (H:Hp) (E:NK->NO->Prop),Inv X pins σ H s->(∀ b∈fp,jA X pins H b)->tn i s.heap->J.stop i H->
  NT (N1 P w) X.A (Qn (.ref it)) (fun r s1=>r=none/\Inv X pins σ H s1) E s
 self:∀(A:N_) (i:Nat) (s:NO) (Q:NK->NO->Prop) (E:NK->NO->Prop),tn i s.heap->Q (.ref it) s->NT (N1 P w) A (RX (.ref it)) Q E s
abbrev TI:=St->Hp->(It->Hp->Prop)->Prop
noncomputable def PIE(X:Cx)(pins:List (NN × Obj))(σ:St)(tg:N2)(R:It->Hp->Prop)(itv:NK)(s2:NO):Prop:=
 ∃(it:NN) (fp:List NN) (tn:Nat->N5->Prop) (J:It) (H':Hp),itv=.ref it/\Inv X pins σ H' s2/\Turn X.prog X.w X.K tg J fp it tn/\tn 0 s2.heap/\(∀ b∈fp,jA X pins H' b)/\R J H'
noncomputable def PI(X:Cx)(tg iter:N2)(wi:TI):Prop:=
 ∀(pins:List (NN × Obj)) (s:NO) (σ:St) (H:Hp) (R:It->Hp->Prop),Inv X pins σ H s->wi σ H R->
  NT (N1 X.prog X.w) X.A (Og iter X.env) (fun v s1=>NT (N1 X.prog X.w) X.A (RX v) (PIE X pins σ tg R) X.xe s1) X.xe s
theorem vx{M:Pz}{A:N_}{E:NK->NO->Prop}{s:NO}{tg:N2}{it:NN}{u:NK}{o:Obj}{n:String}{vs:Array NK}{Q:Unit->NO->Prop}(ho:s.heap.get? it=some o)(hc:o.cls=.type n)(hd:o.data=.fields vs)
    (hn:["enumerate","zip","dict_itemiterator","dict_reverseitemiterator","odict_iterator","itertools.zip_longest","itertools.pairwise"].contains n=false) (hQ:Q () s):NT M A (QD tg (.ref it) u) Q E s:=by
  unfold QD
  cases tg <;> first
    | exact NP hQ
    | (cases u <;> first
        | exact NP hQ
        | (refine NL (wpAny_load ho ?_)
           rw[hc,hd]
           show NT M A (if(["enumerate","zip","dict_itemiterator","dict_reverseitemiterator","odict_iterator","itertools.zip_longest","itertools.pairwise"].contains n && vs[0]? == some (O' _))=true then _ else _) Q E s
           rw[if_neg (by intro h;rw[hn,Bool.false_and]at h;cases h)]
           exact NP hQ))
noncomputable def Itl(K:NM)(a:NN):It:=
 ⟨fun i H=>∃ xs x,SqL K H a xs/\xs[i]?=some x,fun i H x H'=>H'=H/\∀ xs,SqL K H a xs->xs[i]?=some x,fun i H=>∃ xs,SqL K H a xs/\xs.length<=i⟩
noncomputable def Itt(K:NM)(a:NN):It:=
 ⟨fun i H=>∃ xs x,SqT K H a xs/\xs[i]?=some x,fun i H x H'=>H'=H/\∀ xs,SqT K H a xs->xs[i]?=some x,fun i H=>∃ xs,SqT K H a xs/\xs.length<=i⟩
def Itr(lo:Int)(n:Nat):It:=⟨fun i _=>i < n,fun i H x H'=>H'=H/\x=.int (lo + i),fun i _=>n<=i⟩
theorem yK{P:NW}{w:N3}{K:NM}{tg:N2}(a it:NN):Turn P w K tg (Itl K a) [it] it (fun i h=>h.IsListIter it a i) where
 mem:=by simp
 obj:=fun i h st b hb=>by
  have e:b=it:=by simpa using hb
  subst e
  obtain⟨o,e,c,d⟩:=st
  exact⟨o,e,fun v z=>by rw[d]at z;cases z⟩
 keep:=fun i h h' st k=>st.at fun o e=>k it (by simp) o e
 item:=by
  intro X hP hw hK hc i pins s σ H E I hf st hg
  subst hP hw hK
  obtain⟨xs,x,hq,hx⟩:=hg
  obtain⟨its,rv,p,hz⟩:=I.list hq
  obtain⟨u,hu,ru⟩:=rv.get hx
  obtain⟨f0,f1,f2,f3,f4,f5⟩:=hf it (by simp)
  refine wpAny_pyNext_list_item st p.isList (x:=u) (by simpa using hu) fun h' st' sb=>?_
  have I1:Inv X pins σ H { s with heap:=h' }:=I.turned (t':=s.toks) (fun b o hb e=>(sb.2 b hb).trans e) f0 f1 f3 f4 f5
  obtain⟨o,e,c,d⟩:=id st'
  exact⟨u,rfl,vx (s:={ s with heap:=h' }) e c d (by decide) ⟨x,H,I1,ru,⟨rfl,fun ys hy=>by rw[I.nC hy hq];exact hx⟩,st',fun b hb=>(hf b hb).1⟩⟩
 done:=by
  intro X hP hw hK hc i pins s σ H E I hf st hg
  subst hP hw hK
  obtain⟨xs,hq,hx⟩:=hg
  obtain⟨its,rv,p,hz⟩:=I.list hq
  obtain⟨f0,f1,f2,f3,f4,f5⟩:=hf it (by simp)
  have hl:=rv.length
  exact wpAny_pyNext_list_end (I.ok.hd hc) st p.isList (by simp;lia) fun h' eb=>⟨rfl,I.turned (t':=s.toks) (fun b o hb e=>eb b o hb e) f0 f1 f3 f4 f5⟩
 self:=fun _ _ _ _ _ st h=>wpAny_pyIter_listiter st h
theorem uz{P:NW}{w:N3}{K:NM}{tg:N2}(a it:NN):Turn P w K tg (Itt K a) [it] it (fun i h=>h.IsTupleIter it a i) where
 mem:=by simp
 obj:=fun i h st b hb=>by
  have e:b=it:=by simpa using hb
  subst e
  obtain⟨o,e,c,d⟩:=st
  exact⟨o,e,fun v z=>by rw[d]at z;cases z⟩
 keep:=fun i h h' st k=>st.at fun o e=>k it (by simp) o e
 item:=by
  intro X hP hw hK hc i pins s σ H E I hf st hg
  subst hP hw hK
  obtain⟨xs,x,hq,hx⟩:=hg
  obtain⟨its,rv,p,hz⟩:=I.tuple hq
  obtain⟨u,hu,ru⟩:=rv.get hx
  obtain⟨f0,f1,f2,f3,f4,f5⟩:=hf it (by simp)
  refine wpAny_pyNext_tuple_item st (show s.heap.IsTuple a its.toArray from p) (x:=u) (by simpa using hu) fun h' st' sb=>?_
  have I1:Inv X pins σ H { s with heap:=h' }:=I.turned (t':=s.toks) (fun b o hb e=>(sb.2 b hb).trans e) f0 f1 f3 f4 f5
  obtain⟨o,e,c,d⟩:=id st'
  exact⟨u,rfl,vx (s:={ s with heap:=h' }) e c d (by decide) ⟨x,H,I1,ru,⟨rfl,fun ys hy=>by rw[I.iS hy hq];exact hx⟩,st',fun b hb=>(hf b hb).1⟩⟩
 done:=by
  intro X hP hw hK hc i pins s σ H E I hf st hg
  subst hP hw hK
  obtain⟨xs,hq,hx⟩:=hg
  obtain⟨its,rv,p,hz⟩:=I.tuple hq
  obtain⟨f0,f1,f2,f3,f4,f5⟩:=hf it (by simp)
  have hl:=rv.length
  exact wpAny_pyNext_tuple_end (I.ok.hd hc) st (show s.heap.IsTuple a its.toArray from p) (by simp;lia) fun h' eb=>⟨rfl,I.turned (t':=s.toks) (fun b o hb e=>eb b o hb e) f0 f1 f3 f4 f5⟩
 self:=fun _ _ _ _ _ st h=>wpAny_pyIter_tupleiter st h
theorem ue{P:NW}{w:N3}{K:NM}{tg:N2}(it:NN)(lo:Int)(n:Nat):Turn P w K tg (Itr lo n) [it] it (fun i h=>U5 h it (lo + (i:Nat) * 1) ((n:Int) - (i:Nat)) 1) where
 mem:=by simp
 obj:=fun i h st b hb=>by
  have e:b=it:=by simpa using hb
  subst e
  exact⟨_,st,fun v z=>by
   have z':SU _=RH v:=z
   cases z'⟩
 keep:=fun i h h' st k=>k it (by simp) _ st
 item:=by
  intro X hP hw hK hc i pins s σ H E I hf st hg
  subst hP hw hK
  obtain⟨f0,f1,f2,f3,f4,f5⟩:=hf it (by simp)
  have W:=Walks.range (prog:=X.prog) (w:=X.w) (I.ok.hd hc) it lo 1 n
  refine W.item i s _ _ hg st fun v h' tk hv st' kk=>?_
  obtain⟨t,rfl⟩:=hv
  have I1:Inv X pins σ H { s with heap:=h',toks:=tk }:=I.turned (fun b o hb e=>kk b o (by simpa using hb) e) f0 f1 f3 f4 f5
  refine⟨_,rfl,vx (s:={ s with heap:=h',toks:=tk }) (n:="range_iterator") st' rfl rfl (by decide) ⟨.int (lo + i),H,I1,⟨t,?_⟩,⟨rfl,rfl⟩,st',fun b hb=>(hf b hb).1⟩⟩
  rw[Int.mul_one]
 done:=by
  intro X hP hw hK hc i pins s σ H E I hf st hg
  subst hP hw hK
  obtain⟨f0,f1,f2,f3,f4,f5⟩:=hf it (by simp)
  exact wpAny_pyNext_range_end (I.ok.hd hc) st (by have:n<=i:=hg;lia) fun h' eb=>⟨rfl,I.turned (t':=s.toks) (fun b o hb e=>eb b o hb e) f0 f1 f3 f4 f5⟩
 self:=fun _ _ _ _ _ st h=>wpAny_pyIter_rangeiter st h
section
variable{X:Cx}{tg:N2}
theorem tW{pins:List (NN × Obj)}{σ:St}{H:Hp}{s:NO}{R:It->Hp->Prop}{E:NK->NO->Prop}{lo hi:Int}{t u v:Tok}{tk:Nat}(I:Inv X pins σ H s)(h1:-(2 ^ 62)<=lo)(h2:lo < 2 ^ 62)(h3:-(2 ^ 62)<=hi)(h4:hi < 2 ^ 62)
  (q:R (Itr lo (hi - lo).toNat) H):NT (N1 X.prog X.w) X.A (RX (.ref s.heap.objs.size)) (PIE X pins σ tg R) E { s with heap:=s.heap.push { cls:=.type "range",data:=.fields #[.int lo t,.int hi u,.int 1 v] },toks:=tk }:=by
 refine wpAny_pyIter_range (IsRange.new ..) (small_one h1 h2 h3 h4) ?_
 have I1:Inv X pins σ H { s with heap:=s.heap.push { cls:=.type "range",data:=.fields #[.int lo t,.int hi u,.int 1 v] },toks:=tk }:=I.kept fun b o e=>NR _ e
 refine⟨(s.heap.push { cls:=.type "range",data:=.fields #[.int lo t,.int hi u,.int 1 v] }).objs.size,[(s.heap.push { cls:=.type "range",data:=.fields #[.int lo t,.int hi u,.int 1 v] }).objs.size],_,_,H,rfl,
  I1.kept (t':=tk) fun b o e=>NR _ e,ue _ lo (hi - lo).toNat,?_,fun b hb=>?_,q⟩
 ·have e1:lo + ((0:Nat):Int) * 1=lo:=by simp
  have e2:(((hi - lo).toNat:Nat):Int) - ((0:Nat):Int)=UX lo hi 1:=by rw[rangeSize_one];split <;> lia
  show U5 _ _ (lo + ((0:Nat):Int) * 1) ((((hi - lo).toNat:Nat):Int) - ((0:Nat):Int)) 1
  rw[e1,e2]
  exact N0 _ rfl
 have e:b=(s.heap.push { cls:=.type "range",data:=.fields #[.int lo t,.int hi u,.int 1 v] }).objs.size:=by simpa using hb
 subst e
 exact I1.rO (c_ _) (I1.hok.fresh (c_ _))
noncomputable def Io(ta:TA):TI:=fun σ H R=>ta σ H fun vs H1=>∃ j:Int,vs=[.int j]/\-(2 ^ 62)<=j/\j < 2 ^ 62/\R (Itr 0 j.toNat) H1
noncomputable def Hb(ta:TA):TI:=fun σ H R=>ta σ H fun vs H1=>∃ i j:Int,vs=[.int i,.int j]/\(-(2 ^ 62)<=i/\i < 2 ^ 62/\-(2 ^ 62)<=j/\j < 2 ^ 62)/\R (Itr i (j - i).toNat) H1
theorem xU{a:N2}{ta:TA}{p pos:Pos}(hg:Gl X "range")(hm:X.mg "range"=none)(ha:PA X [a] ta)(hs:N7 [a] X.env=[(false,Og a X.env)]:=by rfl):PI X tg (.Call (.Name "range" p) [a] [] pos) (Io ta):=by
 intro pins s σ H R I h
 refine Vk (jr I hg hm boot_range (OR (thn (ha pos pins s σ H _ I h) fun us s1 ⟨vs,H1,I1,r1,q1⟩=>?_) hs rfl))
 obtain⟨j,e,q1,q2,q⟩:=q1
 subst e
 cases r1 with
 | cons r rr=>
  cases rr
  obtain⟨t,rfl⟩:=r
  exact call_range_1 (tW I1 (by lia) (by lia) q1 q2 (by simpa using q))
theorem xV{a b:N2}{ta:TA}{p pos:Pos}(hg:Gl X "range")(hm:X.mg "range"=none)(ha:PA X [a,b] ta)(hs:N7 [a,b] X.env=[(false,Og a X.env),(false,Og b X.env)]:=by rfl)(hs2:N7 [b] X.env=[(false,Og b X.env)]:=by rfl) :
  PI X tg (.Call (.Name "range" p) [a,b] [] pos) (Hb ta):=by
 intro pins s σ H R I h
 refine Vk (jr I hg hm boot_range (OR (thn (ha pos pins s σ H _ I h) fun us s1 ⟨vs,H1,I1,r1,q1⟩=>?_) (by rw[hs,hs2]) (by rw[hs2];rfl)))
 obtain⟨i,j,e,⟨q1,q2,q3,q4⟩,q⟩:=q1
 subst e
 cases r1 with
 | cons r rr=>
  cases rr with
  | cons r' rr=>
   cases rr
   obtain⟨t,rfl⟩:=r
   obtain⟨t',rfl⟩:=r'
   exact call_range_2 (tW I1 q1 q2 q3 q4 q)
noncomputable def Jy(wi:TI)(g:TG)(tb:TS):TS:=fun D σ H=>wi σ H fun J H1=>∃ W:Nat->Nat->St->Hp->Prop,(∃ m,W 0 m σ H1)/\∀ i m σ H,W i m σ H->
 (J.stop i H/\D.nx σ H)\/(J.go i H/\∃ N:St->Hp->Prop,(∀ σ' H',N σ' H'->∃ m',m' < m/\W (i + 1) m' σ' H')/\∀ x H',J.yld i H x H'->g x σ H' fun σ2 H2=>tb { D with nx:=N,ct:=N,bk:=D.nx } σ2 H2)
def kE(fp:List NN)(h:N5):List (NN × Obj):=fp.filterMap fun b=>(h.get? b).map fun o=>(b,o)
theorem fg{fp:List NN}{h:N5}{b:NN}{o:Obj}(hb:b∈fp)(e:h.get? b=some o):(b,o)∈kE fp h:=MW.mpr ⟨b,hb,by rw[e];rfl⟩
theorem ya{fp:List NN}{h:N5}{p:NN × Obj}(hp:p∈kE fp h):p.1∈fp/\h.get? p.1=some p.2:=by
 obtain⟨b,hb,e⟩:=MW.mp hp
 cases q:h.get? b with
 | none=>rw[q]at e;cases e
 | some o=>
  rw[q]at e
  have e':(b,o)=p:=G_ e
  subst e'
  exact⟨hb,q⟩
theorem Inv.pinned {pins:List (NN × Obj)}{σ:St}{H:Hp}{s:NO}{fp:List NN}(I:Inv X pins σ H s)(hf:∀ b∈fp,jA X pins H b)(ho:∀ b∈fp,∃ o,s.heap.get? b=some o/\∀ v,o.data≠.cell v):Inv X (pins++kE fp s.heap) σ H s:=
 I.vY fun p hp=>(D_.mp hp).elim (fun z=>I.pin p (q_ _ z)) fun z=>by
  obtain⟨hb,e⟩:=ya z
  obtain⟨f0,f1,f2,_⟩:=hf p.1 hb
  obtain⟨o,e',d⟩:=ho p.1 hb
  rw[e]at e';cases e'
  exact⟨e,f0,f1,f2,d⟩
theorem Inv.iA {pins pl:List (NN × Obj)}{σ:St}{H:Hp}{s:NO}(I:Inv X (pins++pl) σ H s):Inv X pins σ H s:=I.vY fun p hp=>I.pin p (q_ _ (JJ _ hp))
theorem FD{iter:N2}{body:List Of}{wi:TI}{g:TG}{tb:TS}{pos:Pos}(hp:PassesOwn (N1 X.prog X.w) X.A X.env X.xe)(hc:X.calm=true)(hi:PI X tg iter wi)(hg:PG X tg g)(hb:PSs X body tb)
  (hs:∀ x,OC iter X.env x=pure x:=by intro _;rfl):PS X (.For tg iter body [] pos) (Jy wi g tb):=by
 intro pins s σ H D I h
 refine wpAny_For (thn (hi pins s σ H _ I h) fun v s1 h1=>thn h1 fun itv s2 h2=>?_) hs
 obtain⟨it,fp,tn,J,H2,e,I2,T,st2,f2,W,⟨m0,w0⟩,turn⟩:=h2
 subst e
 have stat:∀ {H':Hp},(∀ b∈fp,H' b=none)->∀ b∈fp,jA X pins H' b:=fun hn b hb=>⟨hn b hb,(f2 b hb).2⟩
 refine codeAny_forLoop_any (fun n s'=>∃ i σ' H',Inv X pins σ' H' s'/\tn i s'.heap/\(∀ b∈fp,H' b=none)/\W i n σ' H') ?_ m0 ⟨0,σ,H2,I2,st2,fun b hb=>(f2 b hb).1,w0⟩
 rintro n s3 ⟨i,σ3,H3,I3,st3,fr3,w3⟩
 rcases turn i n σ3 H3 w3 with⟨stop,qn⟩ | ⟨go,N,hN,step⟩
 ·refine P6 hp (thn (T.done X rfl rfl rfl hc i pins s3 σ3 H3 X.xe I3 (stat fr3) st3 stop) ?_)
  rintro r s4 ⟨hr,I4⟩
  subst hr
  exact RG ⟨σ3,H3,I4,qn⟩
 refine P6 hp (thn (T.item X rfl rfl rfl hc i pins s3 σ3 H3 X.xe I3 (stat fr3) st3 go) ?_)
 rintro r s4 ⟨u,hr,h4⟩
 subst hr
 refine P6 hp (thn h4 ?_)
 rintro _ s5 ⟨x,H5,I5,r5,y5,st5,fr5⟩
 have I5':=I5.pinned (stat fr5) (T.obj _ _ st5)
 refine P6 hp (thn (hg _ s5 σ3 H5 x u _ I5' r5 (step x H5 y5)) ?_)
 rintro _ s6 ⟨σ6,H6,I6,q6⟩
 refine P6 hp (thn (hb _ s6 σ6 H6 _ I6 q6) fun f s7 q7=>?_)
 have again:∀ {σ7:St} {H7:Hp},Inv X (pins++kE fp s5.heap) σ7 H7 s7->N σ7 H7->∃ m,m < n/\∃ i σ' H',Inv X pins σ' H' s7/\tn i s7.heap/\(∀ b∈fp,H' b=none)/\W i m σ' H':=fun{σ7 H7} I7 n7=>by
  obtain⟨m',hm,w7⟩:=hN σ7 H7 n7
  refine⟨m',hm,i + 1,σ7,H7,I7.iA,T.keep _ _ _ st5 fun b hb o e=>(I7.pin (b,o) (q_ _ (q_ _ (fg hb e)))).1,fun b hb=>?_,w7⟩
  obtain⟨o,e,d⟩:=T.obj _ _ st5 b hb
  exact(I7.pin (b,o) (q_ _ (q_ _ (fg hb e)))).2.1
 cases f with
 | next=>obtain⟨σ7,H7,I7,n7⟩:=q7;exact again I7 n7
 | cont=>obtain⟨σ7,H7,I7,n7⟩:=q7;exact again I7 n7
 | brk=>obtain⟨σ7,H7,I7,q7⟩:=q7;exact⟨σ7,H7,I7.iA,q7⟩
 | ret v=>obtain⟨x7,σ7,H7,I7,r7,q7⟩:=q7;exact⟨x7,σ7,H7,I7.iA,r7,q7⟩
end
abbrev R2:=V->V->Hp->VK->Prop
def OpR(X:Cx)(f:NK->NK->Sem NK)(r:R2):Prop:=
 ∀(pins:List (NN × Obj)) (s:NO) (σ:St) (H:Hp) (x y:V) (v u:NK) (Q:VK),Inv X pins σ H s->RelV x v->RelV y u->r x y H Q->
  NT (N1 X.prog X.w) X.A (f v u) (EP X pins σ Q) X.xe s
def UnR(X:Cx)(f:NK->Sem NK)(r:V->Hp->VK->Prop):Prop:=
 ∀(pins:List (NN × Obj)) (s:NO) (σ:St) (H:Hp) (x:V) (v:NK) (Q:VK),Inv X pins σ H s->RelV x v->r x H Q->
  NT (N1 X.prog X.w) X.A (f v) (EP X pins σ Q) X.xe s
def bG(X:Cx)(f:NK)(r:List V->Hp->VK->Prop):Prop:=
 ∀(pins:List (NN × Obj)) (s:NO) (σ:St) (H:Hp) (xs:List V) (us:List NK) (Q:VK),Inv X pins σ H s->Vals xs us->r xs H Q->
  NT (N1 X.prog X.w) X.A (call f us) (EP X pins σ Q) X.xe s
def JA(X:Cx)(r:V->Hp->(Bool->Hp->Prop)->Prop):Prop:=
 ∀(pins:List (NN × Obj)) (s:NO) (σ:St) (H:Hp) (x:V) (v:NK) (Q:Bool->Hp->Prop),Inv X pins σ H s->RelV x v->r x H Q->
  NT (N1 X.prog X.w) X.A (Uv v) (TP X pins σ Q) X.xe s
def tOp(r:R2)(ta tb:TE):TE:=fun σ H Q=>ta σ H fun x H1=>tb σ H1 fun y H2=>r x y H2 Q
def tUn(r:V->Hp->VK->Prop)(ta:TE):TE:=fun σ H Q=>ta σ H fun x H1=>r x H1 Q
def rI(C:Int->Int->Prop)(g:Int->Int->V):R2:=fun x y H Q=>∃ i j,x=.int i/\y=.int j/\C i j/\Q (g i j) H
def rI0(g:Int->Int->V):R2:=fun x y H Q=>∃ i j,x=.int i/\y=.int j/\Q (g i j) H
def rU(g:Int->V):V->Hp->VK->Prop:=fun x H Q=>∃ i,x=.int i/\Q (g i) H
section
variable{X:Cx}{a b c:N2}{ta tb tc:TE}{pos:Pos}
theorem Fq(ha:PE X a ta)(hb:PE X b tb){pins:List (NN × Obj)}{s:NO}{σ:St}{H:Hp}{R:V->V->Hp->Prop}(I:Inv X pins σ H s)
  (h:ta σ H fun x H1=>tb σ H1 fun y H2=>R x y H2) {Q:NK->NO->Prop} {f:NK->NK->Sem NK}
  (hf:∀ v u s2 x y H2,Inv X pins σ H2 s2->RelV x v->RelV y u->R x y H2->NT (N1 X.prog X.w) X.A (f v u) Q X.xe s2) :
  NT (N1 X.prog X.w) X.A (Og a X.env) (fun v s₁=>NT (N1 X.prog X.w) X.A (Og b X.env) (fun u s₂=>NT (N1 X.prog X.w) X.A (f v u) Q X.xe s₂) X.xe s₁) X.xe s:=by
 refine thn (ha pins s σ H _ I h) ?_
 rintro v s1 ⟨x,H1,I1,r1,q1⟩
 refine thn (hb pins s1 σ H1 _ I1 q1) ?_
 rintro u s2 ⟨y,H2,I2,r2,q2⟩
 exact hf v u s2 x y H2 I2 r1 r2 q2
theorem eV{op:Operator}{r:R2}(ho:OpR X (OM op) r)(ha:PE X a ta)(hb:PE X b tb):PE X (.BinOp a op b pos) (tOp r ta tb):=by
 intro pins s σ H Q I h
 exact wpAny_BinOp (Fq ha hb I h fun v u s2 x y H2 I2 rx ry q=>ho pins s2 σ H2 x y v u Q I2 rx ry q)
theorem Ip{op:UnaryOp}{r:V->Hp->VK->Prop}(ho:UnR X (unaryOp op) r)(ha:PE X a ta):PE X (.UnaryOp op a pos) (tUn r ta):=by
 intro pins s σ H Q I h
 exact UnaryOp_ (thn (ha pins s σ H _ I h) fun v s1 ⟨x,H1,I1,r1,q1⟩=>ho pins s1 σ H1 x v Q I1 r1 q1)
theorem opI{f:NK->NK->Sem NK}{C:Int->Int->Prop}{g:Int->Int->Int}
  (rule:∀(i j:Int) (t u:Tok) (s:NO) (Q:NK->NO->Prop) (E:NK->NO->Prop),C i j->Q (.int (g i j) s.toks) { s with toks:=s.toks + 1 }->NT (N1 X.prog X.w) X.A (f (.int i t) (.int j u)) Q E s) :
  OpR X f (rI C fun i j=>.int (g i j)):=by
 intro pins s σ H x y v u Q I rx ry h
 obtain⟨i,j,rfl,rfl,hc,q⟩:=h
 obtain⟨t,rfl⟩:=rx
 obtain⟨t',rfl⟩:=ry
 exact rule i j t t' s _ _ hc ⟨.int (g i j),H,I.tok _,⟨_,rfl⟩,q⟩
theorem IC{f:NK->NK->Sem NK}{g:Int->Int->Int}
  (rule:∀(i j:Int) (t u:Tok) (s:NO) (Q:NK->NO->Prop) (E:NK->NO->Prop),Q (.int (g i j) s.toks) { s with toks:=s.toks + 1 }->NT (N1 X.prog X.w) X.A (f (.int i t) (.int j u)) Q E s) :
  OpR X f (rI0 fun i j=>.int (g i j)):=by
 intro pins s σ H x y v u Q I rx ry h
 obtain⟨i,j,rfl,rfl,q⟩:=h
 obtain⟨t,rfl⟩:=rx
 obtain⟨t',rfl⟩:=ry
 exact rule i j t t' s _ _ ⟨.int (g i j),H,I.tok _,⟨_,rfl⟩,q⟩
theorem Dm{f:NK->NK->Sem NK}{g:Int->Int->Bool}
  (rule:∀(i j:Int) (t u:Tok) (s:NO) (Q:NK->NO->Prop) (E:NK->NO->Prop),Q (.bool (g i j)) s->NT (N1 X.prog X.w) X.A (f (.int i t) (.int j u)) Q E s) :
  OpR X f (rI0 fun i j=>.bl (g i j)):=by
 intro pins s σ H x y v u Q I rx ry h
 obtain⟨i,j,rfl,rfl,q⟩:=h
 obtain⟨t,rfl⟩:=rx
 obtain⟨t',rfl⟩:=ry
 exact rule i j t t' s _ _ ⟨.bl (g i j),H,I,rfl,q⟩
def DJ(i j:Int):Prop:=0 < j/\j < 1073741824
def Jh(i j:Int):Prop:=0<=j/\j<=1000000/\i.natAbs < 2 ^ 64
def uw(i j:Int):Prop:=(-(2 ^ 64) < i/\i < 2 ^ 64)\/(-(2 ^ 64) < j/\j < 2 ^ 64)
theorem uw.ok {i j:Int}(h:uw i j):IntMulOk i j:=by
 rcases h with⟨h1,h2⟩ | ⟨h1,h2⟩
 ·exact .of_left (T8 h1 h2)
 exact .of_right (T8 h1 h2)
theorem mU:OpR X (OM .Add) (rI0 fun i j=>.int (i + j)):=IC fun _ _ _ _ _ _ _ q=>add_int q
theorem ER:OpR X (OM .Sub) (rI0 fun i j=>.int (i - j)):=IC fun _ _ _ _ _ _ _ q=>sub_int q
theorem jx:OpR X (OM .Mult) (rI uw fun i j=>.int (i * j)):=opI fun _ _ _ _ _ _ _ hc q=>mul_int q hc.ok
theorem x6:OpR X (OM .FloorDiv) (rI DJ fun i j=>.int (i / j)):=opI fun i j _ _ _ _ _ hc q=>by
 have h1:(0:Int) < j:=hc.1
 have h2:j < 1073741824:=hc.2
 exact floordiv_int (by lia) (by rw[L9 i (by lia)];exact q) (.inl (RM (by lia)))
theorem jl:OpR X (OM .Mod) (rI (fun _ j=>0 < j) fun i j=>.int (i % j)):=opI fun i j _ _ _ _ _ hc q=>by
 have h1:(0:Int) < j:=hc
 exact mod_int' (by lia) (by rw[L_ i (by lia)];exact q)
theorem EF:OpR X (OM .Pow) (rI Jh fun i j=>.int (i ^ j.toNat)):=opI fun _ _ _ _ _ _ _ hc q=>pow_int_small hc.1 hc.2.1 hc.2.2 q
theorem unI{f:NK->Sem NK}{g:Int->Int}
  (rule:∀(i:Int) (t:Tok) (s:NO) (Q:NK->NO->Prop) (E:NK->NO->Prop),Q (.int (g i) s.toks) { s with toks:=s.toks + 1 }->NT (N1 X.prog X.w) X.A (f (.int i t)) Q E s) :
  UnR X f (rU fun i=>.int (g i)):=by
 intro pins s σ H x v Q I rx h
 obtain⟨i,rfl,q⟩:=h
 obtain⟨t,rfl⟩:=rx
 exact rule i t s _ _ ⟨.int (g i),H,I.tok _,⟨_,rfl⟩,q⟩
theorem ET:UnR X (unaryOp .USub) (rU fun i=>.int (-i)):=unI fun _ _ _ _ _ q=>neg_int q
end
def Ie:V->V->Bool
 | .non,.non=>true | .non,.int _=>true | .int _,.non=>true | .non,.bl _=>true | .bl _,.non=>true | .non,.str _=>true | .str _,.non=>true
 | .int _,.int _=>true | .bl _,.bl _=>true | .str _,.str _=>true | .byt _,.byt _=>true
 | .int _,.str _=>true | .str _,.int _=>true | .bl _,.str _=>true | .str _,.bl _=>true
 | _,_=>false
def rEq:R2:=fun x y H Q=>Ie x y=true/\Q (.bl (decide (x=y))) H
def rNe:R2:=fun x y H Q=>Ie x y=true/\Q (.bl (!decide (x=y))) H
theorem vP{i j:Int}:decide (V.int i=V.int j)=(i == j):=by
 rw[LQ]
 simp
theorem Aq{i j:Bool}:decide (V.bl i=V.bl j)=(i == j):=by
 rw[LQ]
 simp
theorem wo{i j:Str}:decide (V.str i=V.str j)=(i == j):=by
 rw[LQ]
 simp
theorem wJ{i j:Array UInt8}:decide (V.byt i=V.byt j)=(i.toList == j.toList):=by
 rw[LQ]
 cases i
 cases j
 simp
section
variable{X:Cx}{a b c:N2}{ta tb tc:TE}{pos:Pos}
theorem aX{pins:List (NN × Obj)}{σ:St}{H:Hp}{s:NO}{Q:VK}{k k':Bool}(I:Inv X pins σ H s)(q:Q (.bl k) H)(e:k=k'):EP X pins σ Q (.bool k') s:=by
 subst e
 exact⟨.bl k,H,I,rfl,q⟩
theorem DO:OpR X (Ob .Eq) rEq:=by
 intro pins s σ H x y v u Q I rx ry h
 obtain⟨hs,q⟩:=h
 cases x with
 | non=>
  cases rx
  cases y with
  | non=>cases ry;exact Uh (aX I q (by simp))
  | bl j=>cases ry;exact Ui (aX I q (by simp))
  | int j=>obtain⟨t',rfl⟩:=ry;exact Ux (aX I q (by simp))
  | str j=>obtain⟨t',rfl⟩:=ry;exact Uy (aX I q (by simp))
  | _=>exact absurd (show false=true from hs) A'
 | bl i=>
  cases rx
  cases y with
  | non=>cases ry;exact Uj (aX I q (by simp))
  | bl j=>cases ry;exact eq_bool (aX I q Aq)
  | str j=>obtain⟨t',rfl⟩:=ry;exact Uk (aX I q (by simp))
  | _=>exact absurd (show false=true from hs) A'
 | int i=>
  obtain⟨t,rfl⟩:=rx
  cases y with
  | non=>cases ry;exact Uz (aX I q (by simp))
  | int j=>obtain⟨t',rfl⟩:=ry;exact eq_int (aX I q vP)
  | str j=>obtain⟨t',rfl⟩:=ry;exact UA (aX I q (by simp))
  | _=>exact absurd (show false=true from hs) A'
 | str i=>
  obtain⟨t,rfl⟩:=rx
  cases y with
  | non=>cases ry;exact UB (aX I q (by simp))
  | bl j=>cases ry;exact Ul (aX I q (by simp))
  | int j=>obtain⟨t',rfl⟩:=ry;exact UC (aX I q (by simp))
  | str j=>obtain⟨t',rfl⟩:=ry;exact eq_str (aX I q wo)
  | _=>exact absurd (show false=true from hs) A'
 | byt i=>
  obtain⟨t,rfl⟩:=rx
  cases y with
  | byt j=>obtain⟨t',rfl⟩:=ry;exact PySem.W.eq_bytes (aX I q wJ)
  | _=>exact absurd (show false=true from hs) A'
 | _=>cases y <;> exact absurd (show false=true from hs) A'
theorem Al:OpR X (Ob .NotEq) rNe:=by
 intro pins s σ H x y v u Q I rx ry h
 obtain⟨hs,q⟩:=h
 cases x with
 | non=>
  cases rx
  cases y with
  | non=>cases ry;exact Um (aX I q (by simp))
  | bl j=>cases ry;exact Uo (aX I q (by simp))
  | int j=>obtain⟨t',rfl⟩:=ry;exact UD (aX I q (by simp))
  | str j=>obtain⟨t',rfl⟩:=ry;exact UE (aX I q (by simp))
  | _=>exact absurd (show false=true from hs) A'
 | bl i=>
  cases rx
  cases y with
  | non=>cases ry;exact Up (aX I q (by simp))
  | bl j=>cases ry;exact ne_bool (aX I q (congrArg not Aq))
  | str j=>obtain⟨t',rfl⟩:=ry;exact Uq (aX I q (by simp))
  | _=>exact absurd (show false=true from hs) A'
 | int i=>
  obtain⟨t,rfl⟩:=rx
  cases y with
  | non=>cases ry;exact UG (aX I q (by simp))
  | int j=>obtain⟨t',rfl⟩:=ry;exact ne_int (aX I q (congrArg not vP))
  | str j=>obtain⟨t',rfl⟩:=ry;exact UH (aX I q (by simp))
  | _=>exact absurd (show false=true from hs) A'
 | str i=>
  obtain⟨t,rfl⟩:=rx
  cases y with
  | non=>cases ry;exact UI (aX I q (by simp))
  | bl j=>cases ry;exact Ur (aX I q (by simp))
  | int j=>obtain⟨t',rfl⟩:=ry;exact UJ (aX I q (by simp))
  | str j=>obtain⟨t',rfl⟩:=ry;exact ne_str (aX I q (congrArg not wo))
  | _=>exact absurd (show false=true from hs) A'
 | byt i=>
  obtain⟨t,rfl⟩:=rx
  cases y with
  | byt j=>obtain⟨t',rfl⟩:=ry;exact PySem.W.ne_bytes (aX I q (congrArg not wJ))
  | _=>exact absurd (show false=true from hs) A'
 | _=>cases y <;> exact absurd (show false=true from hs) A'
theorem IB:OpR X (Ob .Lt) (rI0 fun i j=>.bl (decide (i < j))):=Dm fun _ _ _ _ _ _ _ q=>lt_int q
theorem IW:OpR X (Ob .LtE) (rI0 fun i j=>.bl (decide (i<=j))):=Dm fun _ _ _ _ _ _ _ q=>le_int q
theorem IQ:OpR X (Ob .Gt) (rI0 fun i j=>.bl (decide (j < i))):=Dm fun _ _ _ _ _ _ _ q=>gt_int q
theorem IZ:OpR X (Ob .GtE) (rI0 fun i j=>.bl (decide (j<=i))):=Dm fun _ _ _ _ _ _ _ q=>ge_int q
theorem EK:OpR X (Ob .Is) (fun x y H Q=>y=.non/\Q (.bl (decide (x=.non))) H):=by
 intro pins s σ H x y v u Q I rx ry h
 obtain⟨rfl,q⟩:=h
 cases ry
 refine U3 (aX I q ?_)
 cases x <;> first
  | (cases rx;rfl)
  | (obtain⟨t,rfl⟩:=rx;rfl)
theorem C6:OpR X (Ob .IsNot) (fun x y H Q=>y=.non/\Q (.bl (!decide (x=.non))) H):=by
 intro pins s σ H x y v u Q I rx ry h
 obtain⟨rfl,q⟩:=h
 cases ry
 refine isnot_none_gen (aX I q ?_)
 cases x <;> first
  | (cases rx;rfl)
  | (obtain⟨t,rfl⟩:=rx;rfl)
theorem aL(b:N2){op:Qs}(h:op≠.In:=by decide)(h2:op≠.NotIn:=by decide):OW op b=false:=by
 have e1:(op == Vz)=false:=by cases op <;> first | rfl | exact absurd rfl h
 have e2:(op == U2)=false:=by cases op <;> first | rfl | exact absurd rfl h2
 cases b <;> simp[OW,e1,e2]
theorem qO{op:Qs}{r:R2}(ho:OpR X (Ob op) r)(ha:PE X a ta)(hb:PE X b tb)(hm:OW op b=false):PE X (.Compare a [op] [b] pos) (tOp r ta tb):=by
 intro pins s σ H Q I h
 exact Tz (Fq ha hb I h fun v u s2 x y H2 I2 rx ry q=>ho pins s2 σ H2 x y v u Q I2 rx ry q) hm
def Ar(t:TE):TT:=fun σ H Q=>t σ H fun x H'=>∃ k,x=.bl k/\Q k H'
theorem j5{op:Qs}{r:R2}(ho:OpR X (Ob op) r)(ha:PE X a ta)(hb:PE X b tb)(hm:OW op b=false):PT X (.Compare a [op] [b] pos) (Ar (tOp r ta tb)):=by
 intro pins s σ H Q I h
 refine RW (thn (ha pins s σ H _ I h) fun v s1 ⟨x,H1,I1,r1,q1⟩=>thn (hb pins s1 σ H1 _ I1 q1) fun u s2 ⟨y,H2,I2,r2,q2⟩=>
  thn (ho pins s2 σ H2 x y v u _ I2 r1 r2 q2) fun c s3 ⟨z,H3,I3,r3,k,e,q3⟩=>?_) hm
 subst e
 cases r3
 exact Oo ⟨H3,I3,q3⟩
def v3(r r':R2)(ta tb tc:TE):TE:=fun σ H Q=>ta σ H fun x H1=>tb σ H1 fun y H2=>r x y H2 fun z H3=>∃ k,z=.bl k/\
 (if k=true then tc σ H3 fun w' H4=>r' y w' H4 Q else Q (.bl false) H3)
theorem Bp{op op':Qs}{r r':R2}(ho:OpR X (Ob op) r)(ho':OpR X (Ob op') r')(ha:PE X a ta)(hb:PE X b tb)(hc:PE X c tc)
  (hm:Sy [op,op'] [b,c]=false:=by with_unfolding_all rfl):PE X (.Compare a [op,op'] [b,c] pos) (v3 r r' ta tb tc):=by
 intro pins s σ H Q I h
 refine Compare_chain (thn (ha pins s σ H _ I h) fun v s1 ⟨x,H1,I1,r1,q1⟩=>chain_link (thn (hb pins s1 σ H1 _ I1 q1) fun u s2 ⟨y,H2,I2,r2,q2⟩=>
  thn (ho pins s2 σ H2 x y v u _ I2 r1 r2 q2) fun d s3 ⟨z,H3,I3,r3,k,e,q3⟩=>?_)) hm
 subst e
 cases r3
 refine Oo ?_
 cases k with
 | false=>exact ite_ff ⟨.bl false,H3,I3,rfl,q3⟩
 | true=>exact ite_tt (chain_last (thn (hc pins s3 σ H3 _ I3 q3) fun w' s4 ⟨z',H4,I4,r4,q4⟩=>ho' pins s4 σ H4 y z' u w' Q I4 r2 r4 q4))
theorem zO{op op':Qs}{r r':R2}(ho:OpR X (Ob op) r)(ho':OpR X (Ob op') r')(ha:PE X a ta)(hb:PE X b tb)(hc:PE X c tc)
  (hm:Sy [op,op'] [b,c]=false:=by with_unfolding_all rfl):PT X (.Compare a [op,op'] [b,c] pos) (Ar (v3 r r' ta tb tc)):=by
 intro pins s σ H Q I h
 refine isTrue_chain (thn (ha pins s σ H _ I h) fun v s1 ⟨x,H1,I1,r1,q1⟩=>test_link (thn (hb pins s1 σ H1 _ I1 q1) fun u s2 ⟨y,H2,I2,r2,q2⟩=>
  thn (ho pins s2 σ H2 x y v u _ I2 r1 r2 q2) fun d s3 ⟨z,H3,I3,r3,k,e,q3⟩=>?_)) hm
 subst e
 cases r3
 refine Oo ?_
 cases k with
 | false=>
  obtain⟨k',e',q'⟩:=q3
  cases e'
  exact ite_ff ⟨H3,I3,q'⟩
 | true=>
  refine ite_tt (test_last (thn (hc pins s3 σ H3 _ I3 q3) fun w' s4 ⟨z',H4,I4,r4,q4⟩=>thn (ho' pins s4 σ H4 y z' u w' _ I4 r2 r4 q4) ?_))
  rintro d' s5 ⟨z2,H5,I5,r5,k2,e2,q5⟩
  subst e2
  cases r5
  exact Oo ⟨H5,I5,q5⟩
noncomputable def EC(K:NM)(x:V)(H:Hp)(k:Bool):Prop:=
 match x with
 | .non=>k=false
 | .bl b=>k=b
 | .int i=>k=(i != 0)
 | .str y=>y.length<=sizeLine/\k=((y.length:Int) != 0)
 | .byt y=>y.size<=sizeLine/\k=((y.size:Int) != 0)
 | .ref p=>(∃ xs,SqL K H p xs/\k=!xs.isEmpty)\/(∃ xs,SqT K H p xs/\k=!xs.isEmpty)\/∃ kvs,H p=some (.dK kvs)/\k=!kvs.isEmpty
 | _=>False
theorem uM{κ:Type}{kvs:List (κ × V)}{vs:List (κ × NK)}(r:KV kvs vs):(!vs.isEmpty)=!kvs.isEmpty:=by
 cases r <;> rfl
theorem nE{xs:List V}{its:List NK}(r:Vals xs its):(!its.toArray.isEmpty)=!xs.isEmpty:=by
 cases r <;> simp
theorem jo:(sizeLine:Nat) < 2 ^ 63:=by rw[sizeLine_eq];decide
theorem GJ:JA X (fun x H Q=>∃ k,EC X.K x H k/\Q k H):=by
 intro pins s σ H x v Q I rx h
 obtain⟨k,e,q⟩:=h
 have hl:=jo
 have hs:sizeLine=16777216:=sizeLine_eq
 cases x with
 | non=>
  cases rx
  have e':k=false:=e
  subst e'
  exact truthy_none ⟨H,I,q⟩
 | bl b=>
  cases rx
  have e':k=b:=e
  subst e'
  exact Oo ⟨H,I,q⟩
 | int i=>
  obtain⟨t,rfl⟩:=rx
  have e':k=(i != 0):=e
  subst e'
  exact PySem.P.truthy_int ⟨H,I,q⟩
 | str y=>
  obtain⟨t,rfl⟩:=rx
  obtain⟨hy,e'⟩:y.length<=sizeLine/\k=((y.length:Int) != 0):=e
  subst e'
  exact PySem.P.truthy_str (by lia) ⟨H,I.tok _,q⟩
 | byt y=>
  obtain⟨t,rfl⟩:=rx
  obtain⟨hy,e'⟩:y.size<=sizeLine/\k=((y.size:Int) != 0):=e
  subst e'
  exact PySem.W.truthy_bytes (by lia) ⟨H,I.tok _,q⟩
 | ref p=>
  cases rx
  have e':(∃ xs,SqL X.K H p xs/\k=!xs.isEmpty)\/(∃ xs,SqT X.K H p xs/\k=!xs.isEmpty)\/∃ kvs,H p=some (.dK kvs)/\k=!kvs.isEmpty:=e
  rcases e' with⟨xs,hx,e'⟩ | ⟨xs,hx,e'⟩ | ⟨kvs,hx,e'⟩
  ·subst e'
   obtain⟨its,r,pl,hz⟩:=I.list hx
   have hlen:=r.length
   exact wpAny_truthy_list pl.isList (by simp only[m_];lia) ⟨H,I.tok _,by rw[nE r];exact q⟩
  ·subst e'
   obtain⟨its,r,pl,hz⟩:=I.tuple hx
   have hlen:=r.length
   exact truthy_tuple pl (by simp only[m_];lia) ⟨H,I.tok _,by rw[nE r];exact q⟩
  ·subst e'
   obtain⟨hz,hS,vs,r,m⟩:kvs.length<=sizeLine/\(p == Ol)=false/\∃ vs,KV kvs vs/\s.heap.DictOf (bx X.prog X.w) p vs:=I.hok p _ hx
   have hlen:kvs.length=vs.length:=OF r
   exact wpAny_truthy_dict hS m (by lia) ⟨H,I.tok _,by rw[uM r];exact q⟩
 | _=>exact(show False from e).elim
theorem An(ha:PE X a ta)(he:∀ whole,RV a X.env whole=(do let v <-whole;SG a.pos;Qy [v] (Uv v))) :
  PT X a (fun σ H Q=>ta σ H fun x H'=>∃ k,EC X.K x H' k/\Q k H'):=by
 intro pins s σ H Q I h
 exact Uw (thn (ha pins s σ H _ I h) fun v s1 ⟨x,H1,I1,r1,q1⟩=>GJ pins s1 σ H1 x v Q I1 r1 q1) (he _)
theorem uo:OpR X (OM .Add) (fun x y H Q=>∃ i j,x=.str i/\y=.str j/\i.length + j.length<=sizeLine/\Q (.str (i++j)) H):=by
 intro pins s σ H x y v u Q I rx ry h
 obtain⟨i,j,rfl,rfl,hz,q⟩:=h
 obtain⟨t,rfl⟩:=rx
 obtain⟨t',rfl⟩:=ry
 exact add_str (fun t' tk=>⟨.str (i++j),H,I.tok _,⟨_,rfl⟩,q⟩) hz
theorem vals1{x:V}{us:List NK}(r:Vals [x] us):∃ u,us=[u]/\RelV x u:=by
 cases r with
 | cons r1 r2=>cases r2;exact⟨_,rfl,r1⟩
theorem vals2{x y:V}{us:List NK}(r:Vals [x,y] us):∃ u w',us=[u,w']/\RelV x u/\RelV y w':=by
 cases r with
 | cons r1 r2=>
  cases r2 with
  | cons r3 r4=>cases r4;exact⟨_,_,rfl,r1,r3⟩
theorem A2:bG X (.builtin "abs") (fun xs H Q=>∃ i,xs=[.int i]/\Q (.int (if i < 0 then -i else i)) H):=by
 intro pins s σ H xs us Q I r h
 obtain⟨i,rfl,q⟩:=h
 obtain⟨u,rfl,t,rfl⟩:=vals1 r
 exact call_abs_int fun u tk=>⟨.int (if i < 0 then -i else i),H,I.tok _,⟨_,rfl⟩,q⟩
theorem xO(hc:X.calm=true):bG X (.builtin "max") (fun xs H Q=>∃ i j,xs=[.int i,.int j]/\Q (.int (if j > i then j else i)) H):=by
 intro pins s σ H xs us Q I r h
 obtain⟨i,j,rfl,q⟩:=h
 obtain⟨u,w',rfl,⟨t,rfl⟩,⟨t',rfl⟩⟩:=vals2 r
 refine max_two_ints (I.ok.hd hc) fun h' tk k=>⟨_,H,I.kept k,?_,q⟩
 by_cases hj:j > i
 ·rw[if_pos hj,if_pos hj];exact⟨_,rfl⟩
 rw[if_neg hj,if_neg hj];exact⟨_,rfl⟩
theorem ye(hc:X.calm=true):bG X (.builtin "min") (fun xs H Q=>∃ i j,xs=[.int i,.int j]/\Q (.int (if j < i then j else i)) H):=by
 intro pins s σ H xs us Q I r h
 obtain⟨i,j,rfl,q⟩:=h
 obtain⟨u,w',rfl,⟨t,rfl⟩,⟨t',rfl⟩⟩:=vals2 r
 refine min_two_ints (I.ok.hd hc) fun h' tk k=>⟨_,H,I.kept k,?_,q⟩
 by_cases hj:j < i
 ·rw[if_pos hj,if_pos hj];exact⟨_,rfl⟩
 rw[if_neg hj,if_neg hj];exact⟨_,rfl⟩
theorem p8:bG X (.type "int") (fun xs H Q=>(∃ i,xs=[.int i]/\Q (.int i) H)\/∃ k,xs=[.bl k]/\Q (.int (if k then 1 else 0)) H):=by
 intro pins s σ H xs us Q I r h
 rcases h with⟨i,rfl,q⟩ | ⟨k,rfl,q⟩
 ·obtain⟨u,rfl,t,rfl⟩:=vals1 r
  exact call_int_int ⟨.int i,H,I,⟨_,rfl⟩,q⟩
 obtain⟨u,rfl,r1⟩:=vals1 r
 cases r1
 exact call_int_bool ⟨.int (if k then 1 else 0),H,I.tok _,⟨_,rfl⟩,q⟩
theorem sI:bG X (.builtin "divmod") (fun xs H Q=>∃ i j,xs=[.int i,.int j]/\DJ i j/\∀ p,H p=none->Q (.ref p) (upd H p (.tup [.int (i / j),.int (i % j)]))):=by
 intro pins s σ H xs us Q I r h
 obtain⟨i,j,rfl,⟨h1,h2⟩,q⟩:=h
 obtain⟨u,w',rfl,⟨t,rfl⟩,⟨t',rfl⟩⟩:=vals2 r
 refine divmod_int (by lia) ?_ (.inl (RM (by lia)))
 rw[L9 i (by lia),L_ i (by lia)]
 have hn:H s.heap.objs.size=none:=I.hok.fresh (c_ _)
 refine⟨.ref s.heap.objs.size,_,?_,rfl,q _ hn⟩
 refine I.laid (fun b o e=>NR _ e) (c_ _) ⟨by simp only[j_,Lr];rw[sizeLine_eq];decide,[.int (i / j) s.toks,.int (i % j) (s.toks + 1)],.cons ⟨_,rfl⟩ (.cons ⟨_,rfl⟩ .nil),?_⟩
 exact⟨_,N0 s.heap rfl,rfl,0,rfl⟩
end
theorem oh.some_of {v:V}{o:Option NK}(r:oh (some v) o):∃ u,o=some u/\RelV v u:=by
 cases o with
 | none=>exact(show False from r).elim
 | some u=>exact⟨u,rfl,r⟩
structure Room (k:Nat) (A:N_):Prop where
 hd:A.handled=none
 dp:A.depth + 3 * k + 5 < recursionLimit
 un:A.units + 16 * k + 200 < cLine
 gs:A.guards=some []
theorem Room.mono {j k:Nat}{A:N_}(r:Room k A)(h:j<=k):Room j A:=⟨r.hd,by have:=r.dp;lia,by have:=r.un;lia,r.gs⟩
theorem Room.deeper {k:Nat}{A:N_}(r:Room (k + 1) A)(env:Env):Room k (A.deeper env):=
 ⟨r.hd,by have:=r.dp;show A.depth + 1 + 3 * k + 5 < _;lia,by have:=r.un;show A.units + 3 + 16 * k + 200 < _;lia,r.gs⟩
theorem Room.depth {k:Nat}{A:N_}(r:Room k A):A.depth < recursionLimit:=by have:=r.dp;lia
theorem Room.units {k:Nat}{A:N_}(r:Room k A):A.units + 64 < cLine:=by have:=r.un;lia
def Je:TA:=fun _ H Q=>Q [] H
def HL(ta:TE)(tr:TA):TA:=fun σ H Q=>ta σ H fun x H1=>tr σ H1 fun xs H2=>Q (x::xs) H2
section
variable{X:Cx}{e:N2}{es:List N2}{te:TE}{t:TA}{pos:Pos}
theorem cu:PA X [] Je:=fun _ _ _ _ H Q I h=>Rk ⟨[],H,I,.nil,h⟩
theorem aG(ha:PE X e te)(hr:PA X es t)(hs:N7 (e::es) X.env=(false,Og e X.env)::N7 es X.env:=by rfl):PA X (e::es) (HL te t):=by
 intro pos pins s σ H Q I h
 rw[hs]
 show NT _ _ (spliced ((false,Og e X.env)::O_ pos (N7 es X.env))) _ _ s
 refine Qb (thn (ha pins s σ H _ I h) ?_)
 rintro u s1 ⟨x,H1,I1,r1,q1⟩
 exact thn (hr pos pins s1 σ H1 _ I1 q1) fun us s2 ⟨xs,H2,I2,r2,q2⟩=>⟨x::xs,H2,I2,.cons r1 r2,q2⟩
def Jx(t:TA):TE:=fun σ H Q=>t σ H fun xs H1=>xs.length<=sizeLine/\∀ p,H1 p=none->Q (.ref p) (upd H1 p (.lst xs))
theorem A7(h:PA X es t):PE X (.List es pos) (Jx t):=by
 intro pins s σ H Q I hq
 refine Sz (thn (h pos pins s σ H _ I hq) fun us s1 ⟨xs,H1,I1,r,z,q⟩=>⟨by rw[<-r.length];exact z,?_⟩)
 have hf:H1 s1.heap.objs.size=none:=I1.hok.fresh (c_ _)
 refine⟨.ref s1.heap.objs.size,upd H1 s1.heap.objs.size (.lst xs),I1.laid (t':=s1.toks) (fun b u e=>NR _ e) (c_ _) ?_,rfl,q _ hf⟩
 exact⟨z,us,0,r,N0 _ rfl⟩
end
abbrev Sp:=List V->Hp->VK->XK->Prop
abbrev CXT:=List Env->Hp->NO->XK->NK->NO->Prop
structure Env0 (P:NW) (w:N3) (K:NM) (mg:Str->Option NK) (base:N5) (A:N_) (outer:List Env) (s:NO) (H:Hp):Prop where
 frames:A.frames=some outer
 mod:Mod K mg base
 bs:∀ b o,base.get? b=some o->s.heap.get? b=some o/\H b=none
 bsz:base.objs.size<=s.heap.objs.size
 ny:s.heap.FunFrames base outer
 frf:∀ b∈frs outer,H b=none
 hok:HOk P w H s.heap
 bare:Qx s.gens
def CE(outer:List Env)(P:NW)(w:N3)(H:Hp)(s:NO)(Q:VK)(u:NK)(s':NO):Prop:=
 ∃ v H',s'.os=s.os/\Qx s'.gens/\Un (frs outer) [] H H' s.heap s'.heap/\HOk P w H' s'.heap/\RelV v u/\Q v H'
def CR(CX:CXT)(outer:List Env)(P:NW)(w:N3)(H:Hp)(s:NO)(Q:VK)(E:XK)(r:Result)(s':NO):Prop:=
 match r with
 | .ok (.ret u)=>CE outer P w H s Q u s'
 | .ok _=>False
 | .error e=>CX outer H s E e s'
structure FnOk (P:NW) (w:N3) (K:NM) (mg:Str->Option NK) (base:N5) (CX:CXT) (k:Nat) (f:NN) (fd:N9) (ps:List Str) (sp:Sp):Prop where
 len:∀ vs H Q E,sp vs H Q E->vs.length=ps.length
 run:∀(A:N_) (outer:List Env) (s:NO) (H:Hp) (args:Args) (us:List NK) (vs:List V) (Q:VK) (E:XK),Room k A->Env0 P w K mg base A outer s H->RY s fd args (ps.zip us)->Vals vs us->sp vs H Q E->
  Qz (N1 P w) A (.call (.ref f) args) (CR CX outer P w H s Q E) s
theorem FnOk.imp {P:NW}{w:N3}{K:NM}{mg:Str->Option NK}{base:N5}{CX:CXT}{k:Nat}{f:NN}{fd:N9}{ps:List Str}{sp sp':Sp}(F:FnOk P w K mg base CX k f fd ps sp)
  (h:∀ vs H Q E,sp' vs H Q E->sp vs H Q E):FnOk P w K mg base CX k f fd ps sp':=
 ⟨fun vs H Q E q=>F.len vs H Q E (h _ _ _ _ q),fun A outer s H args us vs Q E hr he hb hv hs=>F.run A outer s H args us vs Q E hr he hb hv (h _ _ _ _ hs)⟩
section
variable{X:Cx}{pins:List (NN × Obj)}{σ:St}{H:Hp}{s s':NO}
theorem Inv.Jf (I:Inv X pins σ H s):Env0 X.prog X.w X.K X.mg X.base X.A X.stack s H:=
 ⟨I.ok.frames,I.ok.mod,I.bs,n_ I.ok.bsz I.sz,I.stack,I.vZ,I.hok,I.bare⟩
theorem Inv.after {Q:VK}{u:NK}(I:Inv X pins σ H s)(h:CE X.stack X.prog X.w H s Q u s'):EP X pins σ Q u s':=by
 obtain⟨v,H',os,bare,un,hok,r,q⟩:=h
 obtain⟨hh,g,d,t,os'⟩:=s'
 obtain rfl:os'=s.os:=os
 exact⟨v,H',I.call (h':=hh) (g':=g) (d':=d) (t':=t) (ch:=[]) un hok bare (fun b z=>absurd z (by simp)),r,q⟩
end
def B2(sp:Sp)(dvs:List V)(E:XK)(t:TA):TE:=fun σ H Q=>t σ H fun vs H1=>sp (vs++dvs) H1 Q E
def Binds(K:NM)(fd:N9)(ps:List Str)(ds:List NK):Prop:=
 ∀(s:NO) (us:List NK),K.In s.heap->(us++ds).length=ps.length->RY s fd ⟨us,[]⟩ (ps.zip (us++ds))
theorem Binds.all {K:NM}{fd:N9}{ps:List Str}(h:∀ us:List NK,us.length=ps.length->UK fd ⟨us,[]⟩=pure (ps.zip us)):Binds K fd ps []:=fun s us _ hl=>by
 rw[JO]at hl ⊢
 exact .of_eq (h us hl)
def Passes(CX:CXT)(X:Cx)(E:XK):Prop:=∀(pins:List (NN × Obj)) (σ:St) (H:Hp) (s:NO) (e:NK) (s':NO),Inv X pins σ H s->CX X.stack H s E e s'->X.xe e s'
section
variable{X:Cx}{CX:CXT}{k:Nat}{f C:NN}{fd:N9}{ps:List Str}{sp:Sp}{dvs:List V}{ds:List NK}{E:XK}{x m:Str}{p pos apos:Pos}{e o:N2}{es:List N2}{ta:TE}{t:TA}
theorem Gm{pins:List (NN × Obj)}{σ:St}{H:Hp}{s:NO}{Q:VK}{us:List NK}{vs:List V}(F:FnOk X.prog X.w X.K X.mg X.base CX k f fd ps sp)(hr:Room k X.A)(hb:Binds X.K fd ps ds)(hd:Vals dvs ds)(hx:Passes CX X E)
  (I:Inv X pins σ H s) (r:Vals vs us) (h:sp (vs++dvs) H Q E):NT (N1 X.prog X.w) X.A (call (.ref f) us) (EP X pins σ Q) X.xe s:=by
 have r2:Vals (vs++dvs) (us++ds):=r.append hd
 have hl:(us++ds).length=ps.length:=by rw[<-r2.length];exact F.len _ _ _ _ h
 refine wpAny_call (Qc (F.run X.A X.stack s H ⟨us,[]⟩ (us++ds) (vs++dvs) Q E hr I.Jf (hb s us I.kIn hl) r2 h) fun r s' hq=>?_)
 cases r with
 | error e=>exact hx pins σ H s e s' I hq
 | ok fl=>
  cases fl with
  | ret u=>exact I.after hq
  | next=>exact N4 hq
  | brk=>exact N4 hq
  | cont=>exact N4 hq
theorem BS(F:FnOk X.prog X.w X.K X.mg X.base CX k f fd ps sp)(hr:Room k X.A)(hg:Gl X x)(hm:X.mg x=some (.ref f))(hk:Qk X.K (.ref f)=true)(hb:Binds X.K fd ps ds)(hd:Vals dvs ds)(hx:Passes CX X E)
  (ha:PA X (e::es) t) (hdb:(x ==("__debug__":Str))=false:=by decide) (he:N7 (e::es) X.env=(false,Og e X.env)::N7 es X.env:=by rfl) (hpl:(O_ pos (N7 es X.env)).any (·.1)=false:=by rfl) :
  PE X (.Call (.Name x p) (e::es) [] pos) (B2 sp dvs E t):=by
 intro pins s σ H Q I h
 refine Q2 (xt I hg hm ?_ hdb)
 refine PySem.W.callWith_K (h₀:=X.base) I.ok.mod.kin hk (thn (ha pos pins s σ H _ I h) fun us s1 ⟨vs,H1,I1,r,q⟩=>⟨I1.kIn,?_⟩) he hpl
 exact Gm F hr hb hd hx I1 r q
end
structure FnScope (N P:List Str) (sc:OH):Prop where
 kind:sc.kind=.function
 co:sc.isCoroutine=false
 gen:sc.isGenerator=false
 nd:N.Nodup
 pre:N.take P.length=P
 par:∀ x∈P,sc.names.lookup x=some .local\/sc.names.lookup x=some .cell
 nofree:∀ y∈sc.names,y.2≠.free
theorem oQ{kindOf:Str->Option Pm}{x:Str}:∀ {binds:List (Str × NK)} {m:Str->Option NK},(∀ v,(x,v) ∉ binds)->R9 kindOf binds m x=m x
 | [],_,_=>rfl
 | (n,v)::r,m,h=>by
  unfold R9
  rw[oQ fun w hw=>h w (l_ _ hw)]
  split
  ·have:x≠n:=by rintro rfl;exact h v v_
   simp[this]
  rfl
theorem oW{kindOf:Str->Option Pm}{x:Str}:∀ {binds:List (Str × NK)} {m:Str->Option NK},(∀ v,(x,v) ∉ binds)->R_ kindOf binds m x=m x
 | [],_,_=>rfl
 | (n,v)::r,m,h=>by
  unfold R_
  rw[oW fun w hw=>h w (l_ _ hw)]
  split
  ·rfl
  have:x≠n:=by rintro rfl;exact h v v_
  simp[this]
theorem oC{kindOf:Str->Option Pm}{x:Str}{v:NK}:∀ {P:List Str} {vs:List NK} {i:Nat} {m:Str->Option NK},P.Nodup->P[i]?=some x->vs[i]?=some v->kindOf x=some .local->
  R9 kindOf (P.zip vs) m x=some v
 | [],_,_,_,_,h,_,_=>by simp at h
 | _::_,[],_,_,_,_,h,_=>by simp at h
 | p::P,w::vs,0,m,nd,h1,h2,hk=>by
  simp at h1 h2;subst h1;subst h2
  show R9 kindOf ((p,w)::P.zip vs) m p=_
  unfold R9
  rw[oQ fun v hv=>(JK.mp nd).1 (Mw hv).1,if_pos hk]
  simp
 | p::P,w::vs,i + 1,m,nd,h1,h2,hk=>by
  show R9 kindOf ((p,w)::P.zip vs) m x=_
  unfold R9
  exact oC (i:=i) (JK.mp nd).2 (by simpa using h1) (by simpa using h2) hk
theorem pA{kindOf:Str->Option Pm}{x:Str}{v:NK}:∀ {P:List Str} {vs:List NK} {i:Nat} {m:Str->Option NK},P.Nodup->P[i]?=some x->vs[i]?=some v->kindOf x≠some .local->
  R_ kindOf (P.zip vs) m x=some v
 | [],_,_,_,_,h,_,_=>by simp at h
 | _::_,[],_,_,_,_,h,_=>by simp at h
 | p::P,w::vs,0,m,nd,h1,h2,hk=>by
  simp at h1 h2;subst h1;subst h2
  show R_ kindOf ((p,w)::P.zip vs) m p=_
  unfold R_
  rw[oW fun v hv=>(JK.mp nd).1 (Mw hv).1,if_neg hk]
  simp
 | p::P,w::vs,i + 1,m,nd,h1,h2,hk=>by
  show R_ kindOf ((p,w)::P.zip vs) m x=_
  unfold R_
  exact pA (i:=i) (JK.mp nd).2 (by simpa using h1) (by simpa using h2) hk
def start(N:List Str)(vs:List V):St:=vs.map some++J_ (N.length - vs.length) none
noncomputable def vj(CX:CXT)(P:NW)(w:N3)(K:NM)(mg:Str->Option NK)(base:N5)(N:List Str)(qual:Str)(scope:OH)(f:NN)(cd:NK)(A:N_)(outer:List Env)(s:NO)(H:Hp)(E:XK):Cx where
 prog:=P
 w:=w
 K:=K
 mg:=mg
 base:=base
 A:=A.deeper (QE qual scope s.heap.objs.size f cd)
 N:=N
 s₀:=s
 H₀:=H
 env:=QE qual scope s.heap.objs.size f cd
 outer:=outer
 stack:=QE qual scope s.heap.objs.size f cd::outer
 ex:=[]
 calm:=true
 fn:=fun _=>true
 pn:=[]
 xe:=fun e s'=>NT (N1 P w) (A.deeper (QE qual scope s.heap.objs.size f cd)) (leaving (QE qual scope s.heap.objs.size f cd) e) (fun _ s''=>CX outer H s E e s'') (fun e' s''=>CX outer H s E e' s'') s'
theorem rE{sc:OH}{n:Nat}{x:Str}(h:sc.names.lookup x=some .cell):∃ c,(T4 n sc.names []).lookup x=some c:=by
 have q:=RN sc.names n [] (.inl h)
 exact Option.isSome_iff_exists.mp q
theorem xN{CX:CXT}{P:NW}{w:N3}{K:NM}{mg:Str->Option NK}{base:N5}{N ps:List Str}{qual:Str}{scope:OH}{f:NN}{cd:NK}{A:N_}{outer:List Env}{s s1:NO}{H:Hp}{E:XK}{us:List NK}{vs:List V}
  (S:FnScope N ps scope) (hd:A.handled=none) (e0:Env0 P w K mg base A outer s H) (hl:vs.length=ps.length) (r:Vals vs us)
  (x:InCallC s s.heap.objs.size (R9 (QE qual scope s.heap.objs.size f cd).kindOf (ps.zip us) fun _=>none) (T4 (s.heap.objs.size + 1) scope.names []) (R_ (QE qual scope s.heap.objs.size f cd).kindOf (ps.zip us) fun _=>none) s1) :
  Inv (vj CX P w K mg base N qual scope f cd A outer s H E) [] (start N vs) H s1:=by
 have hpl:ps.length<=N.length:=by have:=congrArg L7 S.pre;rw[A_]at this;lia
 obtain⟨h1,tk,rfl,hk⟩:=x.done
 have noA:∀ b:NN,b ∉ (vj CX P w K mg base N qual scope f cd A outer s H E).ex:=fun b z=>absurd (show b∈([]:List NN)from z) (by simp)
 refine⟨⟨e0.mod,S.kind,rfl,rfl,c_ _,fun y z c h1 h2=>?_,fun y hy=>?_,fun y c _ h=>?_,fun _=>hd,Around.frames_deeper e0.frames,.inr ⟨rfl,rfl⟩,fun b z=>absurd z (noA b),e0.bs,e0.bsz,fun b _ _=>noA b,fun b z=>absurd z (noA b),e0.ny,e0.frf⟩,
  rfl,e0.bare,Un.kept hk,⟨_,x.toInCall.ns,fun i y v h1 h2 h3=>?_⟩,fun y c h=>⟨_,x.cell y c h⟩,e0.hok.fresh (c_ _),fun y c h=>?_,fun p hp=>absurd (show p∈([]:List (NN × Obj))from hp) (by simp),e0.hok.kept hk,?_⟩
 ·exact name_of_addr x.apart (OU h1) (OU h2)
 ·have hy:scope.names.lookup y=some .cell\/scope.names.lookup y=some .free:=hy
  rcases hy with hy | hy
  ·exact rE hy
  exact absurd rfl (S.nofree _ (OU hy))
 ·exact JI (x.above y c (OU h))
 ·have hi:i < vs.length:=by
   unfold start at h2
   by_cases hi:i < vs.length
   ·exact hi
   rw[Ki (by simpa using hi)]at h2
   rw[List.getElem?_replicate]at h2
   split at h2 <;> cases h2
  have ha:vs[i]?=some v:=by
   unfold start at h2
   rw[KC (by simpa using hi),s_]at h2
   cases e:vs[i]? with
   | none=>rw[e]at h2;cases h2
   | some a=>rw[e]at h2;cases h2;rfl
  obtain⟨u,hu,rv⟩:=r.get ha
  have hp:ps[i]?=some y:=by
   rw[<-S.pre,Mj (by lia)];exact h1
  have ndP:ps.Nodup:=by rw[<-S.pre];exact S.nd.sublist (K6 _ _)
  refine⟨u,rv,?_⟩
  rcases S.par y (JY hp)with k | k
  ·exact .inl ⟨k,oC ndP hp hu k⟩
  obtain⟨c,e⟩:=rE (n:=s.heap.objs.size + 1) k
  refine .inr ⟨.inl k,c,e,?_⟩
  have q:=x.cell y c e
  rw[pA ndP hp hu (by show scope.names.lookup y≠_;rw[k];decide)]at q
  exact q
 ·exact e0.hok.fresh (JI (x.above y c (OU h)))
 unfold start
 show _=N.length
 rw[h_,a_,List.length_replicate]
 lia
theorem HK{CX:CXT}{P:NW}{w:N3}{K:NM}{mg:Str->Option NK}{base:N5}{k:Nat}{f:NN}{name qual:Str}{params:Arguments}{body:List Of}{scope:OH}{dV kV doc pm cdv ct oc:NK}{an od:Option NN}
  {osl:Array (Option NK)} {N ps:List Str} {sp:Sp} (lk:K.lookup f=some ⟨oc,od,.func (Pa name qual params body scope dV kV doc pm an cdv ct),osl⟩) (hcd:QP K cdv qual=true) (S:FnScope N ps scope)
  (len:∀ vs H Q E,sp vs H Q E->vs.length=ps.length)
  (hbody:∀(A:N_) (outer:List Env) (s:NO) (H:Hp) (vs:List V) (Q:VK) (E:XK),Room k (A.deeper (QE qual scope s.heap.objs.size f cdv))->sp vs H Q E->
   ∃ t,PSs (vj CX P w K mg base N qual scope f cdv A outer s H E) body t/\t { nx:=fun _ H'=>Q .non H',rt:=Q } (start N vs) H) :
  FnOk P w K mg base CX (k + 1) f (Pa name qual params body scope dV kV doc pm an cdv ct) ps sp:=by
 refine⟨len,fun A outer s H args us vs Q E hr e0 hb r hsp=>?_⟩
 have hl:=len _ _ _ _ hsp
 have KX:K.In s.heap:=e0.mod.kin.keeps fun b o e=>(e0.bs b o e).1
 have lim:s.heap.NoLimit:=e0.mod.nolimit.keeps fun b o e=>(e0.bs b o e).1
 have hkind:∀ y∈ps.zip us,scope.names.lookup y.1=some .local\/(scope.names.lookup y.1=some .cell/\((T4 (s.heap.objs.size + 1) scope.names []).lookup y.1).isSome=true):=fun⟨n,v⟩ hy=>by
  rcases S.par n (Mw hy).1 with q | q
  ·exact .inl q
  exact .inr ⟨q,RN _ _ _ (.inl q)⟩
 refine codeAny_call_function hr.depth (KX _ _ lk) rfl S.co S.gen rfl (PySem.W.codeRec_of KX hcd) (hb _ _ _ _ ?_)
 refine wpAny_newFunctionEnv_cells S.kind hkind fun env he s1 x=>?_
 subst he
 refine⟨lim.keeps x.toInCall.keep,codeAny_func ?_⟩
 obtain⟨t,ht,hq⟩:=hbody A outer s H vs Q E (hr.deeper _) hsp
 have I:Inv (vj CX P w K mg base N qual scope f cdv A outer s H E) [] (start N vs) H s1:=xN S hr.hd e0 hl r x
 refine Oh (ht [] s1 (start N vs) H _ I hq) (fun fl s' hs=>?_) fun e s' hs=>hs
 have fin:∀ {σ':St} {H':Hp} {v:V} {u:NK},Inv (vj CX P w K mg base N qual scope f cdv A outer s H E) [] σ' H' s'->RelV v u->Q v H'->CE outer P w H s Q u s':=
  fun{σ' H' v u} J rv q=>⟨v,H',J.os,J.bare,J.base,J.hok,rv,q⟩
 cases fl with
 | ret u=>
  obtain⟨v,σ',H',J,rv,q⟩:=hs
  exact fin J rv q
 | next=>
  obtain⟨σ',H',J,q⟩:=hs
  exact fin (v:=V.non) (u:=Om) J rfl q
 | brk=>
  obtain⟨_,_,_,q⟩:=hs
  exact N4 q
 | cont=>
  obtain⟨_,_,_,q⟩:=hs
  exact N4 q
section
variable{X:Cx}{x:Str}{p pos:Pos}{e:N2}{es:List N2}{t:TA}{id T:String}{r:List V->Hp->VK->Prop}
def tCB(r:List V->Hp->VK->Prop)(t:TA):TE:=fun σ H Q=>t σ H fun vs H1=>r vs H1 Q
theorem bE(hc:bG X (.builtin id) r)(hg:Gl X x)(hm:X.mg x=none)(hv:Pl x=some (.builtin id))(ha:PA X (e::es) t)(hn:x≠"__name__":=by decide)(hdb:(x ==("__debug__":Str))=false:=by decide)
  (he:N7 (e::es) X.env=(false,Og e X.env)::N7 es X.env:=by rfl) (hpl:(O_ pos (N7 es X.env)).any (·.1)=false:=by rfl):PE X (.Call (.Name x p) (e::es) [] pos) (tCB r t):=by
 intro pins s σ H Q I h
 refine Q2 (jr I hg hm hv ?_ hn hdb)
 exact Te (thn (ha pos pins s σ H _ I h) fun us s1 ⟨vs,H1,I1,r1,q1⟩=>hc pins s1 σ H1 vs us Q I1 r1 q1) he hpl
theorem oN(hc:bG X (.type T) r)(hg:Gl X x)(hm:X.mg x=none)(hv:Pl x=some (.type T))(ha:PA X (e::es) t)(hn:x≠"__name__":=by decide)(hdb:(x ==("__debug__":Str))=false:=by decide)
  (he:N7 (e::es) X.env=(false,Og e X.env)::N7 es X.env:=by rfl) (hpl:(O_ pos (N7 es X.env)).any (·.1)=false:=by rfl):PE X (.Call (.Name x p) (e::es) [] pos) (tCB r t):=by
 intro pins s σ H Q I h
 refine Q2 (jr I hg hm hv ?_ hn hdb)
 exact OR (thn (ha pos pins s σ H _ I h) fun us s1 ⟨vs,H1,I1,r1,q1⟩=>hc pins s1 σ H1 vs us Q I1 r1 q1) he hpl
end
end L2
namespace HT
open PySem PyProof.Rows
section
variable{prog:NW}{w:N3}{A:N_}{E:NK->NO->Prop}{s:NO}
theorem CI{t b:NN}{vs ws:List NK}{Q:NK->NO->Prop}(ht:Ug s.heap t vs.toArray)(hb:Ug s.heap b ws.toArray)(hv:vs≠[])
  (h1:ws=[]->Q (.ref t) s) (h2:ws≠[]->Q (.ref s.heap.objs.size) { s with heap:=s.heap.push { cls:=.type "tuple",data:=.seq (vs++ws).toArray } })
  (hsz:vs.length + ws.length<=sizeLine):NT (N1 prog w) A (OM .Add (.ref t) (.ref b)) Q E s:=by
 obtain⟨⟨cls,dd,data,sl⟩,ho,hc,n,hd⟩:=id ht
 obtain⟨⟨cls2,dd2,data2,sl2⟩,ho2,hc2,n2,hd2⟩:=id hb
 simp only at hc hd hc2 hd2
 subst hc hd hc2 hd2
 have e:vs.toArray++ws.toArray=(vs++ws).toArray:=by simp
 by_cases hw:ws=[]
 ·exact SD ⟨_,ho,rfl⟩ ⟨_,ho2,rfl⟩ Ru Sl Qo Qm (Qd _ _)
   (tuple_addW1 t b vs.toArray ws.toArray n n2 dd dd2 sl sl2 (by simpa using hv) (by simp[hw])) ⟨ho,ho2,h1 hw⟩
 refine SD ⟨_,ho,rfl⟩ ⟨_,ho2,rfl⟩ Ru Sl Qo Qm (Qd _ _)
  (tuple_addW2 t b vs.toArray ws.toArray n n2 dd dd2 sl sl2 (by simpa using hv) (by simpa using hw) (by rw[m_,m_];exact hsz)) ⟨ho,ho2,?_⟩
 rw[e]
 exact h2 hw
def sIx(n d:Nat):Option Int->Nat
 | none=>d
 | some v=>if v < 0 then(v + (n:Int)).toNat else min v.toNat n
theorem si(n d:Nat):sIx n d none=d:=rfl
theorem wW(n d k:Nat):sIx n d (some (k:Int))=min k n:=by
 show(if(k:Int) < 0 then((k:Int) + (n:Int)).toNat else min (k:Int).toNat n)=min k n
 rw[if_neg (by lia),K7]
theorem GN(n d:Nat)(hd:d<=n)(o:Option Int):sIx n d o<=n:=by
 cases o with
 | none=>exact hd
 | some v=>
  show(if v < 0 then(v + (n:Int)).toNat else min v.toNat n)<=n
  by_cases hv:v < 0
  ·rw[if_pos hv];lia
  rw[if_neg hv];exact Nat.min_le_right _ _
theorem xg(v:Int)(n d:Nat):(if v < 0 then max (v + (n:Int)) 0 else min v (n:Int))=((sIx n d (some v):Nat):Int):=by
 show(if v < 0 then max (v + (n:Int)) 0 else min v (n:Int))=(((if v < 0 then(v + (n:Int)).toNat else min v.toNat n):Nat):Int)
 by_cases hv:v < 0
 ·simp only[if_pos hv];lia
 simp only[if_neg hv];lia
theorem uO(lo hi:Option Int)(n:Nat):P7 lo hi 1 (n:Int)=(((sIx n 0 lo:Nat):Int),((sIx n n hi:Nat):Int)):=by
 have h1:¬((1:Int) < 0):=by lia
 unfold P7
 simp only[h1,if_false]
 refine Ni ?_ ?_
 ·cases lo with
  | none=>rfl
  | some v=>exact xg v n 0
 cases hi with
 | none=>rfl
 | some v=>exact xg v n n
theorem ui(i j:Nat):Ph (i:Int) (j:Int) 1=j - i:=by
 unfold Ph
 have h1:(1:Int) > 0:=by lia
 simp only[h1,if_true,Int.ediv_one]
 split <;> lia
theorem nX{v:NK}{o:Option Int}{Q:Option Int->NO->Prop}(p:Rv v o)(h:Q o s):NT (N1 prog w) A (TF v) Q E s:=by
 cases p with
 | none=>exact TH h
 | int i t=>exact slicePart_int h
theorem kL{sl:NN}{vl vu:NK}{lo hi:Option Int}{n:Nat}{Q:Int × Int × Nat->NO->Prop}(hs:s.heap.IsSliceOf sl vl vu .none)(pl:Rv vl lo)(pu:Rv vu hi)
  (h:Q (((sIx n 0 lo:Nat):Int),1,sIx n n hi - sIx n 0 lo) s):NT (N1 prog w) A (Rb (.ref sl) (pure (n:Int))) Q E s:=by
 obtain⟨os,hos,hcs,hds⟩:=id hs
 unfold Rb Us
 refine NL (NL (OG hos hds (x:=vl) rfl (NL (OG hos hds (x:=vu) rfl (NL (OG hos hds (x:=.none) rfl (NP ?_)))))))
 refine NL (TH ?_)
 show NT _ _ (if((1:Int) == 0)=true then _ else _) _ _ s
 rw[if_neg (by decide)]
 refine NL (nX pl (NL (nX pu (NL (NP ?_)))))
 show NT _ _ (match P7 lo hi 1 (n:Int)with | (lo,hi)=>pure (lo,(1:Int),Ph lo hi 1)) _ _ s
 rw[uO lo hi n]
 show NT _ _ (pure (((sIx n 0 lo:Nat):Int),(1:Int),Ph ((sIx n 0 lo:Nat):Int) ((sIx n n hi:Nat):Int) 1)) _ _ s
 rw[ui]
 exact NP h
theorem AX(xs:Array NK)(i k:Nat):((p_ k).filterMap fun(m:Nat)=>xs[((i:Int) + (m:Int) * 1).toNat]?).toArray=((xs.toList.drop i).take k).toArray:=by
 have e:(fun(m:Nat)=>xs[((i:Int) + (m:Int) * 1).toNat]?)=fun m=>xs[i + m]?:=by
  funext m
  have:((i:Int) + (m:Int) * 1).toNat=i + m:=by lia
  rw[this]
 rw[e]
 have:=pick_run xs i k
 rw[MX]at this
 have e2:((fun x=>xs[x]?) ∘ fun x=>i + x)=fun m=>xs[i + m]?:=rfl
 rw[e2]at this
 rw[this]
theorem jT{t sl:NN}{items:Array NK}{vl vu:NK}{lo hi:Option Int}{Q:NK->NO->Prop}(ht:Ug s.heap t items)(hs:s.heap.IsSliceOf sl vl vu .none)(pl:Rv vl lo)(pu:Rv vu hi)
  (hw:¬(sIx items.size 0 lo=0/\sIx items.size items.size hi=items.size))
  (h:Q (.ref s.heap.objs.size) { s with heap:=s.heap.push { cls:=.type "tuple",data:=.seq ((items.toList.drop (sIx items.size 0 lo)).take (sIx items.size items.size hi - sIx items.size 0 lo)).toArray } })
  (hsz:items.size<=sizeLine):NT (N1 prog w) A (QQ (.ref t) (.ref sl)) Q E s:=by
 have htake:sizeOk (.seq ((items.toList.drop (sIx items.size 0 lo)).take (sIx items.size items.size hi - sIx items.size 0 lo)).toArray):=by
  show((items.toList.drop (sIx items.size 0 lo)).take (sIx items.size items.size hi - sIx items.size 0 lo)).toArray.size<=sizeLine
  rw[m_,A_,C',g_]
  omega
 have hj:sIx items.size items.size hi<=items.size:=GN _ _ (c_ _) hi
 obtain⟨os,hos,hcs,hds⟩:=id hs
 have hTs:s.TypeIs (.ref sl) "slice":=⟨os,hos,hcs⟩
 unfold QQ
 try with_reducible refine Oj ?_
 first | refine NL (NP ?_) | skip
 refine NL (wpAny_sequenceKey ht.typeIs (by decide) ?_)
 refine NL (Ox (name:=Pb "__getitem__") ht.typeIs Pp
  (OI Pp ht.typeIs entry_tuple_getitem ?_ (args_tuple_getitem _ _)))
 show NT _ _ (T9 (.ref t) >>= _) _ _ s
 refine NL (tupleItemsOf_ ht ?_)
 refine NL (UL hTs ?_)
 rw[if_pos (by decide)]
 refine NL (kL hs pl pu ?_)
 have hno:¬((((sIx items.size 0 lo:Nat):Int) == 0 && (1:Int) == 1 && (sIx items.size items.size hi - sIx items.size 0 lo) == items.size)=true):=by
  intro q
  rw[F_,F_]at q
  have q1:((sIx items.size 0 lo:Nat):Int)=0:=eq_of_beq q.1.1
  have q2:sIx items.size items.size hi - sIx items.size 0 lo=items.size:=eq_of_beq q.2
  exact hw ⟨by lia,by lia⟩
 show NT _ _ (if(((sIx items.size 0 lo:Nat):Int) == 0 && (1:Int) == 1 && (sIx items.size items.size hi - sIx items.size 0 lo) == items.size)=true then _ else _) _ _ s
 rw[if_neg hno,AX]
 first
  | exact NL (m:=Pn _) (Ow (NP ⟨_,rfl,NP h⟩) htake)
  | exact NL (m:=Pn _) (Ow (NL (NP (NP ⟨_,rfl,NP h⟩))) htake)
  | exact NL (NL (m:=Pn _) (Ow (NP (NP ⟨_,rfl,NP h⟩)) htake))
  | exact NL (NL (m:=Pn _) (Ow (NP ⟨_,rfl,NP h⟩) htake))
end
end HT
namespace L2
open PySem PySem.Spec PyProof.Rows
abbrev TO:=St->Hp->(Option Int->Hp->Prop)->Prop
noncomputable def PO(X:Cx)(e:Option N2)(t:TO):Prop:=
 ∀(pins:List (NN × Obj)) (s:NO) (σ:St) (H:Hp) (Q:Option Int->Hp->Prop),Inv X pins σ H s->t σ H Q->
  NT (N1 X.prog X.w) X.A (evalPart e X.env) (fun u s'=>∃ o H',Inv X pins σ H' s'/\Rv u o/\Q o H') X.xe s
def Ct:TO:=fun _ H Q=>Q none H
def HF(t:TE):TO:=fun σ H Q=>t σ H fun x H1=>∃ i,x=.int i/\Q (some i) H1
theorem intsAre_of{ns:List Int}:∀ {us:List NK},Vals (ns.map V.int) us->QR us ns:=by
 induction ns with
 | nil=>intro us r;rw[Ks]at r;cases r;exact .nil
 | cons n ns ih=>
  intro us r
  rw[d_]at r
  cases r with
  | cons r1 r2=>
   obtain⟨t,e⟩:=r1
   subst e
   exact .cons n t (ih r2)
section
variable{X:Cx}{e:N2}{te:TE}{lo hi:Option N2}{tl th:TO}{pos p2:Pos}
theorem wN:PO X none Ct:=by
 intro pins s σ H Q I h
 rw[Rc]
 exact NP ⟨none,H,I,.none,h⟩
theorem wV(h:PE X e te):PO X (some e) (HF te):=by
 intro pins s σ H Q I hw
 rw[Rf]
 refine thn (h pins s σ H _ I hw) ?_
 rintro u s1 ⟨x,H1,I1,r1,q1⟩
 obtain⟨i,rfl,q⟩:=q1
 obtain⟨t,rfl⟩:=r1
 exact⟨some i,H1,I1,.int i t,q⟩
noncomputable def SlR(X:Cx)(r:V->Option Int->Option Int->Hp->VK->Prop):Prop:=
 ∀(pins:List (NN × Obj)) (s:NO) (σ:St) (H:Hp) (x:V) (v vl vu:NK) (lo hi:Option Int) (sl:NN) (Q:VK),Inv X pins σ H s->RelV x v->s.heap.IsSliceOf sl vl vu .none->Rv vl lo->Rv vu hi->r x lo hi H Q->
  ∃ T id,typeLookup (.type T) "__getitem__"=pure (some (.builtin id))/\s.TypeIs v T/\NT (N1 X.prog X.w) X.A (QQ v (.ref sl)) (EP X pins σ Q) X.xe s
def tSl(r:V->Option Int->Option Int->Hp->VK->Prop)(te:TE)(tl th:TO):TE:=fun σ H Q=>te σ H fun x H1=>tl σ H1 fun l H2=>th σ H2 fun u H3=>r x l u H3 Q
theorem su{r:V->Option Int->Option Int->Hp->VK->Prop}(hr:SlR X r)(he:PE X e te)(hl:PO X lo tl)(hu:PO X hi th):PE X (.Subscript e (.Slice lo hi none p2) pos) (tSl r te tl th):=by
 intro pins s σ H Q I h
 refine Rm (thn (he pins s σ H _ I h) ?_)
 rintro v s1 ⟨x,H1,I1,r1,q1⟩
 refine SV (thn (hl pins s1 σ H1 _ I1 q1) fun vl s2 ⟨l,H2,I2,pl,q2⟩=>thn (hu pins s2 σ H2 _ I2 q2) ?_)
 rintro vu s3 ⟨u,H3,I3,pu,q3⟩
 rw[Rc]
 refine NP ?_
 have I4:Inv X pins σ H3 { s3 with heap:=s3.heap.push { cls:=.type "slice",data:=.fields #[vl,vu,.none] } }:=I3.kept (t':=s3.toks) fun b ob q=>NR _ q
 obtain⟨T,id,hT,ht,hg⟩:=hr pins { s3 with heap:=s3.heap.push { cls:=.type "slice",data:=.fields #[vl,vu,.none] } } σ H3 x v vl vu l u s3.heap.objs.size Q I4 r1 (Q3 ..) pl pu q3
 show NT (N1 X.prog X.w) X.A (Pu e (.Slice lo hi none p2) v (.ref s3.heap.objs.size)) (EP X pins σ Q) X.xe { s3 with heap:=s3.heap.push { cls:=.type "slice",data:=.fields #[vl,vu,.none] } }
 exact S4 (ops:=[.ref s3.heap.objs.size,v]) ht hT hg (by with_unfolding_all rfl)
def iw(xs:List V)(lo hi:Option Int):List V:=(xs.drop (HT.sIx xs.length 0 lo)).take (HT.sIx xs.length xs.length hi - HT.sIx xs.length 0 lo)
theorem lI(xs:List V)(lo hi:Option Int):(iw xs lo hi).length<=xs.length:=by
 unfold iw
 rw[A_,C']
 lia
noncomputable def Jm(K:NM):V->Option Int->Option Int->Hp->VK->Prop:=fun x lo hi H Q=>∃ a xs,x=.ref a/\SqT K H a xs/\
 ¬(HT.sIx xs.length 0 lo=0/\HT.sIx xs.length xs.length hi=xs.length)/\∀ p,H p=none->Q (.ref p) (upd H p (.tup (iw xs lo hi)))
theorem EM:SlR X (Jm X.K):=by
 intro pins s σ H x v vl vu lo hi sl Q I rx hs pl pu h
 obtain⟨a,xs,rfl,hx,hw,q⟩:=h
 cases rx
 obtain⟨its,r,ht,hz⟩:=I.tuple hx
 have hlen:its.toArray.size=xs.length:=by rw[m_];exact r.length.symm
 refine⟨"tuple",_,Pp.lookup,ht.typeIs,?_⟩
 refine HT.jT ht hs pl pu (by rw[hlen];exact hw) ?_ (by rw[hlen];exact hz)
 rw[hlen]
 refine⟨.ref s.heap.objs.size,_,I.laid (t':=s.toks) (o:=.tup (iw xs lo hi)) (fun b ob q=>NR _ q) (c_ _) ?_,rfl,q _ (I.hok.fresh (c_ _))⟩
 exact⟨n_ (lI xs lo hi) hz,_,(r.drop (HT.sIx xs.length 0 lo)).take (HT.sIx xs.length xs.length hi - HT.sIx xs.length 0 lo),Sx _ _⟩
noncomputable def Ik(K:NM):R2:=fun x y H Q=>∃ a b xs ys,x=.ref a/\y=.ref b/\SqT K H a xs/\SqT K H b ys/\xs≠[]/\xs.length + ys.length<=sizeLine/\
 (ys=[]->Q (.ref a) H)/\(ys≠[]->∀ p,H p=none->Q (.ref p) (upd H p (.tup (xs++ys))))
theorem Vals.pS {xs:List V}{us:List NK}(r:Vals xs us):us=[]↔xs=[]:=by
 cases r with
 | nil=>simp
 | cons _ _=>simp
theorem Dc:OpR X (OM .Add) (Ik X.K):=by
 intro pins s σ H x y v u Q I rx ry h
 obtain⟨a,b,xs,ys,rfl,rfl,ha,hb,hx,hz,q1,q2⟩:=h
 cases rx
 cases ry
 obtain⟨its,r1,p1,_⟩:=I.tuple ha
 obtain⟨its2,r2,p2,_⟩:=I.tuple hb
 refine HT.CI p1 p2 (fun z=>hx (r1.pS.mp z)) (fun z=>⟨.ref a,H,I,rfl,q1 (r2.pS.mp z)⟩) (fun z=>?_) (by rw[<-r1.length,<-r2.length];exact hz)
 refine⟨.ref s.heap.objs.size,_,I.laid (t':=s.toks) (o:=.tup (xs++ys)) (fun b ob q=>NR _ q) (c_ _) ?_,rfl,q2 (fun w=>z (r2.pS.mpr w)) _ (I.hok.fresh (c_ _))⟩
 exact⟨by rw[h_];exact hz,_,r1.append r2,Sx _ _⟩
theorem lK:bG X (.type "tuple") (fun xs H Q=>∃ a ys,xs=[.ref a]/\SqT X.K H a ys/\Q (.ref a) H):=by
 intro pins s σ H xs us Q I r h
 obtain⟨a,ys,rfl,ha,q⟩:=h
 obtain⟨u,rfl,ru⟩:=vals1 r
 cases ru
 obtain⟨its,_,p1,_⟩:=I.tuple ha
 exact Tf (items:=its.toArray) p1 ⟨.ref a,H,I,rfl,q⟩
end
def ixN(n:Nat)(i:Int):Option Nat:=if 0<=i then(if i < n then some i.toNat else none)else if -(n:Int)<=i then some (i + n).toNat else none
def atI{α:Type}(xs:List α)(i:Int):Option α:=(ixN xs.length i).bind fun j=>xs[j]?
theorem qV{n:Nat}{i:Int}{j:Nat}(h:ixN n i=some j):seqIndex? i n=some j/\j < n/\-(n:Int)<=i/\i < n:=by
 unfold ixN at h
 by_cases h0:0<=i
 ·rw[if_pos h0]at h
  by_cases h1:i < n
  ·rw[if_pos h1]at h
   have e:i.toNat=j:=G_ h
   exact⟨by rw[SW h0 h1,e],by lia,by lia,h1⟩
  rw[if_neg h1]at h;cases h
 rw[if_neg h0]at h
 by_cases h1:-(n:Int)<=i
 ·rw[if_pos h1]at h
  have e:(i + n).toNat=j:=G_ h
  exact⟨by rw[SE (by lia) h1,e],by lia,h1,by lia⟩
 rw[if_neg h1]at h;cases h
theorem qp{α:Type}{xs:List α}{i:Int}{v:α}(h:atI xs i=some v):∃ j,seqIndex? i xs.length=some j/\xs[j]?=some v/\j < xs.length/\-(xs.length:Int)<=i/\i < xs.length:=by
 unfold atI at h
 cases e:ixN xs.length i with
 | none=>rw[e]at h;cases h
 | some j=>
  rw[e]at h
  obtain⟨h1,h2,h3,h4⟩:=qV e
  exact⟨j,h1,h,h2,h3,h4⟩
theorem fY{α:Type}{xs:List α}{j:Nat}{v:α}(h:xs[j]?=some v):atI xs (j:Int)=some v:=by
 have hj:j < xs.length:=(f_.mp h).1
 have e:ixN xs.length (j:Int)=some j:=by
  unfold ixN
  rw[if_pos (by lia),if_pos (by lia)];simp
 unfold atI;rw[e];exact h
def xi(b:N2):Prop:=∀ o i,Q0 b false o i=Vf [o,i] (QQ o i)
noncomputable def IxR(X:Cx)(r:R2):Prop:=
 ∀(value slice:N2) (pins:List (NN × Obj)) (s:NO) (σ:St) (H:Hp) (x y:V) (v u:NK) (Q:VK),Inv X pins σ H s->RelV x v->RelV y u->r x y H Q->
  Q0 slice false v u=Vf [v,u] (QQ v u)->NT (N1 X.prog X.w) X.A (Pu value slice v u) (EP X pins σ Q) X.xe s
noncomputable def MtR(X:Cx)(id:String)(r:V->List V->Hp->VK->Prop):Prop:=
 ∀(pins:List (NN × Obj)) (s:NO) (σ:St) (H:Hp) (x:V) (xs:List V) (v:NK) (us:List NK) (Q:VK),Inv X pins σ H s->RelV x v->Vals xs us->r x xs H Q->
  NT (N1 X.prog X.w) X.A (call (.builtin id) (v::us)) (EP X pins σ Q) X.xe s
section
variable{X:Cx}{a b:N2}{ta tb:TE}{pos:Pos}
theorem IxR.or {r r':R2}(h:IxR X r)(h':IxR X r'):IxR X (fun x y H Q=>r x y H Q\/r' x y H Q):=by
 intro value slice pins s σ H x y v u Q I rx ry q hs
 rcases q with q | q
 ·exact h value slice pins s σ H x y v u Q I rx ry q hs
 exact h' value slice pins s σ H x y v u Q I rx ry q hs
theorem Ea{r:R2}(hr:IxR X r)(ha:PE X a ta)(hb:PE X b tb)(hs:xi b):PE X (.Subscript a b pos) (tOp r ta tb):=by
 intro pins s σ H Q I h
 exact Rm (Fq ha hb I h fun v u s2 x y H2 I2 rx ry q=>hr a b pins s2 σ H2 x y v u Q I2 rx ry q (hs _ _))
def HY(K:NM):R2:=fun x y H Q=>∃ p xs i v,x=.ref p/\y=.int i/\SqL K H p xs/\atI xs i=some v/\Q v H
def Iq(K:NM):R2:=fun x y H Q=>∃ p xs i v,x=.ref p/\y=.int i/\SqT K H p xs/\atI xs i=some v/\Q v H
def II:R2:=fun x y H Q=>∃ z i c,x=.str z/\y=.int i/\z.length<=sizeLine/\atI z.cps.toList i=some c/\Q (.str ⟨#[c]⟩) H
theorem x5:IxR X (HY X.K):=by
 intro value slice pins s σ H x y v u Q I rx ry h hs
 obtain⟨p,xs,i,z,rfl,rfl,hq,he,q⟩:=h
 cases rx
 obtain⟨t,rfl⟩:=ry
 obtain⟨its,r,pl,hz⟩:=I.list hq
 obtain⟨j,h1,h2,h3,h4,h5⟩:=qp he
 obtain⟨w,ew,rw'⟩:=r.get h2
 have hl:=r.length
 have hn:=jo
 have fin:EP X pins σ Q w s:=⟨z,H,I,rw',q⟩
 by_cases h0:0<=i
 ·have hj:i.toNat=j:=by
   rw[SW h0 h5]at h1
   exact G_ h1
  exact item_listR pl.isList h0 (by lia) (by rw[hj];simpa using ew) fin hs
 have hj:(i + (its.toArray.size:Int)).toNat=j:=by
  rw[SE (by lia) h4]at h1
  rw[m_,<-hl]
  exact G_ h1
 exact RO (x:=w) pl.isList.typeIs slot_list_getitem.lookup
  (wpAny_getItem_list_neg (Q:=fun r s'=>r=w/\EP X pins σ Q r s') pl.isList (by lia) (by rw[m_] <;> lia) (by lia) (by rw[hj];simpa using ew) ⟨rfl,fin⟩) hs
theorem G0:IxR X (Iq X.K):=by
 intro value slice pins s σ H x y v u Q I rx ry h hs
 obtain⟨p,xs,i,z,rfl,rfl,hq,he,q⟩:=h
 cases rx
 obtain⟨t,rfl⟩:=ry
 obtain⟨its,r,pl,hz⟩:=I.tuple hq
 obtain⟨j,h1,h2,h3,h4,h5⟩:=qp he
 obtain⟨w,ew,rw'⟩:=r.get h2
 have hl:=r.length
 have hn:=jo
 have fin:EP X pins σ Q w s:=⟨z,H,I,rw',q⟩
 exact RO (x:=w) pl.typeIs slot_tuple_getitem.lookup
  (getItem_tuple (j:=j) (Q:=fun r s'=>r=w/\EP X pins σ Q r s') pl (by lia) (by lia) (by rw[m_,<-hl];exact h1) (by simpa using ew) ⟨rfl,fin⟩) hs
theorem yT:IxR X II:=by
 intro value slice pins s σ H x y v u Q I rx ry h hs
 obtain⟨z,i,c,rfl,rfl,hz,he,q⟩:=h
 obtain⟨t,rfl⟩:=rx
 obtain⟨t',rfl⟩:=ry
 obtain⟨j,h1,h2,h3,h4,h5⟩:=qp he
 have hl:z.cps.toList.length=z.length:=by simp[Str.length]
 rw[hl]at h1 h4 h5
 have hn:=jo
 exact S4 (typeIs_str s z t) slot_str_getitem.lookup (getItem_str (c:=c) (by
  have e1:decide (i < -(2 ^ 63:Int))=false:=decide_eq_false (by lia)
  have e2:decide (i>=2 ^ 63)=false:=decide_eq_false (by lia)
  rw[e1,e2,Bool.or_false]) (by rw[h1];simpa using h2) ⟨.str ⟨#[c]⟩,H,I.tok _,⟨_,rfl⟩,q⟩) hs
def rIx(K:NM):R2:=fun x y H Q=>HY K x y H Q\/Iq K x y H Q\/II x y H Q
theorem G5:IxR X (rIx X.K):=x5.or (G0.or yT)
theorem uj(its:List NK)(n j:Nat)(u:NK):OD (·.setIfInBounds j u) { cls:=.type "list",data:=.seq its.toArray n }={ cls:=.type "list",data:=.seq (its.set j u).toArray n }:=by
 simp[OD]
theorem Inv.lst {pins:List (NN × Obj)}{σ:St}{H:Hp}{s:NO}{p:NN}{xs:List V}(I:Inv X pins σ H s)(h:H p=some (.lst xs)) :
  ∃(its:List NK) (n:Nat),Vals xs its/\s.heap.get? p=some { cls:=.type "list",data:=.seq its.toArray n }/\xs.length<=sizeLine:=by
 obtain⟨z,its,n,r,e⟩:=I.hok p _ h
 exact⟨its,n,r,e,z⟩
theorem Inv.F1 {pins:List (NN × Obj)}{σ:St}{H:Hp}{s:NO}{p:NN}{xs ys:List V}{its its':List NK}{n n':Nat}{f:Obj->Obj}(I:Inv X pins σ H s)(h:H p=some (.lst xs))
  (ho:s.heap.get? p=some { cls:=.type "list",data:=.seq its.toArray n }) (hf:f { cls:=.type "list",data:=.seq its.toArray n }={ cls:=.type "list",data:=.seq its'.toArray n' }) (r:Vals ys its') (hz:ys.length<=sizeLine) (t:Nat) :
  Inv X pins σ (upd H p (.lst ys)) { s with heap:=s.heap.update p f,toks:=t }:=by
 have e:(s.heap.update p f).get? p=some { cls:=.type "list",data:=.seq its'.toArray n' }:=by
  rw[PN f ho (by rw[hf] <;> rfl),hf]
 refine I.write (x:=p) (e:=p) (by rw[h];trivial) (.inl rfl) (fun b u hb q=>(RP _ _ (Qj hb)).trans q) ⟨_,e⟩ ?_
 exact⟨hz,its',n',r,e⟩
def Ic:V->V->V->Hp->(Hp->Prop)->Prop:=fun o i v H Q=>∃ p xs k j,o=.ref p/\i=.int k/\H p=some (.lst xs)/\ixN xs.length k=some j/\Q (upd H p (.lst (xs.set j v)))
theorem set_list:uN X Ic:=by
 intro pins s σ H o i v ov iv u Q I ro ri rv h
 obtain⟨p,xs,k,j,rfl,rfl,hp,hj,q⟩:=h
 cases ro
 obtain⟨t,rfl⟩:=ri
 obtain⟨its,n,r,ho,hz⟩:=I.lst hp
 obtain⟨h1,h2,h3,h4⟩:=qV hj
 have hl:=r.length
 have hn:=jo
 have I':Inv X pins σ (upd H p (.lst (xs.set j v))) { s with heap:=s.heap.update p (OD (·.setIfInBounds j u)) }:=
  I.F1 hp ho (uj its n j u) (r.set rv j) (by rw[JL];exact hz) s.toks
 by_cases h0:0<=k
 ·have hk:k.toNat=j:=by
   rw[SW h0 h4]at h1
   exact G_ h1
  exact PySem.W.ki_setAt ho h0 (by lia) (by rw[m_,<-hl];exact h4) (by rw[hk];exact⟨_,I',q⟩)
 have hk:(k + (its.toArray.size:Int)).toNat=j:=by
  rw[SE (by lia) h3]at h1
  rw[m_,<-hl]
  exact G_ h1
 exact PySem.W.ki_setBack ho (by lia) (by rw[m_,<-hl];exact h3) (by lia) (by rw[hk];exact⟨_,I',q⟩)
theorem qU(lo hi:Option Int)(n:Nat):(O0 lo hi none n).1=((HT.sIx n 0 lo:Nat):Int)/\(O0 lo hi none n).2.1=((HT.sIx n n hi:Nat):Int)/\(O0 lo hi none n).2.2=1:=by
 refine⟨?_,?_,rfl⟩
 ·cases lo with
  | none=>simp[O0,HT.sIx]
  | some i=>
   simp only[O0,HT.sIx,Nj,show(1:Int) > 0 by decide,if_true]
   by_cases h:i < 0
   ·simp only[h,if_true] <;> lia
   simp only[h,if_false] <;> lia
 cases hi with
 | none=>simp[O0,HT.sIx]
 | some i=>
  simp only[O0,HT.sIx,Nj,show(1:Int) > 0 by decide,if_true]
  by_cases h:i < 0
  ·simp only[h,if_true] <;> lia
  simp only[h,if_false] <;> lia
theorem o9(its:List NK)(lo hi:Option Int):Q4 its.toArray lo hi none=((its.drop (HT.sIx its.length 0 lo)).take (HT.sIx its.length its.length hi - HT.sIx its.length 0 lo)).toArray:=by
 obtain⟨h1,h2,h3⟩:=qU lo hi its.toArray.size
 unfold Q4
 rw[h1,h2,h3]
 simp only[sliceRange_one,pick_run,m_] <;> rfl
def Jg(K:NM):V->Option Int->Option Int->Hp->VK->Prop:=fun x lo hi H Q=>∃ a xs,x=.ref a/\SqL K H a xs/\∀ p,H p=none->Q (.ref p) (upd H p (.lst (iw xs lo hi)))
theorem vV:SlR X (Jg X.K):=by
 intro pins s σ H x v vl vu lo hi sl Q I rx hs pl pu h
 obtain⟨a,xs,rfl,hx,q⟩:=h
 cases rx
 obtain⟨its,r,ht,hz⟩:=I.list hx
 have hlen:=r.length
 refine⟨"list",_,slot_list_getitem.lookup,ht.isList.typeIs,?_⟩
 refine Qe ht.isList hs pl pu .none (by simp) ?_ (by rw[m_] <;> lia)
 rw[o9,<-hlen]
 refine⟨.ref s.heap.objs.size,_,I.laid (t':=s.toks) (o:=.lst (iw xs lo hi)) (fun b ob q=>NR _ q) (c_ _) ?_,rfl,q _ (I.hok.fresh (c_ _))⟩
 exact⟨n_ (lI xs lo hi) hz,_,0,(r.drop (HT.sIx xs.length 0 lo)).take (HT.sIx xs.length xs.length hi - HT.sIx xs.length 0 lo),N0 _ rfl⟩
theorem pX:OpR X (Ob .NotIn) (fun x y H Q=>∃ i j,x=.str i/\y=.str j/\Q (.bl (!(!(RC j i 0 j.length 1).isEmpty))) H):=by
 intro pins s σ H x y v u Q I rx ry h
 obtain⟨i,j,rfl,rfl,q⟩:=h
 obtain⟨t,rfl⟩:=rx
 obtain⟨t',rfl⟩:=ry
 exact notIn_str ⟨.bl _,H,I,rfl,q⟩
theorem fV:bG X (.builtin "len") (fun xs H Q=>∃ p ys,xs=[.ref p]/\(SqL X.K H p ys\/SqT X.K H p ys)/\Q (.int ys.length) H):=by
 intro pins s σ H xs us Q I r h
 obtain⟨p,ys,rfl,hq,q⟩:=h
 obtain⟨u,rfl,rx⟩:=vals1 r
 cases rx
 have hn:=jo
 rcases hq with hq | hq
 ·obtain⟨its,r',pl,hz⟩:=I.list hq
  have hlen:=r'.length
  exact Calls.call_len_list pl.isList (by simp only[m_] <;> lia) ⟨.int ys.length,H,I.tok _,⟨s.toks + 1,by rw[m_,hlen]⟩,q⟩
 obtain⟨its,r',pl,hz⟩:=I.tuple hq
 have hlen:=r'.length
 exact len_tuple pl (by simp only[m_] <;> lia) ⟨.int ys.length,H,I.tok _,⟨s.toks + 1,by rw[m_,hlen]⟩,q⟩
theorem pN:bG X (.builtin "len") (fun xs H Q=>∃ z,xs=[.str z]/\z.length<=sizeLine/\Q (.int z.length) H):=by
 intro pins s σ H xs us Q I r h
 obtain⟨z,rfl,hz,q⟩:=h
 obtain⟨u,rfl,t,rfl⟩:=vals1 r
 have hn:=jo
 exact len_str (by lia) ⟨.int z.length,H,I.tok _,⟨_,rfl⟩,q⟩
theorem kx:bG X (.type "list") (fun xs H Q=>∃ p ys,xs=[.ref p]/\(SqL X.K H p ys\/SqT X.K H p ys)/\∀ l,H l=none->Q (.ref l) (upd H l (.lst ys))):=by
 intro pins s σ H xs us Q I r h
 obtain⟨p,ys,rfl,hq,q⟩:=h
 obtain⟨u,rfl,rx⟩:=vals1 r
 cases rx
 have fin:∀(its:List NK),Vals ys its->ys.length<=sizeLine->∀(h':N5) (c':Nat),(∀ b o',s.heap.get? b=some o'->h'.get? b=some o')->
   h'.get? s.heap.objs.size=some { cls:=.type "list",dict:=none,data:=.seq its.toArray c',slots:=#[] }->EP X pins σ Q (.ref s.heap.objs.size) { s with heap:=h' }:=fun its r' hz h' c' kp e=>
  ⟨.ref s.heap.objs.size,_,I.laid (t':=s.toks) kp (c_ _) (show bg X.prog X.w _ h' _ (.lst ys)from⟨hz,its,c',r',e⟩),rfl,q _ (I.hok.fresh (c_ _))⟩
 rcases hq with hq | hq
 ·obtain⟨its,r',pl,hz⟩:=I.list hq
  have hlen:=r'.length
  obtain⟨o,ho,hc,n,hd⟩:=pl.isList
  exact T_ p (.inl rfl) ho hc hd (fun h' c' kp e=>fin its r' hz h' c' kp e) (by simp only[m_] <;> lia)
 obtain⟨its,r',pl,hz⟩:=I.tuple hq
 have hlen:=r'.length
 obtain⟨o,ho,hc,n,hd⟩:=pl
 exact T_ p (.inr rfl) ho hc hd (fun h' c' kp e=>fin its r' hz h' c' kp e) (by simp only[m_] <;> lia)
theorem o8:bG X (.type "tuple") (fun xs H Q=>∃ p ys,xs=[.ref p]/\((SqL X.K H p ys/\∀ l,H l=none->Q (.ref l) (upd H l (.tup ys)))\/(SqT X.K H p ys/\Q (.ref p) H))):=by
 intro pins s σ H xs us Q I r h
 obtain⟨p,ys,rfl,h⟩:=h
 obtain⟨u,rfl,rx⟩:=vals1 r
 cases rx
 rcases h with⟨hq,q⟩ | ⟨hq,q⟩
 ·obtain⟨its,r',pl,hz⟩:=I.list hq
  have hlen:=r'.length
  refine call_tuple_list pl.isList (fun h' kp=>?_) (by simp only[m_] <;> lia)
  have I1:Inv X pins σ H { s with heap:=h' }:=I.kept (t':=s.toks) kp
  have I2:Inv X pins σ (upd H h'.objs.size (.tup ys)) { s with heap:=h'.push { cls:=.type "tuple",data:=.seq its.toArray } }:=
   I1.laid (t':=s.toks) (fun b o e=>NR _ e) (c_ _) (show bg X.prog X.w _ _ _ (.tup ys)from⟨hz,its,r',Sx _ _⟩)
  exact⟨.ref h'.objs.size,_,I2,rfl,q _ (I1.hok.fresh (c_ _))⟩
 obtain⟨its,r',pl,hz⟩:=I.tuple hq
 exact Tf pl ⟨.ref p,H,I,rfl,q⟩
noncomputable def tyV(K:NM)(T:String)(x:V)(H:Hp):Prop:=match x with
 | .str _=>T="str"
 | .int _=>T="int"
 | .ref p=>(T="list"/\∃ xs,SqL K H p xs)\/(T="tuple"/\∃ o,K.lookup p=some o/\o.cls=.type "tuple"/\o.dict=none)\/
   (T="dict"/\((∃ kvs,H p=some (.dK kvs))\/∃ kvs,H p=some (.dT kvs)))\/(T="set"/\∃ S n,H p=some (.set S n))
 | _=>False
theorem Bn{pins:List (NN × Obj)}{σ:St}{H:Hp}{s:NO}{T:String}{x:V}{v:NK}(I:Inv X pins σ H s)(r:RelV x v)(ty:tyV X.K T x H) :
  s.TypeIs v T/\∀ a,v=.ref a->∃ ob,s.heap.get? a=some ob/\ob.dict=none:=by
 cases x with
 | str z=>
  obtain⟨t,rfl⟩:=r
  cases (show T="str" from ty)
  exact⟨typeIs_str s z t,fun _ e=>nomatch e⟩
 | int i=>
  obtain⟨t,rfl⟩:=r
  cases (show T="int" from ty)
  exact⟨Tg s i t,fun _ e=>nomatch e⟩
 | ref p=>
  cases r
  rcases ty with⟨rfl,xs,hq⟩ | ⟨rfl,o,hk,hc,hd⟩ | ⟨rfl,hk⟩ | ⟨rfl,S,n,hk⟩
  ·obtain⟨its,_,pl,_⟩:=I.list hq
   refine⟨pl.isList.typeIs,fun a e=>?_⟩
   cases e
   obtain⟨o,n,e,c,hd,_⟩:=pl
   exact⟨o,e,hd⟩
  ·refine⟨⟨o,I.kIn p o hk,hc⟩,fun a e=>?_⟩
   cases e
   exact⟨o,I.kIn _ o hk,hd⟩
  ·have z:∃ o,s.heap.get? p=some o/\o.ExactDict:=by
    rcases hk with⟨kvs,hk⟩ | ⟨kvs,hk⟩
    ·obtain⟨_,_,_,_,o,_,_,e,ex,_⟩:=I.hok p _ hk
     exact⟨o,e,ex⟩
    obtain⟨_,_,_,_,o,_,_,e,ex,_⟩:=I.hok p _ hk
    exact⟨o,e,ex⟩
   obtain⟨o,e,ex⟩:=z
   refine⟨⟨o,e,ex.1⟩,fun a e2=>?_⟩
   cases e2
   exact⟨o,e,ex.2.1⟩
  ·obtain⟨o,_,_,_,e,ex,_⟩:=I.hok p _ hk
   refine⟨⟨o,e,ex.1⟩,fun a e2=>?_⟩
   cases e2
   exact⟨o,e,ex.2.1⟩
 | _=>exact N4 ty
def Jz(K:NM)(T:String)(r:V->List V->Hp->VK->Prop)(to:TE):TE:=fun σ H Q=>to σ H fun x H1=>tyV K T x H1/\r x [] H1 Q
def tBM(K:NM)(T:String)(r:V->List V->Hp->VK->Prop)(to:TE)(t:TA):TE:=fun σ H Q=>to σ H fun x H1=>tyV K T x H1/\t σ H1 fun xs H2=>r x xs H2 Q
variable{o e:N2}{es:List N2}{to:TE}{t:TA}{name:Str}{apos cpos:Pos}{T id:String}{r:V->List V->Hp->VK->Prop}
theorem EO(pa:PlainAttrs T)(slot:Slot T name id)(hty:Ti (.builtin id)=pure (.type "method_descriptor"))(hm:MtR X id r)(ho:PE X o to)
  (hbase:P0 o name X.env (Og o X.env)=Og o X.env:=by rfl) (hline:(apos.endLine == cpos.line)=true:=by rfl):PE X (.Call (.Attribute o name apos) [] [] cpos) (Jz X.K T r to):=by
 intro pins s σ H Q I h
 refine wpAny_Call_method0_late hbase hline (thn (ho pins s σ H _ I h) ?_)
 rintro v s1 ⟨x,H1,I1,r1,ty,q1⟩
 obtain⟨h1,h2⟩:=Bn I1 r1 ty
 exact⟨T,id,pa,slot,hty,h1,h2,PK rfl (PySem.evalArgs_none (hm pins s1 σ H1 x [] v [] Q I1 r1 .nil q1))⟩
theorem J8(pa:PlainAttrs T)(slot:Slot T name id)(hty:Ti (.builtin id)=pure (.type "method_descriptor"))(hm:MtR X id r)(ho:PE X o to)(ha:PA X (e::es) t)
  (hbase:P0 o name X.env (Og o X.env)=Og o X.env:=by rfl)
  (hfew:((O_ cpos (N7 (e::es) X.env)).all (fun x=>!x.1) && (S5 cpos (RQ [] X.env)).all (fun x=>x.1.isSome)
   && decide ((e::es).length + ([]:List QS).length + (if([]:List QS).isEmpty then 0 else 1) < 30))=true:=by rfl)
  (hline:(apos.endLine == cpos.line)=true:=by rfl) (hs:N7 (e::es) X.env=(false,Og e X.env)::N7 es X.env:=by rfl) (hplain:(O_ cpos (N7 es X.env)).any (·.1)=false:=by rfl) :
  PE X (.Call (.Attribute o name apos) (e::es) [] cpos) (tBM X.K T r to t):=by
 intro pins s σ H Q I h
 refine wpAny_Call_method_late hbase hfew hline rfl (thn (ho pins s σ H _ I h) ?_)
 rintro v s1 ⟨x,H1,I1,r1,ty,q1⟩
 obtain⟨h1,h2⟩:=Bn I1 r1 ty
 refine⟨T,id,pa,slot,hty,h1,h2,?_⟩
 have hA:=ha cpos pins s1 σ H1 _ I1 q1
 rw[hs]at hA ⊢
 refine PK (by show(false || (O_ cpos (N7 es X.env)).any (·.1))=false;rw[hplain] <;> rfl) (QF ?_)
 exact thn hA fun us s2 ⟨vs,H2,I2,r2,q2⟩=>hm pins s2 σ H2 x vs v us Q I2 r1 r2 q2
end
noncomputable def MtM(X:Cx)(id:String)(r:V->List V->Hp->VK->Prop):Prop:=
 ∀(pins:List (NN × Obj)) (s:NO) (σ:St) (H:Hp) (x:V) (xs:List V) (v:NK) (us:List NK) (Q:VK),Inv X pins σ H s->RelV x v->Vals xs us->r x xs H Q->
  NT (N1 X.prog X.w) X.A (call (.builtin id) (v::us)) (EP X pins σ Q) X.xe s
theorem Vals.one:∀ {x:V} {us:List NK},Vals [x] us->∃ u,us=[u]/\RelV x u
 | _,_,.cons r .nil=>⟨_,rfl,r⟩
theorem Vals.zero:∀ {us:List NK},Vals [] us->us=[]
 | _,.nil=>rfl
theorem Vals.reverse {xs:List V}{us:List NK}(h:Vals xs us):Vals xs.reverse us.reverse:=by
 induction h with
 | nil=>exact .nil
 | cons r t ih=>rw[K8,K8];exact Vals.append ih (.cons r .nil)
section
variable{X:Cx}{pins:List (NN × Obj)}{σ:St}{H:Hp}{s:NO}{l b:NN}{xs ys zs:List V}
theorem Inv.Fc {its its':List NK}{n:Nat}{f:Array NK->Array NK}{t':Nat}(I:Inv X pins σ H s)(hH:H l=some (.lst xs))
  (e:s.heap.get? l=some { cls:=.type "list",data:=.seq its.toArray n }) (hf:f its.toArray=its'.toArray) (hv:Vals ys its') (hz:ys.length<=sizeLine) :
  Inv X pins σ (upd H l (.lst ys)) { s with heap:=s.heap.update l (OD f),toks:=t' }:=by
 have q:=VA e f
 rw[hf]at q
 refine I.write (x:=l) (e:=l) (by rw[hH];exact trivial) (.inl rfl) (fun b' u hb hu=>(RP s.heap (OD f) (Qj hb)).trans hu) ⟨_,q⟩ ?_
 exact⟨hz,its',_,hv,q⟩
theorem Inv.Jj {its:List NK}{t':Nat}(I:Inv X pins σ H s)(hv:Vals ys its)(hz:ys.length<=sizeLine) :
  Inv X pins σ (upd H s.heap.objs.size (.lst ys)) { s with heap:=s.heap.push { cls:=.type "list",data:=.seq its.toArray },toks:=t' }:=
 I.laid (fun _ _ q=>NR _ q) (c_ _) ⟨hz,its,0,hv,N0 _ rfl⟩
theorem Inv.fresh (I:Inv X pins σ H s):H s.heap.objs.size=none:=I.hok.fresh (c_ _)
theorem Inv.BZ (I:Inv X pins σ H s)(hH:H l=some (.lst xs)):xs.length<=sizeLine/\∃(its:List NK) (n:Nat),Vals xs its/\xs.length=its.length/\s.heap.get? l=some { cls:=.type "list",data:=.seq its.toArray n }:=by
 obtain⟨z,its,n,r,e⟩:=I.hok l _ hH
 exact⟨z,its,n,r,r.length,e⟩
theorem AH{n:Nat}(h:n<=sizeLine):Qf n=false:=by
 unfold Qf
 exact decide_eq_false (by lia)
end
section
variable{X:Cx}
noncomputable def BJ:V->List V->Hp->VK->Prop:=fun x vs H Q=>∃ l xs y,x=.ref l/\vs=[y]/\H l=some (.lst xs)/\xs.length < sizeLine/\Q .non (upd H l (.lst (xs++[y])))
theorem lu:MtM X "list.append" BJ:=by
 intro pins s σ H x vs v us Q I rx rv h
 obtain⟨l,xs,y,rfl,rfl,hH,hz,q⟩:=h
 cases rx
 obtain⟨u,rfl,ru⟩:=rv.one
 obtain⟨z,its,n,r,hl,e⟩:=I.BZ hH
 refine R' F.slot_list_append ⟨_,e,rfl⟩ F.entry_list_append (F.args_list_append_2 _ _) (PySem.list_append l its.toArray n u (by rw[m_];lia)) ⟨e,?_⟩
 refine⟨.non,_,I.Fc (its':=its++[u]) hH e (by simp) (r.append (.cons ru .nil)) ?_,rfl,q⟩
 rw[h_,List.length_singleton]
 lia
noncomputable def CK:V->List V->Hp->VK->Prop:=fun x vs H Q=>∃ l b xs zs,x=.ref l/\vs=[.ref b]/\H l=some (.lst xs)/\H b=some (.lst zs)/\xs.length + zs.length<=sizeLine/\Q .non (upd H l (.lst (xs++zs)))
theorem yj:MtM X "list.extend" CK:=by
 intro pins s σ H x vs v us Q I rx rv h
 obtain⟨l,b,xs,zs,rfl,rfl,hH,hB,hz,q⟩:=h
 cases rx
 obtain⟨u,rfl,ru⟩:=rv.one
 cases ru
 obtain⟨z,its,n,r,hl,e⟩:=I.BZ hH
 obtain⟨z2,its2,n2,r2,hl2,e2⟩:=I.BZ hB
 have hsz:its.toArray.size + its2.toArray.size<=sizeLine:=by rw[m_,m_];lia
 have hlong:¬(!its.toArray.isEmpty && Qf (its.toArray.size + its2.toArray.size))=true:=by
  rw[AH hsz,Nz]
  exact A'
 refine R' F.slot_list_extend ⟨_,e,rfl⟩ F.entry_list_extend (F.args_list_extend_2 _ _)
  (S6 l its.toArray n b its2.toArray n2 hlong (by rw[m_];lia) (by lia)) ⟨e,e2,?_⟩
 refine⟨.non,_,I.Fc (its':=its++its2) hH e (by simp) (r.append r2) ?_,rfl,q⟩
 rw[h_]
 omega
def A0:V->List V->Hp->VK->Prop:=fun x vs H Q=>∃ l xs,x=.ref l/\vs=[]/\H l=some (.lst xs)/\Q .non (upd H l (.lst xs.reverse))
theorem uA:MtM X "list.reverse" A0:=by
 intro pins s σ H x vs v us Q I rx rv h
 obtain⟨l,xs,rfl,rfl,hH,q⟩:=h
 cases rx
 have hus:=rv.zero
 subst hus
 obtain⟨z,its,n,r,hl,e⟩:=I.BZ hH
 refine R' F.slot_list_reverse ⟨_,e,rfl⟩ F.entry_list_reverse (F.args_list_reverse_1 _) (TJ l its.toArray n (by rw[m_];lia)) ⟨e,?_⟩
 refine⟨.non,_,I.Fc (its':=its.reverse) hH e (by simp) r.reverse ?_,rfl,q⟩
 rw[Ko]
 omega
end
section
variable{κ:Type}[DecidableEq κ]
def fN(kvs:List (κ × V))(k:κ):Option V:=(kvs.find? fun kv=>decide (kv.1=k)).map (·.2)
noncomputable def putK(kvs:List (κ × V))(k:κ)(v:V):List (κ × V):=
 if(kvs.any fun kv=>decide (kv.1=k))=true then kvs.map (fun kv=>if kv.1=k then(kv.1,v)else kv)else kvs++[(k,v)]
theorem nB{p:κ × V}{r:List (κ × V)}{k:κ}(e:p.1=k):fN (p::r) k=some p.2:=by simp[fN,JP,e]
theorem nD{p:κ × V}{r:List (κ × V)}{k:κ}(e:¬ p.1=k):fN (p::r) k=fN r k:=by simp[fN,JP,e]
theorem jz(k:κ):∀ kvs:List (κ × V),(kvs.any fun kv=>decide (kv.1=k))=(fN kvs k).isSome
 | []=>rfl
 | p::r=>by
  rw[Ky]
  by_cases e:p.1=k
  ·simp only[nB e,decide_eq_true e,Bool.true_or,MY]
  rw[nD e,decide_eq_false e,L'];exact jz k r
theorem iC(kvs:List (κ × V))(k:κ)(v:V):(putK kvs k v).length<=kvs.length + 1:=by
 unfold putK
 split
 ·rw[a_];lia
 rw[h_,j_,Lr];lia
theorem kj{kvs:List (κ × V)}{k:κ}(v:V)(h:fN kvs k=none):putK kvs k v=kvs++[(k,v)]:=by
 unfold putK
 rw[jz,h]
 exact if_neg (by decide)
theorem oh.lB {o:Option V}{u:Option NK}(r:oh o u):o.isSome=u.isSome:=by
 cases o with
 | none=>cases u with
  | none=>rfl
  | some _=>exact(show False from r).elim
 | some _=>cases u with
  | none=>exact(show False from r).elim
  | some _=>rfl
theorem KV.val {kvs:List (κ × V)}{vs:List (κ × NK)}(r:KV kvs vs)(k:κ):oh (fN kvs k) (Rq vs k):=by
 unfold KV at r
 induction r with
 | nil=>exact O1
 | @cons p q ps qs h t ih=>
  obtain⟨h1,h2⟩:=h
  by_cases e:p.1=k
  ·have e':q.1=k:=h1.symm.trans e
   have b:Rq (q::qs) k=some q.2:=by simp[Rq,JP,e']
   rw[nB e,b];exact h2
  have e':¬ q.1=k:=fun z=>e (h1.trans z)
  have b:Rq (q::qs) k=Rq qs k:=by simp[Rq,JP,e']
  rw[nD e,b];exact ih
theorem KV.any {kvs:List (κ × V)}{vs:List (κ × NK)}(r:KV kvs vs)(k:κ):(kvs.any fun kv=>decide (kv.1=k))=vs.any fun kv=>decide (kv.1=k):=by
 unfold KV at r
 induction r with
 | nil=>rfl
 | cons h t ih=>rw[Ky,Ky,ih,h.1]
theorem KV.Ew {kvs:List (κ × V)}{vs:List (κ × NK)}(r:KV kvs vs)(k:κ){y:V}{u:NK}(ry:RelV y u) :
  KV (kvs.map fun kv=>if kv.1=k then(kv.1,y)else kv) (vs.map fun kv=>if kv.1=k then(kv.1,u)else kv):=by
 unfold KV at r ⊢
 induction r with
 | nil=>exact .nil
 | @cons p q ps qs h t ih=>
  rw[d_,d_]
  refine .cons ?_ ih
  obtain⟨h1,h2⟩:=h
  by_cases e:p.1=k
  ·rw[if_pos e,if_pos (h1.symm.trans e)];exact⟨h1,ry⟩
  rw[if_neg e,if_neg (fun z=>e (h1.trans z))];exact⟨h1,h2⟩
theorem KV.put {kvs:List (κ × V)}{vs:List (κ × NK)}(r:KV kvs vs)(k:κ){y:V}{u:NK}(ry:RelV y u):KV (putK kvs k y) (stored vs k u):=by
 unfold putK stored
 rw[r.any k]
 by_cases e:(vs.any fun kv=>decide (kv.1=k))=true
 ·rw[if_pos e,if_pos e];exact r.Ew k ry
 rw[if_neg e,if_neg e];exact U6 r ⟨rfl,ry⟩
theorem KV.length {kvs:List (κ × V)}{vs:List (κ × NK)}(r:KV kvs vs):kvs.length=vs.length:=OF r
end
theorem rZ{P:NW}{w:N3}{k:Key}{u:NK}(r:RelV (kV k) u):(bx P w).is k u=true:=by
 cases k with
 | inl i=>obtain⟨t,e⟩:=(show ∃ t,u=Qw i t from r);subst e;exact rC P w i t
 | inr x=>obtain⟨t,e⟩:=(show ∃ t,u=Sw x t from r);subst e;exact rV P w x t
theorem oA{P:NW}{w:N3}:∀ {ks:List Key} {us:List NK},Vals (ks.map kV) us->ItemsAre (bx P w) ks us
 | [],_,r=>by rw[Ks]at r;cases r;exact .nil
 | k::ks,_,r=>by
  rw[d_]at r
  cases r with
  | cons h t=>exact .cons (rZ h) (oA t)
abbrev KT(H:Hp):List (List Key × V)->List (List Key × NN × NK)->Prop:=Pw fun p q=>p.1=q.1/\H q.2.1=some (.tup (p.1.map kV))/\RelV p.2 q.2.2
theorem KT.val {H:Hp}{kvs:List (List Key × V)}{xs:List (List Key × NN × NK)}(r:KT H kvs xs)(k:List Key):oh (fN kvs k) ((RI xs k).map (·.2)):=by
 induction r with
 | nil=>exact O1
 | @cons p q ps qs h t ih=>
  obtain⟨h1,_,h2⟩:=h
  by_cases e:p.1=k
  ·have e':q.1=k:=h1.symm.trans e
   have b:RI (q::qs) k=some q.2:=by simp[RI,JP,e']
   rw[nB e,b];exact h2
  have e':¬ q.1=k:=fun z=>e (h1.trans z)
  have b:RI (q::qs) k=RI qs k:=by simp[RI,JP,e']
  rw[nD e,b];exact ih
theorem KT.Ew {H:Hp}{kvs:List (List Key × V)}{xs:List (List Key × NN × NK)}(r:KT H kvs xs)(k:List Key){y:V}{u:NK}(ry:RelV y u) :
  KT H (kvs.map fun kv=>if kv.1=k then(kv.1,y)else kv) (xs.map (putAt k u)):=by
 induction r with
 | nil=>exact .nil
 | @cons p q ps qs h t ih=>
  rw[d_,d_]
  refine .cons ?_ ih
  obtain⟨h1,h2,h3⟩:=h
  unfold putAt
  by_cases e:p.1=k
  ·rw[if_pos e,if_pos (h1.symm.trans e)];exact⟨h1,h2,ry⟩
  rw[if_neg e,if_neg (fun z=>e (h1.trans z))];exact⟨h1,h2,h3⟩
theorem KT.put {H:Hp}{kvs:List (List Key × V)}{xs:List (List Key × NN × NK)}(r:KT H kvs xs)(k:List Key){b:NN}{y:V}{u:NK}(hb:H b=some (.tup (k.map kV)))(ry:RelV y u) :
  KT H (putK kvs k y) (storedH xs k b u):=by
 have e:(kvs.any fun kv=>decide (kv.1=k))=(RI xs k).isSome:=by
  rw[jz,(r.val k).lB,M8]
 unfold putK storedH
 rw[e]
 by_cases q:(RI xs k).isSome=true
 ·rw[if_pos q,if_pos q];exact r.Ew k ry
 rw[if_neg q,if_neg q];exact U6 r ⟨rfl,hb,ry⟩
theorem KT.keeps {H H':Hp}{kvs:List (List Key × V)}{xs:List (List Key × NN × NK)}(r:KT H kvs xs)(ht:∀ b ys,H b=some (.tup ys)->H' b=some (.tup ys)):KT H' kvs xs:=
 Paired.EA r fun _ _ z=>⟨z.1,ht _ _ z.2.1,z.2.2⟩
section
variable{P:NW}{w:N3}{H:Hp}{h:N5}{a:NN}
theorem E2{u:HO}(ok:HOk P w H h)(e:Rd H a u):bg P w H h a u:=e.ok ok
theorem oz{kvs:List (Key × V)}(ok:HOk P w H h)(e:Rd H a (.dK kvs)):kvs.length<=sizeLine/\(a == Ol)=false/\∃ vs,KV kvs vs/\h.DictOf (bx P w) a vs:=
 show bg P w H h a (.dK kvs)from E2 ok e
theorem DM{kvs:List (Key × V)}(ok:HOk P w H h)(e:H a=some (.dK kvs)):kvs.length<=sizeLine/\(a == Ol)=false/\∃ vs,KV kvs vs/\h.DictOf (bx P w) a vs:=oz ok (.inl e)
theorem kK{ks:List Key}(ok:HOk P w H h)(e:H a=some (.tup (ks.map kV))):(Py (bx P w)).is h ks a:=by
 obtain⟨_,its,r,o,h1,h2,n,h3⟩:=(show bg P w H h a (.tup (ks.map kV))from ok a _ e)
 exact⟨o,its.toArray,n,h1,h2,h3,by simpa using oA r⟩
theorem oE{kvs:List (List Key × V)}(ok:HOk P w H h)(e:Rd H a (.dT kvs)):kvs.length<=sizeLine/\(a == Ol)=false/\
  ∃ xs,KT H kvs xs/\h.DictOfH (Py (bx P w)) a xs:=by
 obtain⟨z,y,xs,r,o,es,ep,h1,h2,h3,h4,h5⟩:=(show bg P w H h a (.dT kvs)from E2 ok e)
 refine⟨z,y,xs,r,o,es,ep,h1,h2,h3,h4,fun x hx=>?_,h5⟩
 have all:∀ {l:List (List Key × V)} {m:List (List Key × NN × NK)},KT H l m->∀ x∈m,(Py (bx P w)).is h x.1 x.2.1:=by
  intro l m q
  induction q with
  | nil=>intro x hx;exact nomatch hx
  | @cons p q ps qs hq t ih=>
   intro x hx
   rcases t_.mp hx with e | hx
   ·subst e
    exact kK ok (by rw[<-hq.1];exact hq.2.1)
   exact ih x hx
 exact all r x hx
theorem zG{kvs:List (List Key × V)}(ok:HOk P w H h)(e:H a=some (.dT kvs)):kvs.length<=sizeLine/\(a == Ol)=false/\
  ∃ xs,KT H kvs xs/\h.DictOfH (Py (bx P w)) a xs:=oE ok (.inl e)
end
noncomputable def kF(H:Hp)(a:NN)(y:V)(r:Option V):Prop:=
 (∃ kvs k,Rd H a (.dK kvs)/\y=kV k/\r=fN kvs k)\/∃ kvs k b,Rd H a (.dT kvs)/\y=.ref b/\H b=some (.tup (k.map kV))/\r=fN kvs k
noncomputable def xR(H:Hp)(a:NN)(y v:V)(H':Hp):Prop:=
 (∃ kvs k,H a=some (.dK kvs)/\y=kV k/\kvs.length < sizeLine/\H'=upd H a (.dK (putK kvs k v)))\/
 ∃ kvs k b,H a=some (.dT kvs)/\y=.ref b/\H b=some (.tup (k.map kV))/\kvs.length < sizeLine/\H'=upd H a (.dT (putK kvs k v))
theorem kF.k {H:Hp}{a:NN}{kvs:List (Key × V)}{k:Key}(e:H a=some (.dK kvs)):kF H a (kV k) (fN kvs k):=.inl ⟨kvs,k,.inl e,rfl,rfl⟩
theorem xR.k {H:Hp}{a:NN}{kvs:List (Key × V)}{k:Key}{v:V}(e:H a=some (.dK kvs))(hl:kvs.length < sizeLine):xR H a (kV k) v (upd H a (.dK (putK kvs k v))):=.inl ⟨kvs,k,e,rfl,hl,rfl⟩
section
variable{X:Cx}{pins:List (NN × Obj)}{σ:St}{H:Hp}{s:NO}{a:NN}{y v:V}{u r:NK}{o:Option V}{A:N_}{E:NK->NO->Prop}
theorem Inv.big (I:Inv X pins σ H s):Ol < s.heap.objs.size:=by
 have h:OA < s.heap.objs.size:=(I.mod.glob.keeps I.bk).lt
 exact LR (by decide) h
theorem pC{Q:NK->NO->Prop}(hu:A.units + 1 < cLine)(I:Inv X pins σ H s)(g:kF H a y (some v))(ry:RelV y u)(h:∀ w' s',Inv X pins σ H s'->RelV v w'->Q w' s') :
  NT (N1 X.prog X.w) A (QQ (.ref a) u) Q E s:=by
 rcases g with⟨kvs,k,e,ey,l⟩ | ⟨kvs,k,b,e,ey,eb,l⟩
 ·subst ey
  obtain⟨z,hd,vs,rel,dd⟩:=oz I.hok e
  obtain⟨w',hw,rw'⟩:=oh.some_of (v:=v) (o:=Rq vs k) (by rw[l];exact rel.val k)
  exact wpAny_getItem_of (rZ ry) dd.mapOf hw (h w' _ (I.tok _) rw')
 subst ey
 cases (show u=Oa b from ry)
 obtain⟨z,hd,xs,rel,dd⟩:=oE I.hok e
 obtain⟨w',hw,rw'⟩:=oh.some_of (v:=v) (o:=(RI xs k).map (·.2)) (by rw[l];exact rel.val k)
 obtain⟨p,hp,hp2⟩:=Option.map_eq_some_iff.mp hw
 refine wpAny_getItem_heap (PH hu) (kK I.hok eb) dd hp ?_
 rw[hp2]
 exact h w' _ (I.tok _) rw'
theorem xf{Q:NK->NO->Prop}(hu:A.units + 1 < cLine)(I:Inv X pins σ H s)(g:kF H a y o)(ry:RelV y u)(h:∀ s',Inv X pins σ H s'->Q (.bool (!o.isSome)) s') :
  NT (N1 X.prog X.w) A (Ob .NotIn u (.ref a)) Q E s:=by
 rcases g with⟨kvs,k,e,ey,l⟩ | ⟨kvs,k,b,e,ey,eb,l⟩
 ·subst ey
  obtain⟨z,hd,vs,rel,dd⟩:=oz I.hok e
  refine wpAny_notIn_of (rZ ry) hd dd.mapOf ?_
  rw[<-(rel.val k).lB,<-l]
  exact h _ (I.tok _)
 subst ey
 cases (show u=Oa b from ry)
 obtain⟨z,hd,xs,rel,dd⟩:=oE I.hok e
 refine wpAny_notIn_heap (PH hu) (kK I.hok eb) hd dd ?_
 have q:=(rel.val k).lB
 rw[M8]at q
 rw[<-q,<-l]
 exact h _ (I.tok _)
theorem jS{h':N5}{t':Nat}{ob:HO}(I:Inv X pins σ H s)(mu:Mut (H a))(hs:OL a s.heap h')(he:∃ q,h'.get? a=some q)(new:bg X.prog X.w (upd H a ob) h' a ob) :
  Inv X pins σ (upd H a ob) { s with heap:=h',toks:=t' }:=
 I.write (x:=a) (e:=a) mu (.inl rfl) (fun b q hb z=>(hs.2 b hb).trans z) he new
theorem AZ{P:NW}{w:N3}{H':Hp}{h':N5}{kvs:List (Key × V)}{vs:List (Key × NK)}(z:kvs.length<=sizeLine)(hd:(a == Ol)=false)(rel:KV kvs vs)(dd:h'.DictOf (bx P w) a vs) :
  bg P w H' h' a (.dK kvs):=⟨z,hd,vs,rel,dd⟩
theorem kD{H':Hp}{Q:Unit->NO->Prop}(hu:A.units + 1 < cLine)(I:Inv X pins σ H s)(g:xR H a y v H')(ry:RelV y u)(rv:RelV v r)(h:∀ s',Inv X pins σ H' s'->Q () s') :
  NT (N1 X.prog X.w) A (TB (.ref a) u r) Q E s:=by
 rcases g with⟨kvs,k,e,ey,l,eH⟩ | ⟨kvs,k,b,e,ey,eb,l,eH⟩
 ·subst ey eH
  obtain⟨z,hd,vs,rel,dd⟩:=DM I.hok e
  have hz:vs.length<=sizeLine:=by rw[<-rel.length];exact z
  have hl:(putK kvs k v).length<=sizeLine:=by have:=iC kvs k v;lia
  refine wpAny_setItem_pairs (hsz:=hz) (rZ ry) dd fun h' dd' hs=>h _ ?_
  have he:∃ q,h'.get? a=some q:=let ⟨q,_,_,hq,_⟩:=dd';⟨q,hq⟩
  exact jS I (by rw[e];exact O1) hs he (AZ hl hd (rel.put k rv) dd')
 subst ey eH
 cases (show u=Oa b from ry)
 obtain⟨z,hd,xs,rel,dd⟩:=zG I.hok e
 have hz:xs.length<=sizeLine:=by rw[<-OF rel];exact z
 have hl:(putK kvs k v).length<=sizeLine:=by have:=iC kvs k v;lia
 refine wpAny_setItem_heap (hsz:=hz) (PH hu) (kK I.hok eb) dd fun h' dd' hs=>h _ ?_
 obtain⟨q,es,ep,hq,h2,h3,h4,_,h5⟩:=dd'
 refine jS I (by rw[e];exact O1) hs ⟨q,hq⟩ ⟨hl,hd,_,(rel.put k eb rv).keeps fun c ys ec=>?_,q,es,ep,hq,h2,h3,h4,h5⟩
 rw[aH (xw ec e (fun z=>nomatch z))]
 exact ec
end
section
variable{X:Cx}{pins:List (NN × Obj)}{σ:St}{H:Hp}{s:NO}{a:NN}{kvs:List (Key × V)}{k:Key}{u:NK}{A:N_}{E:NK->NO->Prop}
theorem HB{Q:NK->NO->Prop}(I:Inv X pins σ H s)(e:Rd H a (.dK kvs))(h:∀ t s',Inv X pins σ H s'->Q (.int kvs.length t) s'):NT (N1 X.prog X.w) A (call (.builtin "len") [.ref a]) Q E s:=by
 obtain⟨z,hd,vs,rel,dd⟩:=oz I.hok e
 refine call_len_dict hd dd (by rw[<-rel.length];rw[sizeLine_eq]at z;lia) ?_
 rw[<-rel.length]
 exact h _ _ (I.tok _)
end
def HV(i:N2):Prop:=∀ ov iv,Q0 i false ov iv=Vf [ov,iv] (QQ ov iv)
theorem CN{prog:NW}{w:N3}{A:N_}{E:NK->NO->Prop}{s:NO}{env:Env}{value slice:N2}{pos:Pos}{T id:String}{Q:NK->NO->Prop}
  (hl:typeLookup (.type T) "__getitem__"=pure (some (.builtin id))) (hs:HV slice)
  (h:NT (N1 prog w) A (Og value env) (fun o s₁=>NT (N1 prog w) A (Og slice env) (fun i s₂=>s₂.TypeIs o T/\NT (N1 prog w) A (QQ o i) Q E s₂) E s₁) E s) :
  NT (N1 prog w) A (Og (.Subscript value slice pos) env) Q E s:=by
 refine Rm (Oh h (fun o s₁ h₁=>Oh h₁ (fun i s₂ h₂=>?_) fun _ _ x=>x) fun _ _ x=>x)
 obtain⟨hT,h₂⟩:=h₂
 unfold Pu
 refine NL ?_
 rw[RZ hT.not_modules]
 refine NL (Tj hT hl ?_)
 have fin:NT (N1 prog w) A (Q0 slice false o i) (fun r s₃=>NT (N1 prog w) A (TL value o r >>= fun _=>pure r) Q E s₃) E s₂:=by
  rw[hs o i]
  exact Tn (Oh h₂ (fun r s₃ h₃=>NL (Sd (NP h₃))) fun _ _ x=>x)
 first
  | exact NP (NL fin)
  | exact NL (NP (NL fin))
  | exact NL fin
theorem lP{X:Cx}{pins:List (NN × Obj)}{σ:St}{H:Hp}{s:NO}{a:NN}{y:V}{o:Option V}(I:Inv X pins σ H s)(g:kF H a y o):s.TypeIs (.ref a) "dict":=by
 rcases g with⟨kvs,k,e,_,_⟩ | ⟨kvs,k,b,e,_,_,_⟩
 ·obtain⟨_,_,vs,_,dd⟩:=oz I.hok e
  exact dd.typeIs
 obtain⟨_,_,xs,_,dd⟩:=oE I.hok e
 exact dd.typeIs
def Hq(td ty:TE):TE:=fun σ H Q=>td σ H fun x H1=>ty σ H1 fun y H2=>∃ a v,x=.ref a/\kF H2 a y (some v)/\Q v H2
def J0(td ty tv:TE):TS:=fun D σ H=>tv σ H fun v H1=>td σ H1 fun x H2=>ty σ H2 fun y H3=>∃ a H4,x=.ref a/\xR H3 a y v H4/\D.nx σ H4
section
variable{X:Cx}{o i e value:N2}{pos pos' tpos:Pos}{td ty tv:TE}
theorem mI(hu:X.A.units + 1 < cLine)(ho:PE X o td)(hi:PE X i ty)(hs:HV i):PE X (.Subscript o i pos) (Hq td ty):=by
 intro pins s σ H Q I h
 refine CN Rn.lookup hs (thn (ho pins s σ H _ I h) fun u s1 ⟨x,H1,I1,rx,q1⟩=>thn (hi pins s1 σ H1 _ I1 q1) ?_)
 rintro iv s2 ⟨y,H2,I2,ry,a,v,ex,g,q2⟩
 subst ex
 obtain rfl:u=Oa a:=rx
 exact⟨lP I2 g,pC hu I2 g ry fun w' s3 I3 rw'=>⟨v,H2,I3,rw',q2⟩⟩
theorem Cc(hu:X.A.units + 1 < cLine)(ho:PE X o td)(hi:PE X i ty)(hv:PE X value tv)(hs:P' value (some (.Subscript o i pos')) pos.line X.env=pure false) :
  PS X (.Assign [.Subscript o i pos'] value pos) (J0 td ty tv):=by
 intro pins s σ H D I h
 refine wpAny_Assign_Subscript (thn (hv pins s σ H _ I h) fun r s1 ⟨v,H1,I1,rv,q1⟩=>thn (ho pins s1 σ H1 _ I1 q1) fun u s2 ⟨x,H2,I2,rx,q2⟩=>thn (hi pins s2 σ H2 _ I2 q2) fun iv s3 ⟨y,H3,I3,ry,a,H4,ex,g,q3⟩=>?_) hs
 subst ex
 obtain rfl:u=Oa a:=rx
 exact kD hu I3 g ry rv fun s4 I4=>⟨σ,H4,I4,q3⟩
end
theorem zU{P:NW}{w:N3}{H:Hp}(h:N5)(hb:Ol < h.objs.size):bg P w H (h.push { cls:=.type "dict",data:=.dict #[] }) h.objs.size (.dK []):=
 ⟨z_ _,beq_eq_false_iff_ne.mpr (Qj (yp hb)),[],.nil,VF h⟩
theorem zm{P:NW}{w:N3}{H:Hp}(h:N5)(hb:Ol < h.objs.size):bg P w H (h.push { cls:=.type "dict",data:=.dict #[] }) h.objs.size (.dT []):=
 ⟨z_ _,beq_eq_false_iff_ne.mpr (Qj (yp hb)),[],.nil,_,#[],0,N0 _ rfl,⟨rfl,rfl,rfl⟩,rfl,rfl,MD⟩
def Gk:TE:=fun _ H Q=>∀ p,H p=none->Q (.ref p) (upd H p (.dT []))
section
variable{X:Cx}{pos:Pos}
theorem AA:PE X (.Dict [] [] pos) Gk:=fun pins s σ H Q I h=>
 wpAny_Dict_empty ⟨.ref s.heap.objs.size,_,I.laid (a:=s.heap.objs.size) (o:=.dT []) (t':=s.toks) (fun _ _ q=>NR _ q) (c_ _) (zm s.heap I.big),rfl,h _ (I.hok.fresh (c_ _))⟩
end
def vc:List (TE × TE)->St->Hp->(List (V × V)->Hp->Prop)->Prop
 | [],_,H,Q=>Q [] H
 | (tk,tv)::r,σ,H,Q=>tk σ H fun x H1=>tv σ H1 fun y H2=>vc r σ H2 fun ps H3=>Q ((x,y)::ps) H3
abbrev VV:List (V × V)->List (NK × NK)->Prop:=Pw fun p q=>RelV p.1 q.1/\RelV p.2 q.2
noncomputable def PPs(X:Cx)(pos:Pos)(keys:List (Option N2))(values:List N2)(trs:List (TE × TE)):Prop:=
 ∀(pins:List (NN × Obj)) (s:NO) (σ:St) (H:Hp) (Q:List (V × V)->Hp->Prop),Inv X pins σ H s->vc trs σ H Q->
  NT (N1 X.prog X.w) X.A (evalPairs (pairTrees keys values X.env pos)) (fun vs s'=>∃ ps H',Inv X pins σ H' s'/\VV ps vs/\Q ps H') X.xe s
theorem BH{X:Cx}{pos:Pos}:PPs X pos [] [] []:=fun pins s σ H Q I h=>pairTrees_nil_walk ⟨[],H,I,.nil,h⟩
theorem tI{X:Cx}{pos:Pos}{k v:N2}{ks:List (Option N2)}{vs:List N2}{tk tv:TE}{trs:List (TE × TE)}(hk:PE X k tk)(hv:PE X v tv)(hr:PPs X pos ks vs trs) :
  PPs X pos (some k::ks) (v::vs) ((tk,tv)::trs):=fun pins s σ H Q I h=>
 pairTrees_cons_walk (thn (hk pins s σ H _ I h) fun u s1 ⟨x,H1,I1,rx,q1⟩=>thn (hv pins s1 σ H1 _ I1 q1) fun w2 s2 ⟨y,H2,I2,ry,q2⟩=>
  thn (hr pins s2 σ H2 _ I2 q2) fun ws s3 ⟨ps,H3,I3,rel,q3⟩=>⟨(x,y)::ps,H3,I3,.cons ⟨rx,ry⟩ rel,q3⟩)
def iB(kvs more:List (Key × V)):List (Key × V):=more.foldl (fun acc kv=>putK acc kv.1 kv.2) kvs
theorem KV.merge:∀ {more:List (Key × V)} {rs:List (Key × NK)} {kvs:List (Key × V)} {vs:List (Key × NK)},KV more rs->KV kvs vs->KV (iB kvs more) (merged vs rs):=by
 intro more rs kvs vs r
 unfold KV at r
 induction r generalizing kvs vs with
 | nil=>intro q;exact q
 | @cons p q ps qs h t ih=>
  intro r0
  have e:KV (putK kvs p.1 p.2) (stored vs q.1 q.2):=by
   have:=r0.put p.1 h.2
   rw[<-h.1];exact this
  exact ih e
theorem ji:∀(more kvs:List (Key × V)),(iB kvs more).length<=kvs.length + more.length
 | [],kvs=>by show kvs.length<=kvs.length + 0;lia
 | p::r,kvs=>by
  have h1:=ji r (putK kvs p.1 p.2)
  have h2:=iC kvs p.1 p.2
  show(iB (putK kvs p.1 p.2) r).length<=_
  rw[j_];lia
theorem nK{P:NW}{w:N3}:∀ {kvs:List (Key × V)} {ws:List (NK × NK)},VV (kvs.map fun kv=>(kV kv.1,kv.2)) ws->∃ rs,Carries (bx P w) ws rs/\KV kvs rs
 | [],_,r=>by rw[Ks]at r;cases r;exact⟨[],O1,.nil⟩
 | p::kvs,_,r=>by
  rw[d_]at r
  cases r with
  | @cons a b as bs h t=>
   obtain⟨rs,c,q⟩:=nK (P:=P) (w:=w) t
   obtain⟨b1,b2⟩:=b
   exact⟨(p.1,b2)::rs,⟨rZ h.1,rfl,c⟩,.cons ⟨rfl,h.2⟩ q⟩
noncomputable def He(trs:List (TE × TE)):TE:=fun σ H Q=>∀ p,H p=none->vc trs σ (upd H p (.dK [])) fun ps H2=>H2 p=some (.dK [])/\∃ kvs:List (Key × V),ps=kvs.map (fun kv=>(kV kv.1,kv.2))/\kvs.length<=15/\Q (.ref p) (upd H2 p (.dK (iB [] kvs)))
theorem CZ{X:Cx}{pos:Pos}{keys:List (Option N2)}{values:List N2}{trs:List (TE × TE)}(h:PPs X pos keys values trs)(hall:keys.all (·.isSome)=true)(hl:keys.length=values.length)(h0:keys≠[])
  (h15:keys.length<=15):PE X (.Dict keys values pos) (He trs):=by
 intro pins s σ H Q I q
 have hn:=I.hok.fresh (c_ s.heap.objs.size)
 have I1:=I.laid (a:=s.heap.objs.size) (o:=.dK []) (h':=s.heap.push { cls:=.type "dict",data:=.dict #[] }) (t':=s.toks) (fun _ _ q=>NR _ q) (c_ _) (zU s.heap I.big)
 refine wpAny_Dict_walk (knd:=bx X.prog X.w) hall hl h0 h15 (thn (h pins _ σ _ _ I1 (q _ hn)) ?_)
 rintro ws s2 ⟨ps,H2,I2,rel,e,kvs,ep,lk,q2⟩
 subst ep
 obtain⟨rs,c,rk⟩:=nK (P:=X.prog) (w:=X.w) rel
 obtain⟨z,hd,vs0,r0,dd⟩:=DM I2.hok e
 cases r0
 refine⟨rs,c,dd,fun h' dd' hs=>⟨.ref s.heap.objs.size,_,?_,rfl,q2⟩⟩
 have hz:(iB [] kvs).length<=sizeLine:=by
  have h1:=ji kvs []
  rw[Lr]at h1
  rw[sizeLine_eq];lia
 have he:∃ q,h'.get? s.heap.objs.size=some q:=let ⟨q,_,_,hq,_⟩:=dd';⟨q,hq⟩
 exact jS I2 (by rw[e];exact O1) hs he (AZ hz hd (rk.merge .nil) dd')
structure M1 (X:Cx) (o:N2) (m:Str) (apos:Pos) (e:N2) (cpos:Pos):Prop where
 base:P0 o m X.env (Og o X.env)=Og o X.env
 few:((O_ cpos (N7 [e] X.env)).all (fun x=>!x.1) && (S5 cpos (RQ [] X.env)).all (fun x=>x.1.isSome)
  && decide (([e]:List N2).length + ([]:List QS).length + (if([]:List QS).isEmpty then 0 else 1) < 30))=true
 line:(apos.endLine == cpos.line)=true
 trees:O_ cpos (N7 [e] X.env)=[(false,Og e X.env)]
structure M2 (X:Cx) (o:N2) (m:Str) (apos:Pos) (e f:N2) (cpos:Pos):Prop where
 base:P0 o m X.env (Og o X.env)=Og o X.env
 few:((O_ cpos (N7 [e,f] X.env)).all (fun x=>!x.1) && (S5 cpos (RQ [] X.env)).all (fun x=>x.1.isSome)
  && decide (([e,f]:List N2).length + ([]:List QS).length + (if([]:List QS).isEmpty then 0 else 1) < 30))=true
 line:(apos.endLine == cpos.line)=true
 trees:O_ cpos (N7 [e,f] X.env)=[(false,Og e X.env),(false,Og f X.env)]
def IsD(H:Hp)(a:NN):Prop:=(∃ kvs,Rd H a (.dK kvs))\/∃ kvs,Rd H a (.dT kvs)
theorem AO{X:Cx}{pins:List (NN × Obj)}{σ:St}{H:Hp}{s:NO}{a:NN}(I:Inv X pins σ H s)(d:IsD H a) :
  s.TypeIs (.ref a) "dict"/\(∀ b,Oa a=.ref b->∃ ob,s.heap.get? b=some ob/\ob.dict=none)/\(a == Ol)=false:=by
 rcases d with⟨kvs,e⟩ | ⟨kvs,e⟩
 ·obtain⟨_,hd,vs,_,dd⟩:=oz I.hok e
  refine⟨dd.typeIs,fun b q=>?_,hd⟩
  cases q
  obtain⟨ob,_,_,h1,h2,_⟩:=dd
  exact⟨ob,h1,h2.2.1⟩
 obtain⟨_,hd,xs,_,dd⟩:=oE I.hok e
 refine⟨dd.typeIs,fun b q=>?_,hd⟩
 cases q
 obtain⟨ob,_,_,h1,h2,_⟩:=dd
 exact⟨ob,h1,h2.2.1⟩
end L2
namespace Att
open PySem PySem.W PySem.Calls PyProof.Rows
theorem m5{P:Rx}{h:N5}:∀(ns:List Int) (vs:List NK),WellAll P h vs (ns.map WData.int)->QR vs ns:=by
 intro ns
 induction ns with
 | nil=>
  intro vs w
  rw[Ks]at w
  cases w
  exact .nil
 | cons n ns ih=>
  intro vs w
  rw[d_]at w
  cases w with
  | cons a b=>
   cases a
   exact .cons _ _ (ih _ b)
theorem yz{l:OpenLaw}{n:Nat}(hn:l.most=some n){P:Rx}{h:N5}{args:List WData}{vals:List NK}
  (hpre:l.row.toRowW.claim.pre args=true) (hwl:WellAll P h vals args) :
  ∃ a vs ns,vals=[Oa a]/\args=[WData.list (ns.map WData.int)]/\h.get? a=some { cls:=.type "list",data:=.seq vs.toArray }/\QR vs ns/\ns.length<=n:=by
 have hsh:WShape.hasAll [] args [.list .int]=true:=(pre_splitW hpre).1
 have hc:l.pre.holds [] { args:=args }=true:=(pre_splitW hpre).2
 obtain⟨d,r,rfl,h1,h2⟩:=hasAllW_cons hsh
 obtain rfl:=hasAllW_nil h2
 obtain⟨xs,rfl,h3⟩:=hasW_list h1
 obtain⟨ns,rfl⟩:=items_int h3
 have hlen:ns.length<=n:=by
  unfold OpenLaw.pre at hc
  have h4:(WTm.not (.lt (.lit (.int (n:Int))) (.len (.arg 0)))).holds [] { args:=[.list (ns.map .int)] }=true:=by
   have h4:=(holds_andW hc).1
   rw[hn]at h4
   exact h4
  have h5:=condW_of h4 (w_not (w_lt w_lit (w_len_list (w_arg rfl))))
  rw[a_]at h5
  refine JQ fun q=>?_
  have q':(n:Int) < ((ns.length:Nat):Int):=by lia
  first
   | (rw[decide_eq_true q']at h5;exact absurd h5 (by decide))
   | (simp at h5;omega)
 cases hwl with
 | cons w1 w2=>
  cases w2
  cases w1 with
  | list ho hall=>exact⟨_,_,ns,rfl,rfl,ho,m5 ns _ hall,hlen⟩
theorem y4(l:OpenLaw)(args:List WData):l.row.toRowW.claim.post args (.bool true) args=true:=
 postW_of (r:=l.row.toRowW) (X:=(true == true))
  (show WShape.has [] (.bool true) .bool=true by first | rfl | decide | simp[WShape.has,WShape.arms,WShape.armsAll])
  (show(WTm.eq .res (.lit (.bool true))).value [] { args:=args,res:=some (.bool true),after:=args }=some (.bool (true == true))from w_eq_bool (w_res rfl) w_lit) rfl
theorem tU{l:OpenLaw}{n:Nat}{q:NW}{loose:List Str}{XP:(Str->Option NK)->N5->Prop}{YP:N3->N5->Prop}{d:DefRec}
  (hn:l.most=some n) (hdf:d.params.defaults=[])
  (call:∀(w:N3) (s₀ s₁:NO) (mg mb:Str->Option NK) (fa:NN) (o:Obj) (pm cd doc:NK) (a:NN) (vs:List NK) (ns:List Int),
   Ground q loose [] XP w s₀ mg mb s₁.heap->YP w s₁.heap->
   s₁.heap.get? fa=some o->o.data=.func (docDef d.name d.params d.body d.scope pm cd doc)->s₁.heap.CodeRec cd d.name->mg d.name=some (.ref fa)->
   s₁.heap.get? a=some { cls:=.type "list",data:=.seq vs.toArray }->QR vs ns->ns.length<=n->s₁.gens=#[]->
   Qz (N1 l.prog w) Rr (.call (.ref fa) ⟨[.ref a],[]⟩) (fun r s'=>r=.ok (.ret (.bool true))/\OldK s₁.heap s'.heap/\s'.os=s₁.os/\Qx s'.gens) s₁) :
  WalkO q loose XP YP l.row.toRowW d [] (fun f vs=>To f vs):=by
 intro w s₀ s₁ mg mb G Y fa o pm cd doc dV kV ho hd hcd hD hmg hg args vals as hpre hlay hrd hwl hlo
 obtain rfl:dV=.none:=Dflts.none hD hdf
 obtain rfl:kV=.none:=Dflts.noKw hD
 obtain⟨a,vs,ns,rfl,rfl,hobj,hints,hlen⟩:=yz hn hpre hwl
 refine enter_call (Qc (call w s₀ s₁ mg mb fa o pm cd doc a vs ns G Y ho (fd_plain hd) hcd hmg hobj hints hlen hg) fun r s' hq=>?_)
 obtain⟨rfl,h2,h3,h4⟩:=hq
 exact⟨.inl ⟨.bool true,.bool true,[],rfl,fun _=>rfl,.bool true,y4 l _,fun _=>⟨LG,fun _ hm=>(nomatch hm)⟩⟩,h2,h3,h4⟩
section
variable{prog:NW}{w:N3}{A:N_}{E:NK->NO->Prop}{s:NO}{K:Frag}
def ledger(h:N5)(L d:NN):List (NN × Obj):=(p_ h.objs.size).filterMap fun a=>if a=L\/a=d then none else(h.get? a).map fun o=>(a,o)
end
end Att
namespace L2
open PySem PySem.Spec PyProof.Rows
theorem pB:∀ {vs:List NK} {ns:List Int},QR vs ns->Vals (ns.map V.int) vs
 | _,_,.nil=>.nil
 | _,_,.cons n t h=>.cons ⟨t,rfl⟩ (pB h)
def Ex(H:Hp):Prop:=∀ b,H b=none\/∃ o xs,H b=some (.frz o (.lst xs))
theorem B9{P:NW}{w:N3}{K:NM}{mg mb:Str->Option NK}{CX:CXT}{k:Nat}{fa a:NN}{fd:N9}{x:Str}{sp:Sp}{s₁:NO}{vs:List NK}{ns:List Int}
  (KX:K.In s₁.heap) (hns:s₁.heap.Ns OA mg) (hb:s₁.heap.Ns R8 mb) (hbb:∀ x:Str,x≠"__name__"->mb x=Pl x) (hlim:s₁.heap.NoLimit) (hg:s₁.gens=#[])
  (ha:s₁.heap.get? a=some { cls:=.type "list",data:=.seq vs.toArray }) (hi:QR vs ns) (hl:ns.length<=sizeLine) (hr:Room k Rr)
  (F:∀ base:N5,K.In base->base.Ns OA mg->FnOk P w K mg base CX k fa fd [x] sp) (hbind:∀(s:NO) (u:NK),RY s fd ⟨[u],[]⟩ [(x,u)])
  (hsp:∀ H:Hp,Ex H->SqL K H a (ns.map V.int)->sp [.ref a] H (fun v _=>v=.bl true) fun _ _ _=>False)
  (hCX:∀ H e s',CX [] H s₁ (fun _ _ _=>False) e s'->False) :
  Qz (N1 P w) Rr (.call (.ref fa) ⟨[.ref a],[]⟩) (fun r s'=>r=.ok (.ret (.bool true))/\OldK s₁.heap s'.heap/\s'.os=s₁.os/\Qx s'.gens) s₁:=by
 have rv:=pB hi
 have lenV:=hi.length
 have core:∀ H:Hp,Ex H->SqL K H a (ns.map V.int)->HOk P w H s₁.heap->(∀ b,H b≠none->b=a)->(H a≠none->K.lookup a=none)->
   Qz (N1 P w) Rr (.call (.ref fa) ⟨[.ref a],[]⟩) (fun r s'=>r=.ok (.ret (.bool true))/\OldK s₁.heap s'.heap/\s'.os=s₁.os/\Qx s'.gens) s₁:=by
  intro H hO hS hok hA hK
  have base_of:∀ {b:NN} {o:Obj},s₁.heap.get? b=some o->H b=none->(qo s₁.heap H).get? b=some o:=fun e n=>zl e n
  have noA:∀ {b:NN} {o:Obj} {es:Array O4} {ep:Nat},s₁.heap.get? b=some o->o.data=.dict es ep->H b=none:=fun{b o es ep} e d=>by
   cases q:H b with
   | none=>rfl
   | some u=>
    have e':b=a:=hA b (by rw[q];simp)
    subst e'
    rw[ha]at e;cases e
    have d':UM vs.toArray _=Data.dict es ep:=d
    cases d'
  have nsK:∀ {b:NN} {m:Str->Option NK},s₁.heap.Ns b m->(qo s₁.heap H).Ns b m:=fun{b m} ⟨o,es,ep,e,d,r⟩=>⟨o,es,ep,base_of e (noA e d),d,r⟩
  have hKb:K.In (qo s₁.heap H):=fun b o e=>base_of (KX b o e) (by
   cases q:H b with
   | none=>rfl
   | some u=>
    have e':b=a:=hA b (by rw[q];simp)
    subst e'
    rw[hK (by rw[q];simp)]at e;cases e)
  have hM:Mod K mg (qo s₁.heap H):=⟨hKb,nsK hns,⟨mb,nsK hb,hbb⟩,let ⟨mc,h1,h2⟩:=hlim;⟨mc,nsK h1,h2⟩⟩
  have e0:Env0 P w K mg (qo s₁.heap H) Rr [] s₁ H:=⟨rfl,hM,fun b o e=>Ci e,Lv (yH _ _),trivial,fun b hb=>absurd (show b∈([]:List NN)from hb) (by simp),hok,.of_eq hg⟩
  refine Qc ((F _ hKb (nsK hns)).run Rr [] s₁ H ⟨[.ref a],[]⟩ [.ref a] [.ref a] _ _ hr e0 (hbind s₁ (.ref a)) (.cons rfl .nil) (hsp H hO hS)) fun r s' h=>?_
  cases r with
  | error e=>exact(hCX H e s' h).elim
  | ok fl=>
   cases fl with
   | next=>exact N4 h
   | brk=>exact N4 h
   | cont=>exact N4 h
   | ret u=>
    obtain⟨v,H',os,bare,un,hok',r',q⟩:=h
    have q':v=.bl true:=q
    subst q'
    obtain rfl:u=R7 true:=r'
    refine⟨rfl,OldK.of_keep fun b o e=>?_,os,bare⟩
    cases q:H b with
    | none=>exact un.keep b o e q (by intro z;exact absurd (show b∈([]:List NN)from z) (by simp)) (by simp)
    | some u=>
     rcases hO b with z | ⟨ob,xs,z⟩
     ·rw[q]at z;cases z
     have z2:=un.frzs b ob _ z
     obtain⟨e1,_⟩:=hok b _ z
     obtain⟨e2,_⟩:=hok' b _ z2
     rw[e]at e1;cases e1
     exact e2
 cases hk:K.lookup a with
 | some o=>
  have e:=KX a o hk
  rw[ha]at e
  cases e
  refine core (fun _=>none) (fun _=>.inl rfl) (.inr ⟨_,vs.toArray,_,hk,rfl,rfl,rfl,by rw[m_,lenV];exact hl,by simpa using rv⟩) (fun b u z=>by have z':(none:Option HO)=some u:=z;cases z') (fun b z=>absurd rfl z) fun z=>absurd rfl z
 | none=>
  refine core (fun b=>if b=a then some (.frz { cls:=.type "list",data:=.seq vs.toArray } (.lst (ns.map V.int)))else none) (fun b=>?_) (.inl (.inr ⟨{ cls:=.type "list",data:=.seq vs.toArray },if_pos rfl⟩)) (fun b u z=>?_) (fun b z=>?_) fun _=>hk
  ·by_cases hb:b=a
   ·exact .inr ⟨_,_,if_pos hb⟩
   exact .inl (if_neg hb)
  ·by_cases hb:b=a
   ·have z':=(if_pos hb).symm.trans z
    cases z'
    subst hb
    exact⟨ha,by rw[a_];exact hl,vs,_,rv,ha⟩
   have z':=(if_neg hb).symm.trans z
   cases z'
  by_cases hb:b=a
  ·exact hb
  exact absurd (if_neg hb) z
theorem Ce{l:RJ}{n k:Nat}{q:NW}{loose:List Str}{XP:(Str->Option NK)->N5->Prop}{YP:N3->N5->Prop}{d:DefRec}{K:Rx->NM}{CX:N3->CXT}{sp:N3->Sp}{x:Str}
  (hn:l.most=some n) (hn2:n<=sizeLine) (hdf:d.params.defaults=[]) (hr:Room k Rr)
  (hY:∀(w:N3) (h:N5),YP w h->(K w.params).In h)
  (F:∀(w:N3) (mg:Str->Option NK) (fa:NN) (h:N5),(K w.params).In h->h.Ns OA mg->mg d.name=some (.ref fa)->
   ∃ fd:N9,(∀(s:NO) (u:NK),RY s fd ⟨[u],[]⟩ [(x,u)])/\
    ∀ base:N5,(K w.params).In base->base.Ns OA mg->FnOk l.prog w (K w.params) mg base (CX w) k fa fd [x] (sp w))
  (hsp:∀(w:N3) (H:Hp) (a:NN) (ns:List Int),ns.length<=n->Ex H->SqL (K w.params) H a (ns.map V.int)->sp w [.ref a] H (fun v _=>v=.bl true) fun _ _ _=>False)
  (hCX:∀(w:N3) (H:Hp) (s:NO) (e:NK) (s':NO),CX w [] H s (fun _ _ _=>False) e s'->False) :
  T' q loose XP YP l.row.toRowW d [] (fun f vs=>To f vs):=by
 refine Att.tU hn hdf fun w s₀ s₁ mg mb fa o pm cd doc a vs ns G Y ho hd hcd hmg hobj hints hlen hg=>?_
 have KX:=hY w _ Y
 obtain⟨fd,hb,hF⟩:=F w mg fa _ KX G.T.g hmg
 exact B9 KX G.T.g G.T.b G.T.builtins G.T.nolimit hg hobj hints (n_ hlen hn2) hr hF hb (fun H hO hS=>hsp w H a ns hlen hO hS) fun H e s'=>hCX w H s₁ e s'
def gx(s:Of):Arguments:=match s with
 | .FunctionDef _ a _ _ _ _ _ _ _ _=>a
 | _=>{ posonlyargs:=[],args:=[],vararg:=none,kwonlyargs:=[],kw_defaults:=[],kwarg:=none,defaults:=[] }
def fF(s:Of):List Of:=match s with
 | .FunctionDef _ _ b _ _ _ _ _ _ _=>b
 | _=>[]
def aA(s:Of):OH:=match s with
 | .FunctionDef _ _ _ _ _ _ sc _ _ _=>sc
 | _=>{ kind:=.function,names:=[],isGenerator:=false,isCoroutine:=false }
abbrev CX0:CXT:=fun _ _ _ _ _ _=>False
abbrev E0:XK:=fun _ _ _=>False
theorem Hh{X:Cx}:Passes CX0 X E0:=fun _ _ _ _ _ _ _ h=>h.elim
structure Fun (K:NM) (x qual:Str) (st:Of) (f:NN) (fd:N9):Prop where
 ex:∃(oc:NK) (od:Option NN) (kV doc pm:NK) (an:Option NN) (cdv ct:NK) (osl:Array (Option NK)),
  fd=Pa x qual (gx st) (fF st) (aA st) .none kV doc pm an cdv ct/\K.lookup f=some ⟨oc,od,.func fd,osl⟩/\QP K cdv qual=true
 kp:Qk K (.ref f)=true
section
variable{P:NW}{w:N3}{K:NM}{mg:Str->Option NK}{base:N5}
theorem Fun.ok {x qual:Str}{st:Of}{f:NN}{fd:N9}{N ps:List Str}{k:Nat}{sp:Sp}(F:Fun K x qual st f fd)(S:FnScope N ps (aA st))(len:∀ vs H Q E,sp vs H Q E->vs.length=ps.length)
  (hbody:∀(cdv:NK) (A:N_) (outer:List Env) (s:NO) (H:Hp) (vs:List V) (Q:VK) (E:XK),Room k (A.deeper (QE qual (aA st) s.heap.objs.size f cdv))->sp vs H Q E->
   ∃ t,PSs (vj CX0 P w K mg base N qual (aA st) f cdv A outer s H E).nox (fF st) t/\t { nx:=fun _ H'=>Q .non H',rt:=Q } (start N vs) H):FnOk P w K mg base CX0 (k + 1) f fd ps sp:=by
 obtain⟨oc,od,kV,doc,pm,an,cdv,ct,osl,rfl,lk,hcd⟩:=F.ex
 refine HK lk hcd S len fun A outer s H vs Q E hr hsp=>?_
 obtain⟨t,h,q⟩:=hbody cdv A outer s H vs Q E hr hsp
 exact⟨t,h.nox,q⟩
theorem Fun.binds {x qual:Str}{st:Of}{f:NN}{fd:N9}{ps:List Str}(F:Fun K x qual st f fd)
  (h:∀(kV doc pm:NK) (an:Option NN) (cdv ct:NK) (us:List NK),us.length=ps.length->UK (Pa x qual (gx st) (fF st) (aA st) .none kV doc pm an cdv ct) ⟨us,[]⟩=pure (ps.zip us)):Binds K fd ps []:=by
 obtain⟨oc,od,kV,doc,pm,an,cdv,ct,osl,rfl,lk,hcd⟩:=F.ex
 exact .all (h kV doc pm an cdv ct)
theorem um{x qual:Str}{st:Of}{f:NN}{oc:NK}{od an:Option NN}{osl:Array (Option NK)}{kV doc pm cdv ct:NK}(l:K.lookup f=some ⟨oc,od,.func (Pa x qual (gx st) (fF st) (aA st) .none kV doc pm an cdv ct),osl⟩)
  (c:QP K cdv qual=true) (k:Qk K (.ref f)=true):Fun K x qual st f (Pa x qual (gx st) (fF st) (aA st) .none kV doc pm an cdv ct):=⟨⟨oc,od,kV,doc,pm,an,cdv,ct,osl,rfl,l,c⟩,k⟩
end
theorem iF{A:N_}{k:Nat}(hr:Room k A):A.units + 1 < cLine:=G' (Ln (by decide:1<=64) _) hr.units
section
variable{X:Cx}
theorem pv(i:Nat){x:Str}{pos:Pos}(hN:X.N[i]?=some x:=by rfl)(hv:Vis X.env.scope x:=by first | exact e_ rfl | exact k_ (e_ rfl) | exact k_ (k_ rfl))(hd:(x ==("__debug__":Str))=false:=by decide)
  (hcd:(x ==("__classdict__":Str))=false:=by decide):PE X (.Name x pos) (FH i):=gA hN hv hd hcd
end
theorem J6{A B:Prop}(h:B):if false=true then A else B:=by
 rw[if_neg A']
 exact h
theorem GF{A B:Prop}(h:A):if true=true then A else B:=by
 rw[if_pos rfl]
 exact h
def bo(H H':Hp):Prop:=∀ b o,H b=some o->H' b=some o
theorem bo.seq {K:NM}{H H':Hp}{a:NN}{xs:List V}(e:bo H H')(h:SqL K H a xs):SqL K H' a xs:=by
 rcases h with (h | ⟨o,h⟩) | h
 ·exact .inl (.inl (e _ _ h))
 ·exact .inl (.inr ⟨o,e _ _ h⟩)
 exact .inr h
end L2
namespace ZG
open PySem
def Sq(b:Bool)(h:N5)(l:NN)(xs:Array NK):Prop:=match b with
 | true=>h.IsTuple l xs
 | false=>h.IsList l xs
def Dr(b:Bool)(h:N5)(i l:NN)(k:Nat):Prop:=match b with
 | true=>h.IsTupleIter i l k
 | false=>h.IsListIter i l k
theorem Sq.ext {b:Bool}{h h':N5}{l c:NN}{xs:Array NK}(x:Sq b h l xs)(k:Qp c h h')(n:l≠c):Sq b h' l xs:=by
 cases b with
 | true=>exact Vn (show h.IsTuple l xs from x) k n
 | false=>exact Vt (show h.IsList l xs from x) k n
theorem Dr.ext {b:Bool}{h h':N5}{i l c:NN}{k:Nat}(x:Dr b h i l k)(e:Qp c h h')(n:i≠c):Dr b h' i l k:=by
 cases b with
 | true=>exact UY (show h.IsTupleIter i l k from x) e n
 | false=>exact U7 (show h.IsListIter i l k from x) e n
theorem Dr.some {b:Bool}{h:N5}{i l:NN}{k:Nat}(x:Dr b h i l k):∃ o,h.get? i=some o/\∀ v,o.data≠.cell v:=by
 cases b with
 | true=>obtain⟨o,e,_,d⟩:=(show h.IsTupleIter i l k from x);exact⟨o,e,fun v z=>by rw[d]at z;cases z⟩
 | false=>obtain⟨o,e,_,d⟩:=(show h.IsListIter i l k from x);exact⟨o,e,fun v z=>by rw[d]at z;cases z⟩
theorem Dr.at {b:Bool}{h h':N5}{i l:NN}{k:Nat}(x:Dr b h i l k)(e:∀ o,h.get? i=Mz o->h'.get? i=Mz o):Dr b h' i l k:=by
 cases b with
 | true=>obtain⟨o,q,r⟩:=(show h.IsTupleIter i l k from x);exact⟨o,e o q,r⟩
 | false=>obtain⟨o,q,r⟩:=(show h.IsListIter i l k from x);exact⟨o,e o q,r⟩
theorem Sq.at {b:Bool}{h h':N5}{l:NN}{xs:Array NK}(x:Sq b h l xs)(e:∀ o,h.get? l=Mz o->h'.get? l=Mz o):Sq b h' l xs:=by
 cases b with
 | true=>obtain⟨o,q,r⟩:=(show h.IsTuple l xs from x);exact⟨o,e o q,r⟩
 | false=>obtain⟨o,q,r⟩:=(show h.IsList l xs from x);exact⟨o,e o q,r⟩
section
variable{prog:NW}{w:N3}{A:N_}{E:NK->NO->Prop}{s:NO}
theorem BR{i l:NN}{k:Nat}{xs:Array NK}{v:NK}{Q:NK->NO->Prop}(d:s.heap.IsTupleIter i l k)(q:s.heap.IsTuple l xs)(hv:xs[k]?=some v)
  (r:∀ g,g.IsTupleIter i l (k + 1)->OL i s.heap g->Q v { s with heap:=g }):NT (N1 prog w) A (Oi (.ref i)) Q E s:=by
 obtain⟨oi,hoi,ci,di⟩:=id d
 obtain⟨ol,hol,_,nl,dl⟩:=q
 unfold Oi
 refine NL (Ox (name:=Pb "__next__") d.typeIs Pf (OI Pf d.typeIs Q5 ?_ (QT _)))
 show NT _ _ (Se (.ref i) 0 >>= _) _ _ s
 refine NL (OG hoi di (x:=.ref l) rfl ?_)
 show NT _ _ (if(Oa l == Om)=true then _ else _) _ _ s
 rw[if_neg (show ¬((Oa l == Om)=true)from A')]
 show NT _ _ (Se (.ref i) 1 >>= _) _ _ s
 refine NL (OG hoi di (x:=.int k 0) rfl ?_)
 show NT _ _ (seqItems? (.ref l) >>= _) _ _ s
 refine NL (O8 hol dl ?_)
 simp only[K7,hv]
 refine NL (QU hoi di (by simp) (NP ⟨v,rfl,NP (r _ ?_ (O7 ..))⟩))
 exact⟨_,PN _ hoi (R0 (Qg di _)),(SK ..).trans ci,by rw[Qg di];simp[O']⟩
theorem Fl{i l:NN}{k:Nat}{xs:Array NK}{Q:NK->NO->Prop}(hh:A.handled=none)(d:s.heap.IsTupleIter i l k)(q:s.heap.IsTuple l xs)(hv:xs[k]?=none)
  (r:∀ g e,Qp i s.heap g->(∃ o,g.get? e=some o/\o.cls=.type "StopIteration")->E (.ref e) { s with heap:=g }):NT (N1 prog w) A (Oi (.ref i)) Q E s:=by
 obtain⟨oi,hoi,ci,di⟩:=id d
 obtain⟨ol,hol,_,nl,dl⟩:=q
 unfold Oi
 refine NL (Ox (name:=Pb "__next__") d.typeIs Pf (OI Pf d.typeIs Q5 ?_ (QT _)))
 show NT _ _ (Se (.ref i) 0 >>= _) _ _ s
 refine NL (OG hoi di (x:=.ref l) rfl ?_)
 show NT _ _ (if(Oa l == Om)=true then _ else _) _ _ s
 rw[if_neg (show ¬((Oa l == Om)=true)from A')]
 show NT _ _ (Se (.ref i) 1 >>= _) _ _ s
 refine NL (OG hoi di (x:=.int k 0) rfl ?_)
 show NT _ _ (seqItems? (.ref l) >>= _) _ _ s
 refine NL (O8 hol dl ?_)
 simp only[K7,hv]
 refine NL (PD (NL (QU hoi di (by simp) ?_)))
 show NT _ _ (UN (.type "StopIteration") [] >>= _) _ _ _
 refine NL ?_
 simp only[UN,newTuple]
 refine NL (Ow ?_ (by size_fits))
 refine NL (m:=QV _ _) (RS (a:=Om) (by first | rfl | (simp only[QV];rfl)) ?_)
 refine Ow ?_ (by size_fits)
 simp only[raiseNew]
 refine NL (Ua ?_)
 first | rw[show A.in1.handled=none from hh] | rw[hh]
 refine NL (NP (U8 ?_))
 exact r _ _ (((O7 ..).extBut.push _).push _) ⟨_,N0 _ rfl,rfl⟩
theorem pL{b:Bool}{i l:NN}{k:Nat}{xs:Array NK}{v:NK}{Q:NK->NO->Prop}(d:Dr b s.heap i l k)(q:Sq b s.heap l xs)(hv:xs[k]?=some v)
  (r:∀ g,Dr b g i l (k + 1)->OL i s.heap g->Q v { s with heap:=g }):NT (N1 prog w) A (Oi (.ref i)) Q E s:=by
 cases b with
 | true=>exact BR d q hv r
 | false=>exact wpAny_nextOf_list_item d q hv r
theorem Av{b:Bool}{i l:NN}{k:Nat}{xs:Array NK}{Q:NK->NO->Prop}(hh:A.handled=none)(d:Dr b s.heap i l k)(q:Sq b s.heap l xs)(hv:xs[k]?=none)
  (r:∀ g e,Qp i s.heap g->(∃ o,g.get? e=some o/\o.cls=.type "StopIteration")->E (.ref e) { s with heap:=g }):NT (N1 prog w) A (Oi (.ref i)) Q E s:=by
 cases b with
 | true=>exact Fl hh d q hv r
 | false=>exact wpAny_nextOf_list_end hh d q hv r
structure Off (z TI TO i1 i2 l1 l2:NN):Prop where
 a1:TI≠z
 a2:TO≠z
 a3:i1≠z
 a4:i2≠z
 a5:TI≠TO
 a6:TI≠i1
 a7:TI≠i2
 a8:TO≠i1
 a9:TO≠i2
 b1:i1≠i2
 c1:l1≠z
 c2:l1≠TO
 c3:l1≠i1
 c4:l1≠i2
 e1:l2≠z
 e2:l2≠TO
 e3:l2≠i1
 e4:l2≠i2
theorem HD{b1 b2:Bool}{z TI TO i1 i2 l1 l2:NN}{k:Nat}{xs ys:Array NK}{x y a b:NK}{Q:NK->NO->Prop}(D:Off z TI TO i1 i2 l1 l2)
  (hz:PV s.heap z TI TO .none) (hi:OV s.heap TI (.ref i1) (.ref i2)) (ho:OV s.heap TO a b)
  (d1:Dr b1 s.heap i1 l1 k) (d2:Dr b2 s.heap i2 l2 k) (q1:Sq b1 s.heap l1 xs) (q2:Sq b2 s.heap l2 ys) (hx:xs[k]?=some x) (hy:ys[k]?=some y)
  (r:∀ g,PV g z TI TO (O' s.heap.objs.size)->OV g TO x y->Dr b1 g i1 l1 (k + 1)->Dr b2 g i2 l2 (k + 1)->OV g s.heap.objs.size x y->g.objs.size=s.heap.objs.size + 1->
   (∀ c o,c≠z->c≠TO->c≠i1->c≠i2->s.heap.get? c=some o->g.get? c=some o)->Q (.ref s.heap.objs.size) { s with heap:=g }) :
  NT (N1 prog w) A (OY.«zip.__next__» ⟨[.ref z],[]⟩) (fun fin s'=>∃ v,fin=.done (.ret v)/\Q v s') E s:=by
 show NT _ _ (Se (.ref z) 2 >>= _) _ _ _
 refine NL (OG hz rfl (x:=.bool false) rfl ?_)
 show NT _ _ (Se (.ref z) 3 >>= _) _ _ _
 refine NL (OG hz rfl (x:=.ref TI) rfl (NL (O8 hi rfl ?_)))
 show NT _ _ (OP (.ref z) >>= _) _ _ _
 refine NL ?_
 unfold OP
 refine NL (OG hz rfl (x:=.none) rfl (NP ?_))
 simp only[if_true]
 refine NL (PD (NL (OG hz rfl (x:=.ref TO) rfl (NL (Pc hz (by simp) fun g1 z1 s1=>?_)))))
 have z1:PV g1 z TI TO .ellipsis:=z1
 refine NL ?_
 simp only[Mk,Nr,Mx,L6]
 refine NL (NL (Rg ?_))
 show NT _ _ (Oi (.ref i1) >>= _) _ _ _
 refine NL (pL (d1.ext s1.extBut D.a3) (q1.ext s1.extBut D.c1) hx fun g2 w2 s2=>NP ?_)
 have o2:OV g2 TO a b:=s2.extBut _ _ D.a8 (s1.extBut _ _ D.a2 ho)
 refine NL (O8 o2 rfl (NL (QG o2 fun g3 o3 s3=>?_)))
 have o3:OV g3 TO x b:=o3
 refine NL (Qq (NP (NL (NL (Rg ?_)))))
 show NT _ _ (Oi (.ref i2) >>= _) _ _ _
 refine NL (pL (((d2.ext s1.extBut D.a4).ext s2.extBut D.b1.symm).ext s3.extBut D.a9.symm) (((q2.ext s1.extBut D.e1).ext s2.extBut D.e3).ext s3.extBut D.e2) hy fun g4 w4 s4=>NP ?_)
 have o4:OV g4 TO x b:=s4.extBut _ _ D.a9 o3
 refine NL (O8 o4 rfl (NL (QG o4 fun g5 o5 s5=>?_)))
 have o5:OV g5 TO x y:=o5
 refine NL (Qq (NP (NP (NL (O8 o5 rfl (NL (TM ?_)))))))
 have sz:g5.objs.size=s.heap.objs.size:=by rw[s5.1,s4.1,s3.1,s2.1,s1.1]
 have z5:PV g5 z TI TO .ellipsis:=s5.extBut _ _ D.a2.symm (s4.extBut _ _ D.a4.symm (s3.extBut _ _ D.a2.symm (s2.extBut _ _ D.a3.symm z1)))
 have k5:∀ c o,c≠z->c≠TO->c≠i1->c≠i2->s.heap.get? c=some o->g5.get? c=some o:=fun c o n1 n2 n3 n4 e=>
  s5.extBut _ _ n2 (s4.extBut _ _ n4 (s3.extBut _ _ n2 (s2.extBut _ _ n3 (s1.extBut _ _ n1 e))))
 have w15:Dr b1 g5 i1 l1 (k + 1):=((w2.ext s3.extBut D.a8.symm).ext s4.extBut D.b1).ext s5.extBut D.a8.symm
 have w25:Dr b2 g5 i2 l2 (k + 1):=w4.ext s5.extBut D.a9.symm
 have zlt:z < g5.objs.size:=NY z5
 show NT _ _ (Qh (.ref z) (.ref g5.objs.size) >>= _) _ _ _
 refine NL ?_
 unfold Qh
 have z6:PV (g5.push { cls:=.type "tuple",data:=.seq #[x,y] }) z TI TO .ellipsis:=NR _ z5
 refine NL (Pc z6 (by simp) fun g7 z7 s7=>?_)
 have z7:PV g7 z TI TO (O' g5.objs.size):=z7
 refine Pc z7 (by simp) fun g8 z8 s8=>?_
 have z8:PV g8 z TI TO (O' g5.objs.size):=z8
 have up:∀ c o,c≠z->g5.get? c=some o->g8.get? c=some o:=fun c o n e=>s8.extBut _ _ n (s7.extBut _ _ n (NR _ e))
 have t8:OV g8 g5.objs.size x y:=s8.extBut _ _ (Lb zlt) (s7.extBut _ _ (Lb zlt) (N0 _ rfl))
 have e8:g8.objs.size=g5.objs.size + 1:=by rw[s8.1,s7.1,O9]
 rw[sz]at z8 t8 e8
 refine NP ⟨_,rfl,?_⟩
 show Q (.ref g5.objs.size) _
 rw[sz]
 exact r g8 z8 (up _ _ D.a2 o5) (w15.at fun o e=>up _ o D.a3 e) (w25.at fun o e=>up _ o D.a4 e) t8 e8 fun c o n1 n2 n3 n4 e=>up c o n1 (k5 c o n1 n2 n3 n4 e)
theorem zEnd{b1 b2:Bool}{z TI TO i1 i2 l1 l2:NN}{k:Nat}{xs ys:Array NK}{a b:NK}{Q:Fin->NO->Prop}(hh:A.handled=none)(D:Off z TI TO i1 i2 l1 l2)
  (hz:PV s.heap z TI TO .none) (hi:OV s.heap TI (.ref i1) (.ref i2)) (ho:OV s.heap TO a b)
  (d1:Dr b1 s.heap i1 l1 k) (d2:Dr b2 s.heap i2 l2 k) (q1:Sq b1 s.heap l1 xs) (q2:Sq b2 s.heap l2 ys) (hn:xs[k]?=none\/ys[k]?=none)
  (r:∀ g e,(∀ c o,c≠z->c≠TO->c≠i1->c≠i2->s.heap.get? c=some o->g.get? c=some o)->(∃ o,g.get? e=some o/\o.cls=.type "StopIteration")->E (.ref e) { s with heap:=g }) :
  NT (N1 prog w) A (OY.«zip.__next__» ⟨[.ref z],[]⟩) Q E s:=by
 show NT _ _ (Se (.ref z) 2 >>= _) _ _ _
 refine NL (OG hz rfl (x:=.bool false) rfl ?_)
 show NT _ _ (Se (.ref z) 3 >>= _) _ _ _
 refine NL (OG hz rfl (x:=.ref TI) rfl (NL (O8 hi rfl ?_)))
 show NT _ _ (OP (.ref z) >>= _) _ _ _
 refine NL ?_
 unfold OP
 refine NL (OG hz rfl (x:=.none) rfl (NP ?_))
 simp only[if_true]
 refine NL (PD (NL (OG hz rfl (x:=.ref TO) rfl (NL (Pc hz (by simp) fun g1 z1 s1=>?_)))))
 have z1:PV g1 z TI TO .ellipsis:=z1
 refine NL ?_
 simp only[Mk,Nr,Mx,L6]
 refine NL (NL (Rg ?_))
 show NT _ _ (Oi (.ref i1) >>= _) _ _ _
 cases hx:xs[k]? with
 | none=>
  refine NL (Av hh (d1.ext s1.extBut D.a3) (q1.ext s1.extBut D.c1) hx fun g2 e s2 he=>?_)
  obtain⟨oe,hoe,ce⟩:=he
  have z2:PV g2 z TI TO .ellipsis:=s2 _ _ D.a3.symm z1
  have ne:e≠z:=fun q=>by subst q;rw[z2]at hoe;cases hoe;simp at ce
  exact Pc z2 (by simp) fun g3 _ s3=>r g3 e (fun c o n1 _ n3 _ q=>s3.extBut _ _ n1 (s2 _ _ n3 (s1.extBut _ _ n1 q))) ⟨oe,s3.extBut _ _ ne hoe,ce⟩
 | some x=>
  have hy:ys[k]?=none:=by
   rcases hn with h | h
   ·rw[hx]at h;cases h
   exact h
  refine NL (pL (d1.ext s1.extBut D.a3) (q1.ext s1.extBut D.c1) hx fun g2 w2 s2=>NP ?_)
  have o2:OV g2 TO a b:=s2.extBut _ _ D.a8 (s1.extBut _ _ D.a2 ho)
  refine NL (O8 o2 rfl (NL (QG o2 fun g3 o3 s3=>?_)))
  refine NL (Qq (NP (NL (NL (Rg ?_)))))
  show NT _ _ (Oi (.ref i2) >>= _) _ _ _
  refine NL (Av hh (((d2.ext s1.extBut D.a4).ext s2.extBut D.b1.symm).ext s3.extBut D.a9.symm) (((q2.ext s1.extBut D.e1).ext s2.extBut D.e3).ext s3.extBut D.e2) hy fun g4 e s4 he=>?_)
  obtain⟨oe,hoe,ce⟩:=he
  have z4:PV g4 z TI TO .ellipsis:=s4 _ _ D.a4.symm (s3.extBut _ _ D.a2.symm (s2.extBut _ _ D.a3.symm z1))
  have ne:e≠z:=fun q=>by subst q;rw[z4]at hoe;cases hoe;simp at ce
  exact Pc z4 (by simp) fun g5 _ s5=>r g5 e (fun c o n1 n2 n3 n4 q=>s5.extBut _ _ n1 (s4 _ _ n4 (s3.extBut _ _ n2 (s2.extBut _ _ n3 (s1.extBut _ _ n1 q))))) ⟨oe,s5.extBut _ _ ne hoe,ce⟩
theorem tG{b1 b2:Bool}{z TI TO i1 i2 l1 l2:NN}{k:Nat}{xs ys:Array NK}{x y a b:NK}{Q:Option NK->NO->Prop}(D:Off z TI TO i1 i2 l1 l2)
  (hz:PV s.heap z TI TO .none) (hi:OV s.heap TI (.ref i1) (.ref i2)) (ho:OV s.heap TO a b)
  (d1:Dr b1 s.heap i1 l1 k) (d2:Dr b2 s.heap i2 l2 k) (q1:Sq b1 s.heap l1 xs) (q2:Sq b2 s.heap l2 ys) (hx:xs[k]?=some x) (hy:ys[k]?=some y)
  (r:∀ g,PV g z TI TO (O' s.heap.objs.size)->OV g TO x y->Dr b1 g i1 l1 (k + 1)->Dr b2 g i2 l2 (k + 1)->OV g s.heap.objs.size x y->g.objs.size=s.heap.objs.size + 1->
   (∀ c o,c≠z->c≠TO->c≠i1->c≠i2->s.heap.get? c=some o->g.get? c=some o)->Q (some (.ref s.heap.objs.size)) { s with heap:=g }) :
  NT (N1 prog w) A (Qn (.ref z)) Q E s:=by
 have hT:s.TypeIs (.ref z) "zip":=⟨_,hz,rfl⟩
 unfold Qn
 refine NL (O5 (Ox (name:=Pb "__next__") hT QH (OI QH hT S7 ?_ (SM _))))
 exact HD D hz hi ho d1 d2 q1 q2 hx hy fun g p1 p2 p3 p4 p5 p6 p7=>NP (r g p1 p2 p3 p4 p5 p6 p7)
theorem u7{b1 b2:Bool}{z TI TO i1 i2 l1 l2:NN}{k:Nat}{xs ys:Array NK}{a b:NK}{Q:Option NK->NO->Prop}(hh:A.handled=none)(D:Off z TI TO i1 i2 l1 l2)
  (hz:PV s.heap z TI TO .none) (hi:OV s.heap TI (.ref i1) (.ref i2)) (ho:OV s.heap TO a b)
  (d1:Dr b1 s.heap i1 l1 k) (d2:Dr b2 s.heap i2 l2 k) (q1:Sq b1 s.heap l1 xs) (q2:Sq b2 s.heap l2 ys) (hn:xs[k]?=none\/ys[k]?=none)
  (r:∀ g,(∀ c o,c≠z->c≠TO->c≠i1->c≠i2->s.heap.get? c=some o->g.get? c=some o)->Q none { s with heap:=g }):NT (N1 prog w) A (Qn (.ref z)) Q E s:=by
 have hT:s.TypeIs (.ref z) "zip":=⟨_,hz,rfl⟩
 unfold Qn
 refine NL (O5 (Ox (name:=Pb "__next__") hT QH (OI QH hT S7 (zEnd hh D hz hi ho d1 d2 q1 q2 hn fun g e k he=>?_) (SM _))))
 obtain⟨o,he,hc⟩:=he
 exact NL (S8 (T:="StopIteration") (b:=true) ⟨o,he,hc⟩ TN (NP (r _ k)))
end
def nm(b:Bool):String:=if b=true then "tuple_iterator" else "list_iterator"
abbrev Z1(h:N5)(b1:Bool)(l1:NN):N5:=h.push { cls:=.type (nm b1),data:=.fields #[.ref l1,.int 0 0] }
abbrev Z2(h:N5)(b1 b2:Bool)(l1 l2:NN):N5:=(Z1 h b1 l1).push { cls:=.type (nm b2),data:=.fields #[.ref l2,.int 0 0] }
abbrev Z3(h:N5)(b1 b2:Bool)(l1 l2:NN):N5:=(Z2 h b1 b2 l1 l2).push { cls:=.type "tuple",data:=.seq #[.ref h.objs.size,.ref (Z1 h b1 l1).objs.size] }
abbrev Z4(h:N5)(b1 b2:Bool)(l1 l2:NN):N5:=(Z3 h b1 b2 l1 l2).push { cls:=.type "tuple",data:=.seq #[.none,.none] }
abbrev Z5(h:N5)(b1 b2:Bool)(l1 l2:NN):N5:=(Z4 h b1 b2 l1 l2).push { cls:=.type "zip",data:=.fields #[.none,.bool false,.bool false,.ref (Z2 h b1 b2 l1 l2).objs.size,.ref (Z3 h b1 b2 l1 l2).objs.size] }
set_option maxHeartbeats 4000000 in
theorem D4(b1 b2:Bool)(l1 l2:NN)(xs ys:Array NK) :
  Tp (OY.«zip.__new__» ⟨[.type "zip",.ref l1,.ref l2],[]⟩) (fun _ R s=>Sq b1 s.heap l1 xs/\Sq b2 s.heap l2 ys/\R (.ok (.ret (.ref (Z4 s.heap b1 b2 l1 l2).objs.size))) { s with heap:=Z5 s.heap b1 b2 l1 l2 }):=
 .of_wp fun prog w A R s h=>by
  obtain⟨hp,g,d,tk,os⟩:=s
  obtain⟨q1,q2,h⟩:=h
  have hsub:=sub_zip
  cases b1 with
  | false=>
   have p1:SX (P5 ⟨hp,g,d,tk,os⟩) l1 xs:=q1
   cases b2 with
   | false=>
    have p2:SX (P5 ⟨hp.push { cls:=.type "list_iterator",data:=.fields #[.ref l1,.int 0 0] },g,d,tk,os⟩) l2 ys:=S9 q2 _
    wp_walk using Pg p1,Pg p2
    exact⟨_,rfl,h⟩
   | true=>
    have p2:Ry (P5 ⟨hp.push { cls:=.type "list_iterator",data:=.fields #[.ref l1,.int 0 0] },g,d,tk,os⟩) l2 ys:=SN q2 _
    wp_walk using Pg p1,Oz p2
    exact⟨_,rfl,h⟩
  | true=>
   have p1:Ry (P5 ⟨hp,g,d,tk,os⟩) l1 xs:=q1
   cases b2 with
   | false=>
    have p2:SX (P5 ⟨hp.push { cls:=.type "tuple_iterator",data:=.fields #[.ref l1,.int 0 0] },g,d,tk,os⟩) l2 ys:=S9 q2 _
    wp_walk using Oz p1,Pg p2
    exact⟨_,rfl,h⟩
   | true=>
    have p2:Ry (P5 ⟨hp.push { cls:=.type "tuple_iterator",data:=.fields #[.ref l1,.int 0 0] },g,d,tk,os⟩) l2 ys:=SN q2 _
    wp_walk using Oz p1,Oz p2
    exact⟨_,rfl,h⟩
section
variable{prog:NW}{w:N3}{A:N_}{E:NK->NO->Prop}{s:NO}
theorem Aa{b1 b2:Bool}{l1 l2:NN}{xs ys:Array NK}{Q:NK->NO->Prop}(q1:Sq b1 s.heap l1 xs)(q2:Sq b2 s.heap l2 ys)
  (r:∀ g,PV g (s.heap.objs.size + 4) (s.heap.objs.size + 2) (s.heap.objs.size + 3) .none->OV g (s.heap.objs.size + 2) (.ref s.heap.objs.size) (.ref (s.heap.objs.size + 1))->OV g (s.heap.objs.size + 3) .none .none->
    Dr b1 g s.heap.objs.size l1 0->Dr b2 g (s.heap.objs.size + 1) l2 0->g.objs.size=s.heap.objs.size + 5->(∀ c o,s.heap.get? c=some o->g.get? c=some o)->Q (.ref (s.heap.objs.size + 4)) { s with heap:=g }) :
  NT (N1 prog w) A (call (.type "zip") [.ref l1,.ref l2]) Q E s:=by
 refine UO F.called_zip (by decide) (F.typeCall_zip_2 _ _) (F.newCall_zip_2 _ _) (fun obj=>F.args_object_init_3 obj _ _) F.entry_zip_new (D4 b1 b2 l1 l2 xs ys) ⟨q1,q2,?_⟩
 have z1:(Z1 s.heap b1 l1).objs.size=s.heap.objs.size + 1:=O9 ..
 have z2:(Z2 s.heap b1 b2 l1 l2).objs.size=s.heap.objs.size + 2:=by rw[O9,z1]
 have z3:(Z3 s.heap b1 b2 l1 l2).objs.size=s.heap.objs.size + 3:=by rw[O9,z2]
 have z4:(Z4 s.heap b1 b2 l1 l2).objs.size=s.heap.objs.size + 4:=by rw[O9,z3]
 have z5:(Z5 s.heap b1 b2 l1 l2).objs.size=s.heap.objs.size + 5:=by rw[O9,z4]
 have u5:∀ c o,(Z4 s.heap b1 b2 l1 l2).get? c=some o->(Z5 s.heap b1 b2 l1 l2).get? c=some o:=fun c o e=>NR _ e
 have u4:∀ c o,(Z3 s.heap b1 b2 l1 l2).get? c=some o->(Z5 s.heap b1 b2 l1 l2).get? c=some o:=fun c o e=>u5 c o (NR _ e)
 have u3:∀ c o,(Z2 s.heap b1 b2 l1 l2).get? c=some o->(Z5 s.heap b1 b2 l1 l2).get? c=some o:=fun c o e=>u4 c o (NR _ e)
 have u2:∀ c o,(Z1 s.heap b1 l1).get? c=some o->(Z5 s.heap b1 b2 l1 l2).get? c=some o:=fun c o e=>u3 c o (NR _ e)
 have g5:(Z5 s.heap b1 b2 l1 l2).get? (Z4 s.heap b1 b2 l1 l2).objs.size=some _:=N0 _ rfl
 have g4:=u5 (Z3 s.heap b1 b2 l1 l2).objs.size _ (N0 _ rfl)
 have g3:=u4 (Z2 s.heap b1 b2 l1 l2).objs.size _ (N0 _ rfl)
 have g2:=u3 (Z1 s.heap b1 l1).objs.size _ (N0 _ rfl)
 have g1:=u2 s.heap.objs.size _ (N0 _ rfl)
 show _/\_
 rw[z2,z3,z4]at g5
 rw[z1,z2]at g3
 rw[z3]at g4
 rw[z1]at g2
 rw[z4]
 refine⟨⟨_,g5,rfl⟩,r _ g5 g3 g4 ?_ ?_ z5 fun c o e=>u2 c o (NR _ e)⟩
 ·cases b1 with
  | true=>exact⟨_,g1,rfl,rfl⟩
  | false=>exact⟨_,g1,rfl,rfl⟩
 cases b2 with
 | true=>exact⟨_,g2,rfl,rfl⟩
 | false=>exact⟨_,g2,rfl,rfl⟩
end
end ZG
namespace L2
open PySem PySem.Spec PyProof.Rows
def gf(env:Env):List (Str × Pm)->List (Str × NN)->List (Str × NN)
 | [],cs=>cs
 | x::r,cs=>gf env r (if(x.2 == OX)=true then(x.1,(env.cells.lookup x.1).getD 0)::cs else cs)
theorem mX{env:Env}(f:Str × Pm->List (Str × NN)->Sem (ForInStep (List (Str × NN))))(hf:∀ n k cs,f (n,k) cs=if(k == OX)=true then(do let a <-cellOf env n;pure (N8 ((n,a)::cs)))else pure (N8 cs)) :
  ∀(names:List (Str × Pm)) (cs:List (Str × NN)),(∀ x∈names,x.2=.free->∃ c,env.cells.lookup x.1=some c)->forIn names cs f=pure (gf env names cs)
 | [],cs,_=>by rw[L6];rfl
 | (n,k)::r,cs,h=>by
  rw[Mx,hf]
  have hr:∀ x∈r,x.2=.free->∃ c,env.cells.lookup x.1=some c:=fun x hx=>h x (l_ _ hx)
  by_cases e:(k == OX)=true
  ·obtain⟨c,hc⟩:=h (n,k) v_ (by simpa using e)
   have hc':env.cells.lookup n=some c:=hc
   rw[if_pos e]
   have q:cellOf env n=pure c:=by unfold cellOf;rw[hc']
   rw[q,pure_bind,pure_bind]
   show forIn r ((n,c)::cs) f=pure (gf env ((n,k)::r) cs)
   rw[mX f hf r _ hr]
   unfold gf
   rw[if_pos e,hc']
   cases r <;> rfl
  rw[if_neg e,pure_bind]
  show forIn r cs f=pure (gf env ((n,k)::r) cs)
  rw[mX f hf r _ hr]
  conv=>rhs;unfold gf
  rw[if_neg e]
theorem nV{sc:OH}{env:Env}(h:∀ x∈sc.names,x.2=.free->∃ c,env.cells.lookup x.1=some c):closureFor sc env=pure (gf env sc.names []):=by
 unfold closureFor
 show(forIn sc.names [] _ >>= fun cs=>pure cs)=_
 rw[mX (env:=env) _ (fun n k cs=>by cases e:k == OX <;> simp[e]) sc.names [] h]
 rfl
theorem tX{env:Env}:∀ {names:List (Str × Pm)} {cs:List (Str × NN)} {x:Str} {c:NN},(∀ y∈names,y.2=.free->∃ c,env.cells.lookup y.1=some c)->(gf env names cs).lookup x=some c->
  (env.cells.lookup x=some c/\(x,OX)∈names)\/cs.lookup x=some c
 | [],cs,x,c,_,h=>.inr h
 | (n,k)::r,cs,x,c,hn,h=>by
  unfold gf at h
  have hr:∀ y∈r,y.2=.free->∃ c,env.cells.lookup y.1=some c:=fun y hy=>hn y (l_ _ hy)
  have hh:=tX hr h
  clear h
  rcases hh with⟨h1,h2⟩ | h
  ·exact .inl ⟨h1,l_ _ h2⟩
  by_cases e:(k == OX)=true
  ·rw[if_pos e]at h
   obtain⟨c',hc⟩:=hn (n,k) v_ (by simpa using e)
   have hc':env.cells.lookup n=some c':=hc
   rw[hc',Lh]at h
   by_cases ex:(x == n)=true
   ·rw[ex]at h
    have ex':x=n:=by simpa using ex
    have ek:k=OX:=by simpa using e
    subst ex' ek
    have h':c'=c:=G_ h
    subst h'
    exact .inl ⟨hc',v_⟩
   have ex':(x == n)=false:=by simpa using ex
   rw[ex']at h
   exact .inr h
  rw[if_neg e]at h
  exact .inr h
theorem rB{env:Env}:∀ {names:List (Str × Pm)} {cs:List (Str × NN)} {x:Str} {c:NN},(∀ y∈names,y.2=.free->∃ c,env.cells.lookup y.1=some c)->env.cells.lookup x=some c->cs.lookup x=some c->(gf env names cs).lookup x=some c
 | [],cs,x,c,_,_,h=>h
 | (n,k)::r,cs,x,c,hn,he,h=>by
  unfold gf
  refine rB (fun y hy=>hn y (l_ _ hy)) he ?_
  by_cases e:(k == OX)=true
  ·rw[if_pos e,Lh]
   by_cases ex:(x == n)=true
   ·rw[ex]
    have ex':x=n:=by simpa using ex
    subst ex'
    show some ((env.cells.lookup x).getD 0)=some c
    rw[he];rfl
   have ex':(x == n)=false:=by simpa using ex
   rw[ex']
   exact h
  rw[if_neg e]
  exact h
theorem qC{env:Env}:∀ {names:List (Str × Pm)} {cs:List (Str × NN)} {x:Str} {c:NN},(∀ y∈names,y.2=.free->∃ c,env.cells.lookup y.1=some c)->env.cells.lookup x=some c->(x,OX)∈names->(gf env names cs).lookup x=some c
 | (n,k)::r,cs,x,c,hn,he,hm=>by
  have hr:∀ y∈r,y.2=.free->∃ c,env.cells.lookup y.1=some c:=fun y hy=>hn y (l_ _ hy)
  unfold gf
  rcases t_.mp hm with e | hm
  ·obtain⟨rfl,rfl⟩:=Nc e
   rw[if_pos (by rfl)]
   refine rB hr he ?_
   rw[Lh,beq_self_eq_true]
   show some ((env.cells.lookup x).getD 0)=some c
   rw[he];rfl
  exact qC hr he hm
noncomputable def mS(env:Env)(sc:OH):OH:={ sc with names:=sc.names.map fun x=>if(x.2 == .free && env.scope.kind == .function && env.kindOf x.1 == some .cell)=true then(x.1,.cell)else(x.1,x.2) }
theorem k7{f:Str × Pm->Bool}(x:Str):∀ names:List (Str × Pm),(names.map fun y=>if f y=true then(y.1,VI)else(y.1,y.2)).lookup x=(names.lookup x).map fun k=>if f (x,k)=true then .cell else k
 | []=>rfl
 | (n,k)::r=>by
  rw[d_]
  by_cases ex:(x == n)=true
  ·have ex':x=n:=by simpa using ex
   subst ex'
   cases e:f (x,k) <;> simp[e,Lh]
  have ex':(x == n)=false:=by simpa using ex
  have ih:=k7 (f:=f) x r
  cases e:f (n,k) <;> simp only[e,if_true,if_false,B_,Lh,ex',ih]
theorem jV(env:Env)(sc:OH)(x:Str):(mS env sc).names.lookup x=(sc.names.lookup x).map fun k=>if(k == .free && env.scope.kind == .function && env.kindOf x == some .cell)=true then .cell else k:=
 k7 (f:=fun y=>(y.2 == .free && env.scope.kind == .function && env.kindOf y.1 == some .cell)) x sc.names
def compEnv(env:Env)(sc:OH)(L:NN):Env:={ newEnv sc L env.globals (gf env sc.names []) env.qual none .none (some env) R8 with scope:=mS env sc }
section
variable{M:Pz}{A:N_}{E:NK->NO->Prop}{s:NO}{env:Env}
theorem kC{e:N2}{scope:OH}{pos:Pos}{newAcc first:Sem NK}{g:Rh}{gs:List Rh}{Q:NK->NO->Prop}
  (hcl:clausesOf e=g::gs) (hs:∀ x,OC g.iter env x=pure x)
  (hc:∀ x∈scope.names,x.2≠.cell) (hfr:∀ x∈scope.names,x.2=.free->∃ c,env.cells.lookup x.1=some c) (hkind:scope.kind=.function) (hnames:∀ x∈scope.names,x.2=.local->scope.names.lookup x.1=some .local)
  (h:NT M A first (fun x s₁=>NT M A (RX x) (fun it s₂=>NT M A newAcc (fun acc s₃=>
   ∀ h4,h4.Ns s₃.heap.objs.size (fun _=>none)->(∀ b o,s₃.heap.get? b=some o->h4.get? b=some o)->
    Qz M A (.compStart e 0 it acc (compEnv env scope s₃.heap.objs.size)) (fun r s'=>∃ m,s'.heap.Ns s₃.heap.objs.size m/\∀ h',OL s₃.heap.objs.size s'.heap h'->
     match r with | .ok _=>Q acc { s' with heap:=h' } | .error x=>False) { s₃ with heap:=h4 }) E s₂) E s₁) E s) :
  NT M A (Qu e scope env pos newAcc false first) Q E s:=by
 unfold Qu
 rw[nV hfr,hcl]
 refine NL (Oh h (fun x s₁ h₁=>NL (Pq (NL (RS (hs x) (NL (Oj (Oh h₁ (fun it s₂ h₂=>
  Ub (NL (Oh h₂ (fun acc s₃ h₃=>NL (NP (NL ?_))) fun _ _ h'=>h')))
   fun _ _ h'=>h'))))))) fun _ _ h'=>h')
 refine Sf hc (fun x hx=>nomatch hx) (fun h4 hn4 hs4=>?_) hkind
 have h₄:=h₃ h4 hn4 fun b o e=>hs4.extBut b o (yp (NY e)) (NR _ e)
 dsimp only
 have hv:∀ x∈(scope.names.filter fun x=>(x.2 == .local || x.2 == .cell) && x.1 !=(".0":Str)).reverse,x.2=.local->
   Tq (compEnv env scope s₃.heap.objs.size) x.1=some .local:=fun x hx hl=>by
  show(mS env scope).names.lookup x.1=some .local
  rw[jV,hnames x (KW.mp (Ml.mp hx)).1 hl]
  rfl
 refine Oj (NL (O5 (Oj (wpAny_run (Qc h₄ fun r s' hr=>?_)))))
 obtain⟨m,hn,hr⟩:=hr
 cases r with
 | ok f=>exact NL (Oj (S_ (cenv:=compEnv env scope s₃.heap.objs.size) hkind _ s' m hv hn fun h' m' _ hs'=>NP (hr h' hs')))
 | error x=>exact(hr s'.heap (.refl ..)).elim
end
section
variable{prog:NW}{w:N3}{A:N_}{R:Result->NO->Prop}{s:NO}
theorem lG{elt target iter:N2}{ifs:List N2}{scope:OH}{pos:Pos}{it acc:NK}{env:Env}(I:Nat->NO->Prop)
  (turn:∀ n s,I n s->NT (N1 prog w) A (Qn it) (fun r s₁=>match r with
   | none=>R (.ok .next) s₁
   | some v=>NT (N1 prog w) A (QD target it v) (fun _ s₁'=>NT (N1 prog w) A (Qa target env v) (fun _ s₂=>
     NT (N1 prog w) A (forIn ifs true fun c r=>if r=true then do let ok <-RV c env (Og c env);pure (N8 ok)else pure (N8 r)) (fun ok s₃=>
      if ok=true then NT (N1 prog w) A (Og elt env) (fun x s₄=>
       NT (N1 prog w) A (call (.builtin "list.append") [acc,x]) (fun _ s₅=>∃ m,m < n/\I m s₅) (fun _ _=>False) s₄) (fun _ _=>False) s₃
      else ∃ m,m < n/\I m s₃) (fun _ _=>False) s₂) (fun _ _=>False) s₁') (fun _ _=>False) s₁) (fun _ _=>False) s)
  (n:Nat) (h:I n s) :
  Qz (N1 prog w) A (.compLoop (.ListComp elt [⟨target,iter,ifs,0⟩] scope pos) 0 it acc env) R s:=by
 refine codeAny_loop rfl I (fun n s hI=>?_) n h
 show NT _ A ((compTurn (.ListComp elt [⟨target,iter,ifs,0⟩] scope pos) 0 it acc env).onRaise (fun x=>do noteFrame x env;theTreesLotGoes x)) _ _ s
 refine wpAny_noted ?_
 rw[compTurn_list]
 refine NL (Pq (NL (Oh (turn n s hI) (fun r s₁ h₁=>?_) fun _ _ h'=>h'.elim)))
 cases r with
 | none=>exact NP h₁
 | some v=>
  refine NL (Oh h₁ (fun _ s₁' h₁'=>?_) fun _ _ h'=>h'.elim)
  refine NL (Oh h₁' (fun _ s₂ h₂=>NL (Oh h₂ (fun ok s₃ h₃=>?_) fun _ _ h'=>h'.elim)) fun _ _ h'=>h'.elim)
  cases ok with
  | false=>exact NP ⟨rfl,h₃⟩
  | true=>
   exact NL (NL (Oh h₃ (fun x s₄ h₄=>NL (Oh h₄ (fun _ s₅ h₅=>NP (NP ⟨rfl,h₅⟩)) fun _ _ h'=>h'.elim)) fun _ _ h'=>h'.elim))
end
def aY(X:Cx)(N':List Str)(sc:OH)(s3:NO)(H3:Hp)(fp:List NN):Cx where
 prog:=X.prog
 w:=X.w
 K:=X.K
 mg:=X.mg
 base:=X.base
 A:=X.A
 N:=N'
 s₀:=s3
 H₀:=H3
 env:=compEnv X.env sc s3.heap.objs.size
 outer:=X.stack
 stack:=X.stack
 ex:=fp
 calm:=true
 fn:=fun _=>false
 pn:=[]
 xe:=fun _ _=>False
noncomputable def iD(N:List Str)(esc sc:OH)(N':List Str)(fr:List (Option Nat)):Bool:=
 sc.kind == .function && esc.kind == .function
 && sc.names.all (fun y=>(y.2 != .cell) && (y.2 != .free || esc.names.lookup y.1 == some .cell) && (y.2 != .local || sc.names.lookup y.1 == some .local))
 && fr.length == N'.length
 && (p_ N'.length).all (fun i=>match fr[i]? with
  | some (some j)=>match N'[i]? with
   | some x=>N[j]? == some x && sc.names.lookup x == some .free
   | none=>false
  | _=>true)
structure CompOk (N:List Str) (esc sc:OH) (N':List Str) (fr:List (Option Nat)):Prop where
 kind:sc.kind=.function
 ekind:esc.kind=.function
 nocell:∀ x∈sc.names,x.2≠.cell
 free:∀ x∈sc.names,x.2=.free->esc.names.lookup x.1=some .cell
 names:∀ x∈sc.names,x.2=.local->sc.names.lookup x.1=some .local
 len:fr.length=N'.length
 at_:∀(i j:Nat) (x:Str),fr[i]?=some (some j)->N'[i]?=some x->N[j]?=some x/\sc.names.lookup x=some .free
theorem oY{N:List Str}{esc sc:OH}{N':List Str}{fr:List (Option Nat)}(h:iD N esc sc N' fr=true):CompOk N esc sc N' fr:=by
 unfold iD at h
 simp only[F_,beq_iff_eq,Li,KL]at h
 obtain⟨⟨⟨⟨h1,h2⟩,h3⟩,h4⟩,h5⟩:=h
 refine⟨h1,h2,fun x hx=>?_,fun x hx e=>?_,fun x hx e=>?_,h4,fun i j x e1 e2=>?_⟩
 ·have:=(h3 x hx).1.1
  simpa using this
 ·have:=(h3 x hx).1.2
  rw[e]at this
  simpa using this
 ·have:=(h3 x hx).2
  rw[e]at this
  simpa using this
 have hi:i < N'.length:=(f_.mp e2).1
 have q:=h5 i hi
 rw[e1,e2]at q
 simpa using q
def eG(fr:List (Option Nat))(σ:St):St:=fr.map fun o=>match o with
 | some j=>(σ[j]?).join
 | none=>none
theorem sF{X:Cx}{pins:List (NN × Obj)}{σ:St}{H3:Hp}{s3:NO}{sc:OH}{N':List Str}{fr:List (Option Nat)}{fp:List NN}{h4:N5}(I:Inv X pins σ H3 s3)(C:CompOk X.N X.env.scope sc N' fr)(hc:X.calm=true)
  (hfp:∀ b∈fp,jA X pins H3 b) (hfo:∀ b∈fp,∃ o,s3.heap.get? b=some o) (hn:h4.Ns s3.heap.objs.size (fun _=>none)) (hk:∀ b o,s3.heap.get? b=some o->h4.get? b=some o) :
  Inv (aY X N' sc s3 H3 fp) [] (eG fr σ) H3 { s3 with heap:=h4 }:=by
 have hfr:∀ x∈sc.names,x.2=.free->∃ c,X.env.cells.lookup x.1=some c:=fun x hx e=>I.ok.has x.1 (.inl (C.free x hx e))
 have clo:∀ {x c},(gf X.env sc.names []).lookup x=some c->X.env.cells.lookup x=some c:=fun{x c} e=>by
  rcases tX hfr e with⟨h1,_⟩ | h
  ·exact h1
  cases h
 have nfs:∀ b∈fp,b ∉ frs X.stack:=fun b hb z=>by
  obtain⟨_,h1,h2,_⟩:=hfp b hb
  rcases t_.mp (I.uS b z)with e | e
  ·exact h1 e
  exact h2 e
 have hfresh:H3 s3.heap.objs.size=none:=I.hok.fresh (c_ _)
 refine⟨⟨I.ok.mod,C.kind,I.ok.glob,I.ok.blt,c_ _,fun x y c e1 e2=>I.ok.inj x y c (clo e1) (clo e2),fun x hx=>?_,fun x c z=>(nomatch z),fun _=>I.ok.hd hc,I.ok.frames,.inl rfl,fun b hb=>⟨?_,fun x c e=>?_⟩,fun b o e=>I.bs b o e,n_ I.ok.bsz I.sz,fun b o e hb=>?_,nfs,I.stack,I.vZ⟩,
  rfl,I.bare,Un.kept hk,⟨_,hn,fun i x v e1 e2 e3=>?_⟩,fun x c e=>?_,hfresh,fun x c e=>I.freeC x c (clo e),fun p hp=>(nomatch hp),I.hok.kept hk,?_⟩
 ·have hx:(mS X.env sc).names.lookup x=some .cell\/(mS X.env sc).names.lookup x=some .free:=hx
  rw[jV]at hx
  cases e:sc.names.lookup x with
  | none=>rw[e]at hx;rcases hx with z | z <;> cases z
  | some k=>
   have hm:(x,k)∈sc.names:=OU e
   have hk:k=.free:=by
    rw[e]at hx
    cases k with
    | free=>rfl
    | cell=>exact absurd rfl (C.nocell _ hm)
    | _=>rcases hx with z | z <;>(simp at z)
   subst hk
   obtain⟨c,hc'⟩:=hfr _ hm rfl
   exact⟨c,qC hfr hc' hm⟩
 ·obtain⟨o,ho⟩:=hfo b hb
  exact yp (NY ho)
 ·exact(hfp b hb).2.2.2.2.1 x c (clo e)
 ·obtain⟨e1,_⟩:=I.ok.bs b o e
  rcases(hfp b hb).2.2.2.1 with z | z
  ·exact I.ok.noex b o e z
  exact absurd (u_ (NY e1) z) (Km _)
 ·have e2:(eG fr σ)[i]?=some (some v):=e2
  unfold eG at e2
  rw[s_]at e2
  cases ef:fr[i]? with
  | none=>rw[ef]at e2;cases e2
  | some o=>
   rw[ef]at e2
   cases o with
   | none=>cases e2
   | some j=>
    have e2':(σ[j]?).join=some v:=by simpa using e2
    have e2'':σ[j]?=some (some v):=by
     cases q:σ[j]? with
     | none=>rw[q]at e2';cases e2'
     | some z=>rw[q]at e2';exact congrArg some e2'
    obtain⟨hN,hfrx⟩:=C.at_ i j x ef e1
    have hm:(x,OX)∈sc.names:=OU hfrx
    have hcell:=C.free _ hm rfl
    obtain⟨m,_,hl⟩:=I.loc
    obtain⟨u,r,l⟩:=hl j x v hN e2'' (.inr (.inl hcell))
    refine⟨u,r,.inr ⟨.inl ?_,?_⟩⟩
    ·show(mS X.env sc).names.lookup x=some .cell
     rw[jV,hfrx]
     have h1:X.env.kindOf x=some .cell:=hcell
     have h2:X.env.scope.kind=.function:=C.ekind
     simp[h1,h2]
    rcases l with⟨k,_⟩ | ⟨_,c,ec,ic⟩
    ·have h1:X.env.kindOf x=some .cell:=hcell
     rw[h1]at k;cases k
    obtain⟨o,ho,hd⟩:=ic
    exact⟨c,qC hfr ec hm,o,hk c o ho,hd⟩
 ·obtain⟨v,o,ho,hd⟩:=I.cell x c (clo e)
  exact⟨v,o,hk c o ho,hd⟩
 unfold eG
 rw[a_]
 exact C.len
noncomputable def PTs(X:Cx)(ifs:List N2)(t:TT):Prop:=
 ∀(pins:List (NN × Obj)) (s:NO) (σ:St) (H:Hp) (Q:Bool->Hp->Prop),Inv X pins σ H s->t σ H Q->
  NT (N1 X.prog X.w) X.A (forIn ifs true fun c r=>if r=true then do let ok <-RV c X.env (Og c X.env);pure (N8 ok)else pure (N8 r)) (TP X pins σ Q) X.xe s
def Gb:TT:=fun _ H Q=>Q true H
theorem wa{X:Cx}:PTs X [] Gb:=fun pins s σ H Q I h=>wpAny_tests_nil ⟨H,I,h⟩
theorem De{X:Cx}{c:N2}{t:TT}(h:PT X c t):PTs X [c] t:=fun pins s σ H Q I q=>wpAny_tests_one (h pins s σ H Q I q)
noncomputable def E1(J:It)(fr:List (Option Nat))(g:NO->Hp->List NN->TG)(tt:NO->Hp->List NN->TT)(te:NO->Hp->List NN->TE)(σ:St)(H1:Hp)(Q:VK):Prop:=∀ p,H1 p=none->∀ s3 H3' fp,∃ W:Nat->Nat->St->Hp->Prop,(∃ m,W 0 m (eG fr σ) (upd H1 p (.lst [])))/\∀ i m σ' H',W i m σ' H'->
 (J.stop i H'/\Q (.ref p) H')\/(J.go i H'/\∀ x H2,J.yld i H' x H2->g s3 H3' fp x σ' H2 fun σ2 H3=>tt s3 H3' fp σ2 H3 fun b H4=>
  if b=true then te s3 H3' fp σ2 H4 fun v H5=>∃ ys,H5 p=some (.lst ys)/\ys.length < sizeLine/\∃ m',m' < m/\W (i + 1) m' σ2 (upd H5 p (.lst (ys++[v])))else ∃ m',m' < m/\W (i + 1) m' σ2 H4)
def wH(wi:TI)(fr:List (Option Nat))(g:NO->Hp->List NN->TG)(tt:NO->Hp->List NN->TT)(te:NO->Hp->List NN->TE):TE:=fun σ H Q=>wi σ H fun J H1=>E1 J fr g tt te σ H1 Q
theorem DB{X:Cx}(N':List Str)(fr:List (Option Nat)){elt target iter:N2}{ifs:List N2}{sc:OH}{pos:Pos}{wi:TI}{g:NO->Hp->List NN->TG}{tt:NO->Hp->List NN->TT}{te:NO->Hp->List NN->TE}(hc:X.calm=true)(C:iD X.N X.env.scope sc N' fr=true)
  (hi:PI X target iter wi) (hg:∀ s3 H3 fp,PG (aY X N' sc s3 H3 fp) target (g s3 H3 fp)) (ht:∀ s3 H3 fp,PTs (aY X N' sc s3 H3 fp) ifs (tt s3 H3 fp)) (he:∀ s3 H3 fp,PE (aY X N' sc s3 H3 fp) elt (te s3 H3 fp))
  (hs:∀ x,OC iter X.env x=pure x:=by intro _;rfl):PE X (.ListComp elt [⟨target,iter,ifs,0⟩] sc pos) (wH wi fr g tt te):=by
 have C:=oY C
 intro pins s σ H Q I h
 rw[eval_ListComp]
 have hfr:∀ x∈sc.names,x.2=.free->∃ c,X.env.cells.lookup x.1=some c:=fun x hx e=>I.ok.has x.1 (.inl (C.free x hx e))
 refine kC (g:=⟨target,iter,ifs,0⟩) (gs:=[]) rfl hs C.nocell hfr C.kind C.names ?_
 show NT _ _ (Og iter X.env) _ _ s
 refine thn (hi pins s σ H _ I h) fun v s1 h1=>thn h1 fun itv s2 h2=>?_
 obtain⟨it,fp,tn,J,H2,e,I2,T,st2,f2,k2⟩:=h2
 subst e
 refine Qv ?_ (by show 0<=sizeLine;decide)
 have hf:H2 s2.heap.objs.size=none:=I2.hok.fresh (c_ _)
 obtain⟨W,⟨m0,w0⟩,turn⟩:=k2 _ hf { s2 with heap:=s2.heap.push { cls:=.type "list",data:=.seq ([]:List NK).toArray } } (upd H2 s2.heap.objs.size (.lst [])) fp
 have kp:∀ b u,s2.heap.get? b=some u->(s2.heap.push { cls:=.type "list",data:=.seq ([]:List NK).toArray }).get? b=some u:=fun b u e=>NR _ e
 have I3:Inv X pins σ (upd H2 s2.heap.objs.size (.lst [])) { s2 with heap:=s2.heap.push { cls:=.type "list",data:=.seq ([]:List NK).toArray } }:=
  I2.laid (t':=s2.toks) kp (c_ _) ⟨z_ _,[],0,.nil,N0 _ rfl⟩
 have obj2:=T.obj 0 s2.heap st2
 have fpne:∀ b∈fp,b≠s2.heap.objs.size:=fun b hb=>by
  obtain⟨o,ho,_⟩:=obj2 b hb
  exact yp (NY ho)
 have f3:∀ b∈fp,jA X pins (upd H2 s2.heap.objs.size (.lst [])) b:=fun b hb=>⟨by rw[aH (fpne b hb)];exact(f2 b hb).1,(f2 b hb).2⟩
 have st3:=T.keep 0 s2.heap _ st2 fun b hb o e=>kp b o e
 have obj3:=T.obj 0 _ st3
 intro h4 hn4 hk4
 have st4:=T.keep 0 _ h4 st3 fun b hb o e=>hk4 b o e
 have I4:=sF (N':=N') (fr:=fr) (fp:=fp) I3 C hc f3 (fun b hb=>let ⟨o,ho,_⟩:=obj3 b hb;⟨o,ho⟩) hn4 hk4
 have stat:∀ {H':Hp},(∀ b∈fp,H' b=none)->∀ b∈fp,jA (aY X N' sc { s2 with heap:=s2.heap.push { cls:=.type "list",data:=.seq ([]:List NK).toArray } } (upd H2 s2.heap.objs.size (.lst [])) fp) [] H' b:=fun hn b hb=>
  ⟨hn b hb,(I4.ok.exf b hb).1,I4.ok.exfs b hb,.inl hb,(I4.ok.exf b hb).2,fun p hp=>(nomatch hp)⟩
 have loop:Qz (N1 X.prog X.w) X.A (.compLoop (.ListComp elt [⟨target,iter,ifs,0⟩] sc pos) 0 (.ref it) (.ref s2.heap.objs.size) (compEnv X.env sc (s2.heap.push { cls:=.type "list",data:=.seq ([]:List NK).toArray }).objs.size))
   (fun r s'=>∃ m,s'.heap.Ns (s2.heap.push { cls:=.type "list",data:=.seq ([]:List NK).toArray }).objs.size m/\∀ h',OL (s2.heap.push { cls:=.type "list",data:=.seq ([]:List NK).toArray }).objs.size s'.heap h'->
    match r with | .ok _=>EP X pins σ Q (.ref s2.heap.objs.size) { s' with heap:=h' } | .error x=>False) { s2 with heap:=h4 }:=by
  refine lG (fun n s'=>∃ i σ' H',Inv (aY X N' sc { s2 with heap:=s2.heap.push { cls:=.type "list",data:=.seq ([]:List NK).toArray } } (upd H2 s2.heap.objs.size (.lst [])) fp) [] σ' H' s'/\tn i s'.heap/\(∀ b∈fp,H' b=none)/\W i n σ' H') ?_ m0
   ⟨0,_,_,I4,st4,fun b hb=>(f3 b hb).1,w0⟩
  rintro n s5 ⟨i,σ5,H5,I5,st5,fr5,w5⟩
  rcases turn i n σ5 H5 w5 with⟨stop,q⟩ | ⟨go,step⟩
  ·refine thn (T.done (aY X N' sc _ _ fp) rfl rfl rfl rfl i [] s5 σ5 H5 (fun _ _=>False) I5 (stat fr5) st5 stop) ?_
   rintro r s6 ⟨hr,I6⟩
   subst hr
   obtain⟨m6,hn6,_⟩:=id I6.loc
   refine⟨m6,hn6,fun h' hs'=>?_⟩
   have hL:H5 (s2.heap.push { cls:=.type "list",data:=.seq ([]:List NK).toArray }).objs.size=none:=I6.free
   have hok':HOk X.prog X.w H5 h':=fun b u e=>by
    refine(I6.hok b u e).jK (fun c v hc q=>(hs'.2 c ?_).trans q) (fun _ q=>q) fun _ _ q=>q
    rintro rfl
    rcases hc with rfl | hc
    ·rw[hL]at e;cases e
    rw[hL]at hc;cases hc
   have ub:=I6.base
   have lt:∀ b o,(s2.heap.push { cls:=.type "list",data:=.seq ([]:List NK).toArray }).get? b=some o->b≠(s2.heap.push { cls:=.type "list",data:=.seq ([]:List NK).toArray }).objs.size:=fun b o e=>yp (NY e)
   have un:Un (frs X.stack) fp (upd H2 s2.heap.objs.size (.lst [])) H5 (s2.heap.push { cls:=.type "list",data:=.seq ([]:List NK).toArray }) h':=
    ⟨fun b o e n hb hx=>(hs'.2 b (lt b o e)).trans (ub.keep b o e n hb hx),fun b o e n hb hx=>let ⟨sl,z⟩:=ub.slot b o e n hb hx;⟨sl,(hs'.2 b (lt b o e)).trans z⟩,ub.free,
     fun b o e hx=>let ⟨o',z⟩:=ub.there b o e hx;⟨o',(hs'.2 b (lt b o e)).trans z⟩,ub.tups,ub.frzs,ub.tbls⟩
   refine⟨.ref s2.heap.objs.size,H5,I3.Ej (s':={ s6 with heap:=h' }) (ch:=fp) I6.os un hok' I6.bare (fun b hb=>?_),rfl,q⟩
   obtain⟨_,g1,g2,g3,g4,g5⟩:=f3 b hb
   exact⟨g3,g1,g4,g5⟩
  refine thn (T.item (aY X N' sc _ _ fp) rfl rfl rfl rfl i [] s5 σ5 H5 (fun _ _=>False) I5 (stat fr5) st5 go) ?_
  rintro r s6 ⟨u,hr,h6⟩
  subst hr
  refine thn h6 ?_
  rintro _ s7 ⟨x,H7,I7,r7,y7,st7,fr7⟩
  have I7':=I7.pinned (stat fr7) (T.obj _ _ st7)
  have again:∀ {σ8:St} {H8:Hp} {s8:NO},Inv (aY X N' sc { s2 with heap:=s2.heap.push { cls:=.type "list",data:=.seq ([]:List NK).toArray } } (upd H2 s2.heap.objs.size (.lst [])) fp) ([]++kE fp s7.heap) σ8 H8 s8->(∃ m',m' < n/\W (i + 1) m' σ8 H8)->
    ∃ m,m < n/\∃ i σ' H',Inv (aY X N' sc { s2 with heap:=s2.heap.push { cls:=.type "list",data:=.seq ([]:List NK).toArray } } (upd H2 s2.heap.objs.size (.lst [])) fp) [] σ' H' s8/\tn i s8.heap/\(∀ b∈fp,H' b=none)/\W i m σ' H':=fun{σ8 H8 s8} I8 ⟨m',hm,w8⟩=>by
   refine⟨m',hm,i + 1,σ8,H8,I8.iA,T.keep _ _ _ st7 fun b hb o e=>(I8.pin (b,o) (q_ _ (q_ _ (fg hb e)))).1,fun b hb=>?_,w8⟩
   obtain⟨o,e,d⟩:=T.obj _ _ st7 b hb
   exact(I8.pin (b,o) (q_ _ (q_ _ (fg hb e)))).2.1
  refine thn (hg _ _ fp _ s7 σ5 H7 x u _ I7' r7 (step x H7 y7)) ?_
  rintro _ s8 ⟨σ8,H8,I8,q8⟩
  refine thn (ht _ _ fp _ s8 σ8 H8 _ I8 q8) ?_
  rintro ok s9 ⟨H9,I9,q9⟩
  cases ok with
  | false=>exact again I9 q9
  | true=>
   refine thn (he _ _ fp _ s9 σ8 H9 _ I9 q9) ?_
   rintro y s10 ⟨v,H10,I10,r10,ys,hys,hl,q10⟩
   refine thn (lu _ s10 σ8 H10 (.ref s2.heap.objs.size) [v] (.ref s2.heap.objs.size) [y] (fun _ H'=>∃ m',m' < n/\W (i + 1) m' σ8 H') I10 rfl (.cons r10 .nil) ⟨_,ys,v,rfl,rfl,hys,hl,q10⟩) ?_
   rintro z s11 ⟨_,H11,I11,_,q11⟩
   exact again I11 q11
 refine RT loop ?_
 exact T.self X.A 0 _ _ _ st4 loop
def SqG(b:Bool)(K:NM)(H:Hp)(a:NN)(xs:List V):Prop:=match b with
 | true=>SqT K H a xs
 | false=>SqL K H a xs
section
variable{X:Cx}{pins:List (NN × Obj)}{σ:St}{H:Hp}{s:NO}
theorem Inv.sq (I:Inv X pins σ H s){b:Bool}{a:NN}{xs:List V}(h:SqG b X.K H a xs):∃ its:List NK,Vals xs its/\ZG.Sq b s.heap a its.toArray/\xs.length<=sizeLine:=by
 cases b with
 | true=>exact I.tuple h
 | false=>
  obtain⟨its,r,p,z⟩:=I.list h
  exact⟨its,r,p.isList,z⟩
theorem Inv.uK (I:Inv X pins σ H s){b:Bool}{a:NN}{xs ys:List V}(h:SqG b X.K H a xs)(h':SqG b X.K H a ys):xs=ys:=by
 cases b with
 | true=>exact I.iS h h'
 | false=>exact I.nC h h'
theorem Inv.Eh (I:Inv X pins σ H s){a b:NN}{u:HO}(h:Rd H a u)(f:jA X pins H b):a≠b:=by
 rintro rfl
 rcases h with h | ⟨o,h⟩
 ·rw[f.1]at h;cases h
 rw[f.1]at h;cases h
theorem Inv.IF (I:Inv X pins σ H s){a b:NN}{o:Obj}(h:X.K.lookup a=some o)(f:jA X pins H b):a≠b:=by
 rintro rfl
 have e:X.base.get? a=some o:=I.ok.mod.kin a o h
 rcases f.2.2.2.1 with z | z
 ·exact I.ok.noex a o e z
 exact absurd (u_ (NY (I.ok.bs a o e).1) z) (Km _)
theorem Inv.eW (I:Inv X pins σ H s){b:Bool}{a c:NN}{xs:List V}(h:SqG b X.K H a xs)(f:jA X pins H c):a≠c:=by
 cases b with
 | true=>
  rcases h with h | ⟨o,its,n,hk,_⟩
  ·exact I.Eh h f
  ·exact I.IF hk f
 | false=>
  rcases h with h | ⟨o,its,n,hk,_⟩
  ·exact I.Eh h f
  exact I.IF hk f
end
noncomputable def Itz(K:NM)(b1:Bool)(a1:NN)(b2:Bool)(a2:NN):It:=
  ⟨fun i H=>∃ xs ys x y,SqG b1 K H a1 xs/\SqG b2 K H a2 ys/\xs[i]?=some x/\ys[i]?=some y,
   fun i H v H'=>∃ p x y,H p=none/\v=.ref p/\H'=upd H p (.tup [x,y])/\(∀ xs,SqG b1 K H a1 xs->xs[i]?=some x)/\∀ ys,SqG b2 K H a2 ys->ys[i]?=some y,
   fun i H=>∃ xs ys,SqG b1 K H a1 xs/\SqG b2 K H a2 ys/\(xs.length<=i\/ys.length<=i)⟩
structure Off5 (z TI TO i1 i2:NN):Prop where
 a1:TI≠z
 a2:TO≠z
 a3:i1≠z
 a4:i2≠z
 a5:TI≠TO
 a6:TI≠i1
 a7:TI≠i2
 a8:TO≠i1
 a9:TO≠i2
 b1:i1≠i2
theorem zN{P:NW}{w:N3}{K:NM}{es:List N2}{x1:Nat}{tp:Pos}(b1:Bool)(a1:NN)(b2:Bool)(a2 z TI TO i1 i2:NN)(D:Off5 z TI TO i1 i2) :
  Turn P w K (.Tuple es x1 tp) (Itz K b1 a1 b2 a2) [z,TI,TO,i1,i2] z (fun i h=>PV h z TI TO .none/\OV h TI (.ref i1) (.ref i2)/\(∃ a b,OV h TO a b)/\ZG.Dr b1 h i1 a1 i/\ZG.Dr b2 h i2 a2 i) where
 mem:=by simp
 obj:=fun i h st b hb=>by
  obtain⟨hz,hi,⟨a,c,ho⟩,d1,d2⟩:=st
  have hb:b=z\/b=TI\/b=TO\/b=i1\/b=i2:=by simpa using hb
  rcases hb with rfl | rfl | rfl | rfl | rfl
  ·exact⟨_,hz,fun v e=>by cases (show SU _=RH v from e)⟩
  ·exact⟨_,hi,fun v e=>by cases (show UM _ _=RH v from e)⟩
  ·exact⟨_,ho,fun v e=>by cases (show UM _ _=RH v from e)⟩
  ·exact d1.some
  exact d2.some
 keep:=fun i h h' st k=>by
  obtain⟨hz,hi,⟨a,c,ho⟩,d1,d2⟩:=st
  exact⟨k z (by simp) _ hz,k TI (by simp) _ hi,⟨a,c,k TO (by simp) _ ho⟩,d1.at fun o e=>k i1 (by simp) o e,d2.at fun o e=>k i2 (by simp) o e⟩
 item:=by
  intro X hP hw hK hc i pins s σ H E I hf st hg
  subst hP hw hK
  obtain⟨xs,ys,x,y,q1,q2,hx,hy⟩:=hg
  obtain⟨its,rv,p1,z1⟩:=I.sq q1
  obtain⟨jts,sv,p2,z2⟩:=I.sq q2
  obtain⟨u,hu,ru⟩:=rv.get hx
  obtain⟨v,hv,rw'⟩:=sv.get hy
  obtain⟨hz,hi,⟨a,c,ho⟩,d1,d2⟩:=st
  have fz:=hf z (by simp)
  have fTI:=hf TI (by simp)
  have fTO:=hf TO (by simp)
  have f1:=hf i1 (by simp)
  have f2:=hf i2 (by simp)
  have DD:ZG.Off z TI TO i1 i2 a1 a2:=⟨D.a1,D.a2,D.a3,D.a4,D.a5,D.a6,D.a7,D.a8,D.a9,D.b1,I.eW q1 fz,I.eW q1 fTO,I.eW q1 f1,I.eW q1 f2,I.eW q2 fz,I.eW q2 fTO,I.eW q2 f1,I.eW q2 f2⟩
  refine ZG.tG DD hz hi ho d1 d2 p1 p2 (by simpa using hu) (by simpa using hv) fun g gz gO g1 g2 gT gs gk=>⟨_,rfl,?_⟩
  refine wpAny_letOwnedTupleGo_zip (s:={ s with heap:=g }) gz fun h' hz' hs'=>?_
  have hfresh:H s.heap.objs.size=none:=I.hok.fresh (c_ _)
  have zT:s.heap.objs.size≠z:=Lb (NY hz)
  have kp:∀ b o,b ∉ [z,TI,TO,i1,i2]->s.heap.get? b=some o->h'.get? b=some o:=fun b o hb e=>by
   have n:b≠z/\b≠TI/\b≠TO/\b≠i1/\b≠i2:=by simpa using hb
   exact hs'.extBut _ _ n.1 (gk b o n.1 n.2.2.1 n.2.2.2.1 n.2.2.2.2 e)
  have hT:h'.get? s.heap.objs.size=some { cls:=.type "tuple",data:=.seq #[u,v] }:=hs'.extBut _ _ zT gT
  have notfp:∀ b o,H b=some o->b ∉ [z,TI,TO,i1,i2]:=fun b o e hb=>by
   have:=(hf b hb).1
   rw[e]at this;cases this
  have ne:∀ b o,s.heap.get? b=some o->b≠s.heap.objs.size:=fun b o e=>yp (NY e)
  have nt:∀ b o,H b=some o->b≠s.heap.objs.size:=fun b o e=>cy e hfresh
  have I1:Inv X pins σ (upd H s.heap.objs.size (.tup [x,y])) { s with heap:=h' }:=by
   refine I.step (g':=s.gens) (d':=s.drawn) (t':=s.toks) (ch:=[z,TI,TO,i1,i2]) (fun b hb=>?_) (fun b o _ _ hc e _=>kp b o hc e) (fun b o _ _ hc e _=>⟨o.slots,kp b o hc e⟩)
    (fun b o _ e n=>by rw[aH (ne b o e)];exact n) (fun b o hc e=>⟨o,kp b o hc e⟩) (fun b zs e=>by rw[aH (nt b _ e)];exact e) (fun b o u e=>by rw[aH (nt b _ e)];exact e)
    (fun b ps e=>⟨#[],by rw[aH (nt b _ e),e];simp⟩) (fun m hm=>?_) (fun b o e=>?_) I.bare
   ·obtain⟨g0,g1,g2,g3,g4,g5⟩:=hf b hb
    exact⟨g3,g1,g4,g5⟩
   ·obtain⟨o,es,ep,ho',r⟩:=hm
    exact⟨o,es,ep,kp _ o (fun hb=>(hf _ hb).2.1 rfl) ho',r⟩
   by_cases hb:b=s.heap.objs.size
   ·subst hb
    rw[aR]at e
    cases e
    exact⟨by show 2<=sizeLine;decide,[u,v],.cons ru (.cons rw' .nil),_,hT,rfl,_,rfl⟩
   rw[aH hb]at e
   refine(I.hok b o e).jK (fun c' w' hc' q=>kp c' w' ?_ q) (fun c' q=>by rw[aH (nt c' _ q)];exact q) fun c' zs q=>by rw[aH (nt c' _ q)];exact q
   rcases hc' with rfl | hc'
   ·exact notfp _ _ e
   exact notfp _ _ hc'
  refine⟨.ref s.heap.objs.size,_,I1,rfl,⟨s.heap.objs.size,x,y,hfresh,rfl,rfl,fun zs hq=>by rw[I.uK hq q1];exact hx,fun zs hq=>by rw[I.uK hq q2];exact hy⟩,?_,fun b hb=>?_⟩
  ·exact⟨hz',hs'.extBut _ _ D.a1 (gk _ _ D.a1 D.a5 D.a6 D.a7 hi),⟨_,_,hs'.extBut _ _ D.a2 gO⟩,g1.ext hs'.extBut D.a3,g2.ext hs'.extBut D.a4⟩
  have hb0:=(hf b hb).1
  have hb':b=z\/b=TI\/b=TO\/b=i1\/b=i2:=by simpa using hb
  have hlt:∃ o,s.heap.get? b=some o:=by
   rcases hb' with rfl | rfl | rfl | rfl | rfl
   ·exact⟨_,hz⟩
   ·exact⟨_,hi⟩
   ·exact⟨_,ho⟩
   ·obtain⟨o,e,_⟩:=d1.some;exact⟨o,e⟩
   obtain⟨o,e,_⟩:=d2.some;exact⟨o,e⟩
  obtain⟨o,e⟩:=hlt
  rw[aH (ne b o e)]
  exact hb0
 done:=by
  intro X hP hw hK hc i pins s σ H E I hf st hg
  subst hP hw hK
  obtain⟨xs,ys,q1,q2,hn⟩:=hg
  obtain⟨its,rv,p1,z1⟩:=I.sq q1
  obtain⟨jts,sv,p2,z2⟩:=I.sq q2
  obtain⟨hz,hi,⟨a,c,ho⟩,d1,d2⟩:=st
  have fz:=hf z (by simp)
  have fTI:=hf TI (by simp)
  have fTO:=hf TO (by simp)
  have f1:=hf i1 (by simp)
  have f2:=hf i2 (by simp)
  have DD:ZG.Off z TI TO i1 i2 a1 a2:=⟨D.a1,D.a2,D.a3,D.a4,D.a5,D.a6,D.a7,D.a8,D.a9,D.b1,I.eW q1 fz,I.eW q1 fTO,I.eW q1 f1,I.eW q1 f2,I.eW q2 fz,I.eW q2 fTO,I.eW q2 f1,I.eW q2 f2⟩
  have l1:=rv.length
  have l2:=sv.length
  refine ZG.u7 (I.ok.hd hc) DD hz hi ho d1 d2 p1 p2 (hn.elim (fun z=>.inl (by simp;omega)) fun z=>.inr (by simp;omega)) fun g gk=>⟨rfl,?_⟩
  have kp:∀ b o,b ∉ [z,TI,TO,i1,i2]->s.heap.get? b=some o->g.get? b=some o:=fun b o hb e=>by
   have n:b≠z/\b≠TI/\b≠TO/\b≠i1/\b≠i2:=by simpa using hb
   exact gk b o n.1 n.2.2.1 n.2.2.2.1 n.2.2.2.2 e
  have notfp:∀ b o,H b=some o->b ∉ [z,TI,TO,i1,i2]:=fun b o e hb=>by
   have:=(hf b hb).1
   rw[e]at this;cases this
  refine I.step (g':=s.gens) (d':=s.drawn) (t':=s.toks) (ch:=[z,TI,TO,i1,i2]) (fun b hb=>?_) (fun b o _ _ hc e _=>kp b o hc e) (fun b o _ _ hc e _=>⟨o.slots,kp b o hc e⟩)
   (fun b o _ e n=>n) (fun b o hc e=>⟨o,kp b o hc e⟩) (fun b zs e=>e) (fun b o u e=>e) (fun b ps e=>⟨#[],by rw[e];simp⟩) (fun m hm=>?_) (fun b o e=>?_) I.bare
  ·obtain⟨g0,g1,g2,g3,g4,g5⟩:=hf b hb
   exact⟨g3,g1,g4,g5⟩
  ·obtain⟨o,es,ep,ho',r⟩:=hm
   exact⟨o,es,ep,kp _ o (fun hb=>(hf _ hb).2.1 rfl) ho',r⟩
  refine(I.hok b o e).jK (fun c' w' hc' q=>kp c' w' ?_ q) (fun c' q=>q) fun c' zs q=>q
  rcases hc' with rfl | hc'
  ·exact notfp _ _ e
  exact notfp _ _ hc'
 self:=fun _ _ _ _ _ st h=>Ta st.1 h
def JC(K:NM)(ta:TA):TI:=fun σ H R=>ta σ H fun vs H1=>∃ b1 a1 b2 a2,vs=[.ref a1,.ref a2]/\(∃ xs,SqG b1 K H1 a1 xs)/\(∃ ys,SqG b2 K H1 a2 ys)/\R (Itz K b1 a1 b2 a2) H1
theorem zA{X:Cx}{es:List N2}{x1:Nat}{tp:Pos}{a b:N2}{ta:TA}{p pos:Pos}(hg:Gl X "zip")(hm:X.mg "zip"=none)(ha:PA X [a,b] ta)(hs:N7 [a,b] X.env=[(false,Og a X.env),(false,Og b X.env)]:=by rfl)(hs2:N7 [b] X.env=[(false,Og b X.env)]:=by rfl) :
  PI X (.Tuple es x1 tp) (.Call (.Name "zip" p) [a,b] [] pos) (JC X.K ta):=by
 intro pins s σ H R I h
 refine Vk (jr I hg hm boot_zip (OR (thn (ha pos pins s σ H _ I h) fun us s1 ⟨vs,H1,I1,r1,q1⟩=>?_) (by rw[hs,hs2]) (by rw[hs2];rfl)))
 obtain⟨b1,a1,b2,a2,e,⟨xs,q1⟩,⟨ys,q2⟩,q⟩:=q1
 subst e
 cases r1 with
 | cons r rr=>
  cases rr with
  | cons r' rr=>
   cases rr
   cases r
   cases r'
   obtain⟨its,rv,p1,z1⟩:=I1.sq q1
   obtain⟨jts,sv,p2,z2⟩:=I1.sq q2
   refine ZG.Aa p1 p2 fun g gz gi go g1 g2 gs gk=>Ta (s:={ s1 with heap:=g }) gz ?_
   have I2:Inv X pins σ H1 { s1 with heap:=g }:=I1.kept (t':=s1.toks) gk
   refine⟨_,_,_,_,H1,rfl,I2,zN b1 a1 b2 a2 _ (s1.heap.objs.size + 2) (s1.heap.objs.size + 3) s1.heap.objs.size (s1.heap.objs.size + 1) ?_,⟨gz,gi,⟨_,_,go⟩,g1,g2⟩,fun b hb=>?_,q⟩
   ·constructor <;>(show(_:Nat)≠_) <;> omega
   have hb':s1.heap.objs.size<=b:=by
    have z:b=s1.heap.objs.size + 4\/b=s1.heap.objs.size + 2\/b=s1.heap.objs.size + 3\/b=s1.heap.objs.size\/b=s1.heap.objs.size + 1:=by simpa using hb
    rcases z with z | z | z | z | z <;> rw[z] <;>(show(_:Nat)<=_) <;> omega
   exact I1.rO hb' (I1.hok.fresh hb')
def bools(bs:List Bool):List V:=bs.map V.bl
theorem yk{bs:List Bool}{us:List NK}(r:Vals (bools bs) us){i:Nat}{u:NK}(h:us[i]?=some u):∃ b,bs[i]?=some b/\u=.bool b:=by
 have hl:=r.length
 have hi:i < us.length:=(f_.mp h).1
 have hb:i < bs.length:=by rw[<-hl]at hi;simpa[bools]using hi
 have e:(bools bs)[i]?=some (.bl bs[i]):=by unfold bools;rw[s_,b_ hb];rfl
 obtain⟨u',h',ru⟩:=r.get e
 rw[h]at h'
 cases h'
 exact⟨bs[i],b_ hb,ru⟩
theorem uE(bs:List Bool):((p_ bs.length).all fun i=>(bs[i]?).getD true)=bs.all id:=by
 have e:bs=(p_ bs.length).map fun i=>(bs[i]?).getD true:=by
  apply List.ext_getElem
  ·simp
  intro i h1 h2;simp[h1]
 conv=>rhs;rw[e,Lc]
 rfl
section
variable{X:Cx}
theorem rR(hc:X.calm=true):bG X (.builtin "all") (fun xs H Q=>∃ a bs,xs=[.ref a]/\SqL X.K H a (bools bs)/\Q (.bl (bs.all id)) H):=by
 intro pins s σ H xs us Q I r h
 obtain⟨a,bs,rfl,hq,q⟩:=h
 obtain⟨u,rfl,ru⟩:=vals1 r
 cases ru
 obtain⟨its,rv,p,z⟩:=I.list hq
 have hl:=p.isList
 have hlt:a < s.heap.objs.size:=by obtain⟨_,e,_⟩:=hl;exact NY e
 have hlen:its.toArray.size=bs.length:=by rw[m_,<-rv.length];simp[bools]
 refine call_all_walk (Pg hl ⟨s.heap.objs.size,[s.heap.objs.size,a],[s.heap.objs.size],its.toArray.size,_,_,fun i=>(bs[i]?).getD true,rfl,Walks.list (A:=X.A.in1) (I.ok.hd hc) _ a (yp hlt) its.toArray,⟨⟨_,N0 _ rfl,rfl,rfl⟩,hl.push _⟩,fun i v s' Q' E' hP hQ=>?_,fun h' tk hk=>?_⟩)
 ·obtain⟨b,e,rfl⟩:=yk rv (i:=i) (u:=v) (by simpa using hP)
  simp only[e,Mm]at hQ
  exact Oo hQ
 rw[hlen,uE]
 exact⟨.bl (bs.all id),H,I.kept (t':=tk) (LSm.kept_iter hk),rfl,q⟩
end
inductive Ty where
 | non | bl | int | str | lst | tup | dct
 deriving DecidableEq
def Ty.nm:Ty->String
 | .non=>"NoneType"
 | .bl=>"bool"
 | .int=>"int"
 | .str=>"str"
 | .lst=>"list"
 | .tup=>"tuple"
 | .dct=>"dict"
def isA(t c:Ty):Bool:=decide (t=c) || (decide (t=.bl) && decide (c=.int))
inductive TyG (K:NM) (H:Hp):V->Ty->Prop where
 | non:TyG K H .non .non
 | bl (b:Bool):TyG K H (.bl b) .bl
 | int (i:Int):TyG K H (.int i) .int
 | str (x:Str):TyG K H (.str x) .str
 | lst {a:NN} {xs:List V} (h:SqL K H a xs):TyG K H (.ref a) .lst
 | tup {a:NN} {xs:List V} (h:SqT K H a xs):TyG K H (.ref a) .tup
 | dct {a:NN} {kvs:List (Key × V)} (h:Rd H a (.dK kvs)):TyG K H (.ref a) .dct
theorem vK(K:NM)(t c:Ty):PySem.W.kitOne K (.type t.nm) (.type c.nm)=some (isA t c):=by
 cases t <;> cases c <;> kernel_rfl
theorem xC(K:NM)(t:Ty):∀ cs:List Ty,TQ K (.type t.nm) (cs.map fun c=>OJ c.nm)=some (cs.any (isA t))
 | []=>rfl
 | c::r=>by
  rw[d_,Ky]
  unfold TQ
  rw[vK]
  cases isA t c with
  | true=>rfl
  | false=>exact xC K t r
section
variable{X:Cx}{pins:List (NN × Obj)}{σ:St}{H:Hp}{s:NO}{A:N_}{E:NK->NO->Prop}{Q:NK->NO->Prop}
theorem Vals.tys:∀ {cs:List Ty} {us:List NK},Vals (cs.map fun c=>V.ty c.nm) us->us=cs.map fun c=>OJ c.nm
 | [],_,.nil=>rfl
 | c::r,_,.cons h t=>by
  have e:_=OJ c.nm:=h
  rw[d_,<-Vals.tys t,e]
def wj(K:NM)(H:Hp)(y:V)(cs:List Ty):Prop:=(∃ c,y=.ty c.nm/\cs=[c])\/∃ p,y=.ref p/\H p=some (.tup (cs.map fun c=>V.ty c.nm))
theorem Ag{x y:V}{u v:NK}{t:Ty}{cs:List Ty}(I:Inv X pins σ H s)(rx:RelV x u)(ry:RelV y v)(ty:TyG X.K H x t)(ka:wj X.K H y cs)(h:∀ tk,Q (.bool (cs.any (isA t))) { s with toks:=tk }) :
  NT (N1 X.prog X.w) A (call (.builtin "isinstance") [u,v]) Q E s:=by
 have go:∀ {P:N5->Prop},PySem.W.KitX X.K u (.type t.nm) P->P s.heap->u≠.builtin "__main__.__loader__#opaque"->NT (N1 X.prog X.w) A (call (.builtin "isinstance") [u,v]) Q E s:=fun{P} Z p hx=>by
  rcases ka with⟨c,rfl,rfl⟩ | ⟨q,rfl,hq⟩
  ·cases (show v=OJ c.nm from ry)
   have e:([c].any (isA t))=isA t c:=by simp
   exact PySem.W.kia_one Z I.kIn p (vK X.K t c) hx (fun tk=>by rw[<-e];exact h tk)
  cases (show v=Oa q from ry)
  obtain⟨_,its,rv,o,ho,hc,n,hd⟩:=(show bg X.prog X.w H s.heap q (.tup _)from I.hok q _ hq)
  have e:=rv.tys
  subst e
  obtain⟨c,dd,dt,sl⟩:=o
  cases (show c=_ from hc)
  cases (show dt=_ from hd)
  exact PySem.W.kia_tup Z I.kIn p ho (xC X.K t cs) hx h
 cases ty with
 | non=>cases (show u=Om from rx);exact go PySem.W.kitx_none O1 (fun z=>nomatch z)
 | bl y=>cases (show u=R7 y from rx);exact go PySem.W.kitx_bool O1 (fun z=>nomatch z)
 | int i=>obtain⟨t,q⟩:=(show ∃ t,u=Qw i t from rx);cases q;exact go PySem.W.kitx_int O1 (fun z=>nomatch z)
 | str y=>obtain⟨t,q⟩:=(show ∃ t,u=Sw y t from rx);cases q;exact go PySem.W.kitx_str O1 (fun z=>nomatch z)
 | @lst a xs hq=>
  cases (show u=Oa a from rx)
  obtain⟨_,_,p,_⟩:=I.list hq
  obtain⟨o,h1,h2,_⟩:=p.isList
  exact go PySem.W.kitx_list ⟨o,h1,h2⟩ (fun z=>nomatch z)
 | @tup a xs hq=>
  cases (show u=Oa a from rx)
  obtain⟨_,_,p,_⟩:=I.tuple hq
  obtain⟨o,h1,h2,_⟩:=p
  exact go PySem.W.kitx_tuple ⟨o,h1,h2⟩ (fun z=>nomatch z)
 | @dct a kvs hq=>
  cases (show u=Oa a from rx)
  obtain⟨_,_,vs,_,p⟩:=(show bg X.prog X.w H s.heap a (.dK kvs)from hq.ok I.hok)
  obtain⟨o,es,ep,h1,h2,_⟩:=p
  exact go PySem.W.kitx_dict ⟨o,h1,h2.1⟩ (fun z=>nomatch z)
theorem bD:bG X (.builtin "isinstance") (fun xs H Q=>∃ x y t cs,xs=[x,y]/\TyG X.K H x t/\wj X.K H y cs/\Q (.bl (cs.any (isA t))) H):=by
 intro pins s σ H xs us Q I r h
 obtain⟨x,y,t,cs,rfl,ty,ka,q⟩:=h
 cases r with
 | cons r rr=>
  cases rr with
  | cons r' rr=>
   cases rr
   exact Ag I r r' ty ka fun tk=>⟨.bl (cs.any (isA t)),H,I.tok tk,rfl,q⟩
end
inductive Dt where
 | int (i:Int) | bl (b:Bool) | str (x:Str) | non | lst (ds:List Dt) | tup (ds:List Dt)
mutual
def Has(K:NM)(H:Hp):Dt->V->Prop
 | .int i,v=>v=.int i
 | .bl b,v=>v=.bl b
 | .str x,v=>v=.str x
 | .non,v=>v=.non
 | .lst ds,v=>∃ a xs,v=.ref a/\SqL K H a xs/\aO K H ds xs
 | .tup ds,v=>∃ a xs,v=.ref a/\SqT K H a xs/\aO K H ds xs
def aO(K:NM)(H:Hp):List Dt->List V->Prop
 | [],xs=>xs=[]
 | d::r,xs=>∃ x t,xs=x::t/\Has K H d x/\aO K H r t
end
mutual
def dpt:Dt->Nat
 | .lst ds=>cN ds + 1
 | .tup ds=>cN ds + 1
 | _=>0
def cN:List Dt->Nat
 | []=>0
 | d::r=>max (dpt d) (cN r)
end
mutual
def eqD:Dt->Dt->Bool
 | .int a,.int b=>a == b
 | .int a,.bl b=>a ==(if b then 1 else 0)
 | .bl a,.int b=>(if a then 1 else 0) == b
 | .bl a,.bl b=>a == b
 | .str a,.str b=>a == b
 | .non,.non=>true
 | .lst xs,.lst ys=>eqL xs ys
 | .tup xs,.tup ys=>eqL xs ys
 | _,_=>false
def eqL:List Dt->List Dt->Bool
 | [],[]=>true
 | x::xs,y::ys=>eqD x y && eqL xs ys
 | _,_=>false
end
mutual
theorem iH:∀ d:Dt,eqD d d=true
 | .int a=>by simp[eqD]
 | .bl a=>by simp[eqD]
 | .str a=>by simp[eqD]
 | .non=>by simp[eqD]
 | .lst xs=>by rw[eqD];exact ng xs
 | .tup xs=>by rw[eqD];exact ng xs
theorem ng:∀ ds:List Dt,eqL ds ds=true
 | []=>by simp[eqL]
 | d::r=>by rw[eqL,iH d,ng r];rfl
end
theorem aO.len {K:NM}{H:Hp}:∀ {ds:List Dt} {xs:List V},aO K H ds xs->ds.length=xs.length
 | [],xs,h=>by rw[aO]at h;rw[h];rfl
 | d::r,xs,h=>by
  rw[aO]at h
  obtain⟨x,t,rfl,_,ht⟩:=h
  rw[j_,j_,aO.len ht]
theorem aO.get {K:NM}{H:Hp}:∀ {ds:List Dt} {xs:List V} {i:Nat} {d:Dt} {x:V},aO K H ds xs->ds[i]?=some d->xs[i]?=some x->Has K H d x
 | [],xs,i,d,x,h,e,_=>by simp at e
 | c::r,xs,0,d,x,h,e,f=>by
  rw[aO]at h
  obtain⟨y,t,rfl,hy,ht⟩:=h
  simp at e f
  subst e f
  exact hy
 | c::r,xs,i + 1,d,x,h,e,f=>by
  rw[aO]at h
  obtain⟨y,t,rfl,hy,ht⟩:=h
  exact aO.get ht (i:=i) (by simpa using e) (by simpa using f)
theorem SqL.same {K:NM}{H H':Hp}{a:NN}{xs:List V}(e:bo H H')(h:SqL K H a xs):SqL K H' a xs:=e.seq h
theorem SqT.same {K:NM}{H H':Hp}{a:NN}{xs:List V}(e:bo H H')(h:SqT K H a xs):SqT K H' a xs:=by
 rcases h with (h | ⟨o,h⟩) | h
 ·exact .inl (.inl (e _ _ h))
 ·exact .inl (.inr ⟨o,e _ _ h⟩)
 exact .inr h
theorem SqG.same {b:Bool}{K:NM}{H H':Hp}{a:NN}{xs:List V}(e:bo H H')(h:SqG b K H a xs):SqG b K H' a xs:=by
 cases b with
 | true=>exact SqT.same e h
 | false=>exact SqL.same e h
mutual
theorem Has.same {K:NM}{H H':Hp}(e:bo H H'):∀ {d:Dt} {v:V},Has K H d v->Has K H' d v
 | .int i,v,h=>by rw[Has]at h ⊢;exact h
 | .bl i,v,h=>by rw[Has]at h ⊢;exact h
 | .str i,v,h=>by rw[Has]at h ⊢;exact h
 | .non,v,h=>by rw[Has]at h ⊢;exact h
 | .lst ds,v,h=>by
  rw[Has]at h ⊢
  obtain⟨a,xs,hv,hs,hl⟩:=h
  exact⟨a,xs,hv,SqL.same e hs,aO.same e hl⟩
 | .tup ds,v,h=>by
  rw[Has]at h ⊢
  obtain⟨a,xs,hv,hs,hl⟩:=h
  exact⟨a,xs,hv,SqT.same e hs,aO.same e hl⟩
theorem aO.same {K:NM}{H H':Hp}(e:bo H H'):∀ {ds:List Dt} {xs:List V},aO K H ds xs->aO K H' ds xs
 | [],xs,h=>by rw[aO]at h ⊢;exact h
 | d::r,xs,h=>by
  rw[aO]at h ⊢
  obtain⟨x,t,hx,h1,h2⟩:=h
  exact⟨x,t,hx,Has.same e h1,aO.same e h2⟩
end
theorem aO.append {K:NM}{H:Hp}:∀ {ds es:List Dt} {xs ys:List V},aO K H ds xs->aO K H es ys->aO K H (ds++es) (xs++ys)
 | [],es,xs,ys,h,g=>by rw[aO]at h;subst h;exact g
 | d::r,es,xs,ys,h,g=>by
  rw[aO]at h
  obtain⟨x,t,rfl,h1,h2⟩:=h
  show aO K H (d::(r++es)) (x::(t++ys))
  rw[aO]
  exact⟨x,t++ys,rfl,h1,aO.append h2 g⟩
theorem kc{K:NM}{H:Hp}:aO K H [] []:=by rw[aO]
theorem lq{K:NM}{H:Hp}{d:Dt}{r:List Dt}{x:V}{t:List V}(h:Has K H d x)(g:aO K H r t):aO K H (d::r) (x::t):=by rw[aO];exact⟨x,t,rfl,h,g⟩
def di(ns:List Int):List Dt:=ns.map Dt.int
theorem oU{K:NM}{H:Hp}:∀ ns:List Int,aO K H (di ns) (ns.map V.int)
 | []=>kc
 | n::r=>lq (by rw[Has]) (oU r)
theorem qZ{K:NM}{H:Hp}{p:NN}{ns:List Int}(h:SqL K H p (ns.map V.int)):Has K H (.lst (di ns)) (.ref p):=by rw[Has];exact⟨p,_,rfl,h,oU ns⟩
theorem oy:∀ ns:List Int,cN (di ns)=0
 | []=>by simp[di,cN]
 | n::r=>by
  have ih:=oy r
  show cN (Dt.int n::di r)=0
  simp[cN,dpt,ih]
theorem jZ:∀ {ds:List Dt} {i:Nat} {d:Dt},ds[i]?=some d->dpt d<=cN ds
 | [],i,d,e=>by simp at e
 | c::r,0,d,e=>by simp at e;subst e;rw[cN];exact Nat.le_max_left _ _
 | c::r,i + 1,d,e=>by
  have q:dpt d<=cN r:=jZ (i:=i) (by simpa using e)
  rw[cN]
  exact n_ q (Nat.le_max_right _ _)
theorem lD:∀(ds es:List Dt),ds.length=es.length->((p_ ds.length).all fun j=>eqD (ds.getD j .non) (es.getD j .non))=eqL ds es
 | [],[],_=>by simp[eqL]
 | [],e::r,h=>by simp at h
 | d::r,[],h=>by simp at h
 | d::r,e::t,h=>by
  have h':r.length=t.length:=by simpa using h
  rw[eqL,<-lD r t h',j_,MA,Ma,Lc]
  rfl
theorem qw:∀ {ds es:List Dt},eqL ds es=true->ds.length=es.length
 | [],[],_=>rfl
 | [],e::r,h=>by simp[eqL]at h
 | d::r,[],h=>by simp[eqL]at h
 | d::r,e::t,h=>by
  rw[eqL,F_]at h
  rw[j_,j_,qw h.2]
theorem sk:∀(ds es:List Dt),(((p_ (min ds.length es.length)).all fun j=>eqD (ds.getD j .non) (es.getD j .non)) && ds.length == es.length)=eqL ds es:=by
 intro ds es
 by_cases h:ds.length=es.length
 ·rw[<-lD ds es h,h,MZ]
  simp
 have:eqL ds es=false:=K9.mpr fun z=>h (qw z)
 rw[this]
 have:(ds.length == es.length)=false:=by simpa using h
 rw[this,Nz]
section
variable{X:Cx}{pins:List (NN × Obj)}{σ:St}{H:Hp}{s:NO}
theorem tO(n:Nat){A:N_}(hA:A.units + 1 + n < cLine + 1)(I:Inv X pins σ H s){ds es:List Dt}{xs ys:List V}{its jts:List NK}(h1:aO X.K H ds xs)(h2:aO X.K H es ys)(r1:Vals xs its)(r2:Vals ys jts)
  (rec:∀ d e x y u v,d∈ds->e∈es->Has X.K H d x->Has X.K H e y->RelV x u->RelV y v->PX A.in1 s u v (eqD d e)) :
  ∀ j (g1:j < its.toArray.size) (g2:j < jts.toArray.size),PX A.in1 s its.toArray[j] jts.toArray[j] (eqD (ds.getD j .non) (es.getD j .non)):=by
 intro j g1 g2
 have l1:=r1.length
 have l2:=r2.length
 have m1:=h1.len
 have m2:=h2.len
 have g1':j < its.length:=by simpa using g1
 have g2':j < jts.length:=by simpa using g2
 have a1:j < xs.length:=by lia
 have a2:j < ys.length:=by lia
 have b1:j < ds.length:=by lia
 have b2:j < es.length:=by lia
 obtain⟨u,hu,ru⟩:=r1.get (b_ a1)
 obtain⟨v,hv,rv⟩:=r2.get (b_ a2)
 rw[b_ g1']at hu
 rw[b_ g2']at hv
 cases hu
 cases hv
 have e1:ds.getD j .non=ds[j]:=by simp[JU,b1]
 have e2:es.getD j .non=es[j]:=by simp[JU,b2]
 rw[e1,e2]
 have:=rec ds[j] es[j] xs[j] ys[j] its[j] jts[j] (Kc b1) (Kc b2) (h1.get (b_ b1) (b_ a1)) (h2.get (b_ b2) (b_ a2)) ru rv
 simpa using this
theorem x4{ds:List Dt}{d:Dt}(h:d∈ds):dpt d<=cN ds:=by
 obtain⟨i,hi⟩:=List.getElem?_of_mem h
 exact jZ hi
mutual
theorem Has.inj (I:Inv X pins σ H s):∀ {d e:Dt} {x:V},Has X.K H d x->Has X.K H e x->d=e
 | .int a,.int b,x,h1,h2=>by
  rw[Has]at h1
  rw[Has]at h2
  rw[h1]at h2
  cases h2
  rfl
 | .int a,.bl b,x,h1,h2=>by
  rw[Has]at h1
  rw[Has]at h2
  rw[h1]at h2
  cases h2
 | .int a,.str b,x,h1,h2=>by
  rw[Has]at h1
  rw[Has]at h2
  rw[h1]at h2
  cases h2
 | .int a,.non,x,h1,h2=>by
  rw[Has]at h1
  rw[Has]at h2
  rw[h1]at h2
  cases h2
 | .int a,.lst b,x,h1,h2=>by
  rw[Has]at h1
  rw[Has]at h2
  obtain⟨p,xs,e,s1,l1⟩:=h2
  rw[h1]at e
  cases e
 | .int a,.tup b,x,h1,h2=>by
  rw[Has]at h1
  rw[Has]at h2
  obtain⟨p,xs,e,s1,l1⟩:=h2
  rw[h1]at e
  cases e
 | .bl a,.int b,x,h1,h2=>by
  rw[Has]at h1
  rw[Has]at h2
  rw[h1]at h2
  cases h2
 | .bl a,.bl b,x,h1,h2=>by
  rw[Has]at h1
  rw[Has]at h2
  rw[h1]at h2
  cases h2
  rfl
 | .bl a,.str b,x,h1,h2=>by
  rw[Has]at h1
  rw[Has]at h2
  rw[h1]at h2
  cases h2
 | .bl a,.non,x,h1,h2=>by
  rw[Has]at h1
  rw[Has]at h2
  rw[h1]at h2
  cases h2
 | .bl a,.lst b,x,h1,h2=>by
  rw[Has]at h1
  rw[Has]at h2
  obtain⟨p,xs,e,s1,l1⟩:=h2
  rw[h1]at e
  cases e
 | .bl a,.tup b,x,h1,h2=>by
  rw[Has]at h1
  rw[Has]at h2
  obtain⟨p,xs,e,s1,l1⟩:=h2
  rw[h1]at e
  cases e
 | .str a,.int b,x,h1,h2=>by
  rw[Has]at h1
  rw[Has]at h2
  rw[h1]at h2
  cases h2
 | .str a,.bl b,x,h1,h2=>by
  rw[Has]at h1
  rw[Has]at h2
  rw[h1]at h2
  cases h2
 | .str a,.str b,x,h1,h2=>by
  rw[Has]at h1
  rw[Has]at h2
  rw[h1]at h2
  cases h2
  rfl
 | .str a,.non,x,h1,h2=>by
  rw[Has]at h1
  rw[Has]at h2
  rw[h1]at h2
  cases h2
 | .str a,.lst b,x,h1,h2=>by
  rw[Has]at h1
  rw[Has]at h2
  obtain⟨p,xs,e,s1,l1⟩:=h2
  rw[h1]at e
  cases e
 | .str a,.tup b,x,h1,h2=>by
  rw[Has]at h1
  rw[Has]at h2
  obtain⟨p,xs,e,s1,l1⟩:=h2
  rw[h1]at e
  cases e
 | .non,.int b,x,h1,h2=>by
  rw[Has]at h1
  rw[Has]at h2
  rw[h1]at h2
  cases h2
 | .non,.bl b,x,h1,h2=>by
  rw[Has]at h1
  rw[Has]at h2
  rw[h1]at h2
  cases h2
 | .non,.str b,x,h1,h2=>by
  rw[Has]at h1
  rw[Has]at h2
  rw[h1]at h2
  cases h2
 | .non,.non,x,h1,h2=>rfl
 | .non,.lst b,x,h1,h2=>by
  rw[Has]at h1
  rw[Has]at h2
  obtain⟨p,xs,e,s1,l1⟩:=h2
  rw[h1]at e
  cases e
 | .non,.tup b,x,h1,h2=>by
  rw[Has]at h1
  rw[Has]at h2
  obtain⟨p,xs,e,s1,l1⟩:=h2
  rw[h1]at e
  cases e
 | .lst a,.int b,x,h1,h2=>by
  rw[Has]at h1
  rw[Has]at h2
  obtain⟨p,xs,rfl,s1,l1⟩:=h1
  cases h2
 | .lst a,.bl b,x,h1,h2=>by
  rw[Has]at h1
  rw[Has]at h2
  obtain⟨p,xs,rfl,s1,l1⟩:=h1
  cases h2
 | .lst a,.str b,x,h1,h2=>by
  rw[Has]at h1
  rw[Has]at h2
  obtain⟨p,xs,rfl,s1,l1⟩:=h1
  cases h2
 | .lst a,.non,x,h1,h2=>by
  rw[Has]at h1
  rw[Has]at h2
  obtain⟨p,xs,rfl,s1,l1⟩:=h1
  cases h2
 | .lst a,.lst b,x,h1,h2=>by
  rw[Has]at h1
  rw[Has]at h2
  obtain⟨p,xs,rfl,s1,l1⟩:=h1
  obtain⟨q,ys,e,s2,l2⟩:=h2
  cases e
  have e:=I.nC s1 s2
  subst e
  rw[aO.inj I l1 l2]
 | .lst a,.tup b,x,h1,h2=>by
  rw[Has]at h1
  rw[Has]at h2
  obtain⟨p,xs,rfl,s1,l1⟩:=h1
  obtain⟨q,ys,e,s2,l2⟩:=h2
  cases e
  obtain⟨_,_,pl,_⟩:=I.list s1
  obtain⟨_,_,pt,_⟩:=I.tuple s2
  obtain⟨o1,g1,c1,_⟩:=pl.isList
  obtain⟨o2,g2,c2,_⟩:=pt
  rw[g1]at g2
  cases g2
  rw[c1]at c2
  exact absurd c2 (by decide)
 | .tup a,.int b,x,h1,h2=>by
  rw[Has]at h1
  rw[Has]at h2
  obtain⟨p,xs,rfl,s1,l1⟩:=h1
  cases h2
 | .tup a,.bl b,x,h1,h2=>by
  rw[Has]at h1
  rw[Has]at h2
  obtain⟨p,xs,rfl,s1,l1⟩:=h1
  cases h2
 | .tup a,.str b,x,h1,h2=>by
  rw[Has]at h1
  rw[Has]at h2
  obtain⟨p,xs,rfl,s1,l1⟩:=h1
  cases h2
 | .tup a,.non,x,h1,h2=>by
  rw[Has]at h1
  rw[Has]at h2
  obtain⟨p,xs,rfl,s1,l1⟩:=h1
  cases h2
 | .tup a,.lst b,x,h1,h2=>by
  rw[Has]at h1
  rw[Has]at h2
  obtain⟨p,xs,rfl,s1,l1⟩:=h1
  obtain⟨q,ys,e,s2,l2⟩:=h2
  cases e
  obtain⟨_,_,pl,_⟩:=I.list s2
  obtain⟨_,_,pt,_⟩:=I.tuple s1
  obtain⟨o1,g1,c1,_⟩:=pl.isList
  obtain⟨o2,g2,c2,_⟩:=pt
  rw[g1]at g2
  cases g2
  rw[c1]at c2
  exact absurd c2 (by decide)
 | .tup a,.tup b,x,h1,h2=>by
  rw[Has]at h1
  rw[Has]at h2
  obtain⟨p,xs,rfl,s1,l1⟩:=h1
  obtain⟨q,ys,e,s2,l2⟩:=h2
  cases e
  have e:=I.iS s1 s2
  subst e
  rw[aO.inj I l1 l2]
theorem aO.inj (I:Inv X pins σ H s):∀ {ds es:List Dt} {xs:List V},aO X.K H ds xs->aO X.K H es xs->ds=es
 | [],[],xs,h1,h2=>rfl
 | [],e::r,xs,h1,h2=>by
  rw[aO]at h1
  rw[aO]at h2
  obtain⟨y,t,e,_,_⟩:=h2
  rw[h1]at e
  cases e
 | d::r,[],xs,h1,h2=>by
  rw[aO]at h1
  rw[aO]at h2
  obtain⟨y,t,e,_,_⟩:=h1
  rw[h2]at e
  cases e
 | d::r,e::q,xs,h1,h2=>by
  rw[aO]at h1
  rw[aO]at h2
  obtain⟨x,t,rfl,g1,g2⟩:=h1
  obtain⟨y,w,z,k1,k2⟩:=h2
  cases z
  rw[Has.inj I g1 k1,aO.inj I g2 k2]
end
theorem nj{A:N_}{a b:NN}{k:Bool}(h:Tr A s (.ref a) (.ref b) k)(hk:a=b->k=true):PX A s (.ref a) (.ref b) k:=by
 by_cases e:a=b
 ·rw[hk e,e]
  exact VG _
 exact Vu e h
noncomputable def Rz(s:NO):Dt->NK->Prop
 | .int a,u=>∃ t,u=.int a t
 | .bl a,u=>u=.bool a
 | .str a,u=>∃ t,u=.str a t
 | .non,u=>u=.none
 | .lst _,u=>∃ p its,u=.ref p/\s.heap.IsList p its
 | .tup _,u=>∃ p its,u=.ref p/\s.heap.IsTuple p its
def knd:Dt->Nat
 | .lst _=>4
 | .tup _=>5
 | _=>0
theorem vB(I:Inv X pins σ H s){d:Dt}{x:V}{u:NK}(h:Has X.K H d x)(r:RelV x u):Rz s d u:=by
  cases d <;> rw[Has]at h <;> first
    | (obtain⟨p,xs,rfl,s1,_⟩:=h
       cases r
       first
         | (obtain⟨_,_,pl,_⟩:=I.list s1;exact⟨_,_,rfl,pl.isList⟩)
         | (obtain⟨_,_,pl,_⟩:=I.tuple s1;exact⟨_,_,rfl,pl⟩))
    | (subst h;exact r)
theorem w6{A:N_}{d e:Dt}{u v:NK}(hu:A.units < cLine)(h1:Rz s d u)(h2:Rz s e v)(n:knd d≠knd e\/knd d=0):Tr A s u v (eqD d e)/\UP A s u v (!eqD d e)/\PX A s u v (eqD d e):=by
 cases d with
 | int a=>
  obtain⟨_,rfl⟩:=h1
  cases e with
  | int b=>obtain⟨_,rfl⟩:=h2;simp only[eqD];exact⟨.int_int _ _ _ _,.int_int _ _ _ _,.int_int _ _ _ _⟩
  | bl b=>cases h2;simp only[eqD];exact⟨.int_bool _ _ _,.int_bool _ _ _,.int_bool _ _ _⟩
  | str b=>obtain⟨_,rfl⟩:=h2;simp only[eqD];exact⟨.int_str _ _ _ _,.int_str _ _ _ _,.int_str _ _ _ _⟩
  | non=>cases h2;simp only[eqD];exact⟨.int_none _ _,.int_none _ _,.int_none _ _⟩
  | lst b=>obtain⟨_,_,rfl,hb⟩:=h2;simp only[eqD];exact⟨.int_list _ _ hb hu,.int_list _ _ hb hu,.int_list _ _ hb hu⟩
  | tup b=>obtain⟨_,_,rfl,hb⟩:=h2;simp only[eqD];exact⟨.int_tuple _ _ hb hu,.int_tuple _ _ hb hu,.int_tuple _ _ hb hu⟩
 | bl a=>
  cases h1
  cases e with
  | int b=>obtain⟨_,rfl⟩:=h2;simp only[eqD];exact⟨.bool_int _ _ _,.bool_int _ _ _,.bool_int _ _ _⟩
  | bl b=>cases h2;simp only[eqD];exact⟨.bool_bool _ _,.bool_bool _ _,.bool_bool _ _⟩
  | str b=>obtain⟨_,rfl⟩:=h2;simp only[eqD];exact⟨.bool_str _ _ _,.bool_str _ _ _,.bool_str _ _ _⟩
  | non=>cases h2;simp only[eqD];exact⟨.bool_none _,.bool_none _,.bool_none _⟩
  | lst b=>obtain⟨_,_,rfl,hb⟩:=h2;simp only[eqD];exact⟨.bool_list _ hb hu,.bool_list _ hb hu,.bool_list _ hb hu⟩
  | tup b=>obtain⟨_,_,rfl,hb⟩:=h2;simp only[eqD];exact⟨.bool_tuple _ hb hu,.bool_tuple _ hb hu,.bool_tuple _ hb hu⟩
 | str a=>
  obtain⟨_,rfl⟩:=h1
  cases e with
  | int b=>obtain⟨_,rfl⟩:=h2;simp only[eqD];exact⟨.str_int _ _ _ _,.str_int _ _ _ _,.str_int _ _ _ _⟩
  | bl b=>cases h2;simp only[eqD];exact⟨.str_bool _ _ _,.str_bool _ _ _,.str_bool _ _ _⟩
  | str b=>obtain⟨_,rfl⟩:=h2;simp only[eqD];exact⟨.str_str _ _ _ _,.str_str _ _ _ _,.str_str _ _ _ _⟩
  | non=>cases h2;simp only[eqD];exact⟨.str_none _ _,.str_none _ _,.str_none _ _⟩
  | lst b=>obtain⟨_,_,rfl,hb⟩:=h2;simp only[eqD];exact⟨.str_list _ _ hb hu,.str_list _ _ hb hu,.str_list _ _ hb hu⟩
  | tup b=>obtain⟨_,_,rfl,hb⟩:=h2;simp only[eqD];exact⟨.str_tuple _ _ hb hu,.str_tuple _ _ hb hu,.str_tuple _ _ hb hu⟩
 | non=>
  cases h1
  cases e with
  | int b=>obtain⟨_,rfl⟩:=h2;simp only[eqD];exact⟨.none_int _ _,.none_int _ _,.none_int _ _⟩
  | bl b=>cases h2;simp only[eqD];exact⟨.none_bool _,.none_bool _,.none_bool _⟩
  | str b=>obtain⟨_,rfl⟩:=h2;simp only[eqD];exact⟨.none_str _ _,.none_str _ _,.none_str _ _⟩
  | non=>cases h2;simp only[eqD];exact⟨.none_none,.none_none,.same _⟩
  | lst b=>obtain⟨_,_,rfl,hb⟩:=h2;simp only[eqD];exact⟨.none_list hb hu,.none_list hb hu,.none_list hb hu⟩
  | tup b=>obtain⟨_,_,rfl,hb⟩:=h2;simp only[eqD];exact⟨.none_tuple hb hu,.none_tuple hb hu,.none_tuple hb hu⟩
 | lst a=>
  obtain⟨_,_,rfl,hl⟩:=h1
  cases e with
  | int b=>obtain⟨_,rfl⟩:=h2;simp only[eqD];exact⟨.list_int _ _ hl hu,.list_int _ _ hl hu,.list_int _ _ hl hu⟩
  | bl b=>cases h2;simp only[eqD];exact⟨.list_bool _ hl hu,.list_bool _ hl hu,.list_bool _ hl hu⟩
  | str b=>obtain⟨_,rfl⟩:=h2;simp only[eqD];exact⟨.list_str _ _ hl hu,.list_str _ _ hl hu,.list_str _ _ hl hu⟩
  | non=>cases h2;simp only[eqD];exact⟨.list_none hl hu,.list_none hl hu,.list_none hl hu⟩
  | lst b=>simp[knd]at n
  | tup b=>obtain⟨_,_,rfl,hb⟩:=h2;simp only[eqD];exact⟨.list_tuple hl hb hu,.list_tuple hl hb hu,.list_tuple hl hb hu⟩
 | tup a=>
  obtain⟨_,_,rfl,hl⟩:=h1
  cases e with
  | int b=>obtain⟨_,rfl⟩:=h2;simp only[eqD];exact⟨.tuple_int _ _ hl hu,.tuple_int _ _ hl hu,.tuple_int _ _ hl hu⟩
  | bl b=>cases h2;simp only[eqD];exact⟨.tuple_bool _ hl hu,.tuple_bool _ hl hu,.tuple_bool _ hl hu⟩
  | str b=>obtain⟨_,rfl⟩:=h2;simp only[eqD];exact⟨.tuple_str _ _ hl hu,.tuple_str _ _ hl hu,.tuple_str _ _ hl hu⟩
  | non=>cases h2;simp only[eqD];exact⟨.tuple_none hl hu,.tuple_none hl hu,.tuple_none hl hu⟩
  | lst b=>obtain⟨_,_,rfl,hb⟩:=h2;simp only[eqD];exact⟨.tuple_list hl hb hu,.tuple_list hl hb hu,.tuple_list hl hb hu⟩
  | tup b=>simp[knd]at n
theorem qj(I:Inv X pins σ H s):∀(n:Nat) (A:N_) (d e:Dt) (x y:V) (u v:NK),dpt d<=n->A.units + n < cLine->Has X.K H d x->Has X.K H e y->RelV x u->RelV y v->
  Tr A s u v (eqD d e)/\UP A s u v (!eqD d e)/\PX A s u v (eqD d e):=by
 intro n
 induction n with
 | zero=>
  intro A d e x y u v hd hA h1 h2 r1 r2
  exact w6 (by lia) (vB I h1 r1) (vB I h2 r2) (.inr (by cases d <;> first | rfl | (rw[dpt]at hd;lia)))
 | succ n ih=>
  intro A d e x y u v hd hA h1 h2 r1 r2
  have hu:A.units < cLine:=by lia
  by_cases k:knd d≠knd e\/knd d=0
  ·exact w6 hu (vB I h1 r1) (vB I h2 r2) k
  cases d <;> cases e <;> try (exfalso;simp[knd]at k;done)
  ·rename_i a b
   have h1k:=h1
   rw[Has]at h1
   obtain⟨p,xs,rfl,s1,l1⟩:=h1
   cases (show u=Oa p from r1)
   obtain⟨its,rv1,pl1,z1⟩:=I.list s1
   have hl:=pl1.isList
   have hd':cN a<=n:=by rw[dpt]at hd;lia
   have h2k:=h2
   rw[Has]at h2
   obtain⟨q,ys,rfl,s2,l2⟩:=h2
   cases (show v=Oa q from r2)
   obtain⟨jts,rv2,pl2,z2⟩:=I.list s2
   have hb:=pl2.isList
   have recc:=tO n (A:=A) (by lia) I l1 l2 rv1 rv2 fun d e x y u v hm hm' g1 g2 k1 k2=>(ih A.in1 d e x y u v (n_ (x4 hm) hd') (by show A.units + 1 + n < cLine;lia) g1 g2 k1 k2).2.2
   have m1:=l1.len
   have m2:=l2.len
   have v1:=rv1.length
   have v2:=rv2.length
   have self:p=q->eqD (.lst a) (.lst b)=true:=fun z=>by subst z;rw[Has.inj I h1k h2k];exact iH _
   have ee:eqD (.lst a) (.lst b)=eqL a b:=by rw[eqD]
   by_cases hs:its.toArray.size=jts.toArray.size
   ·have hs':a.length=b.length:=by simp at hs;lia
    have hn:its.toArray.size=a.length:=by simp;lia
    have k1:=VB hl hb hs hu recc
    have k2:=Vv hl hb hs hu recc
    rw[hn,lD a b hs',<-ee]at k1 k2
    exact⟨k1,k2,nj k1 self⟩
   have hs':¬ a.length=b.length:=by simp at hs;lia
   have hz:(its.toArray.size != jts.toArray.size)=true:=by simpa using hs
   have ef:eqD (.lst a) (.lst b)=false:=by rw[ee];exact K9.mpr fun z=>hs' (qw z)
   have k1:=UQ hl hb hz hu
   have k2:=Uc hl hb hz hu
   rw[<-ef]at k1
   refine⟨k1,?_,nj k1 self⟩
   rw[ef]
   exact k2
  rename_i a b
  have h1k:=h1
  rw[Has]at h1
  obtain⟨p,xs,rfl,s1,l1⟩:=h1
  cases (show u=Oa p from r1)
  obtain⟨its,rv1,pl1,z1⟩:=I.tuple s1
  have hl:s.heap.IsTuple p its.toArray:=pl1
  have hd':cN a<=n:=by rw[dpt]at hd;lia
  have h2k:=h2
  rw[Has]at h2
  obtain⟨q,ys,rfl,s2,l2⟩:=h2
  cases (show v=Oa q from r2)
  obtain⟨jts,rv2,pl2,z2⟩:=I.tuple s2
  have hb:s.heap.IsTuple q jts.toArray:=pl2
  have recc:=tO n (A:=A) (by lia) I l1 l2 rv1 rv2 fun d e x y u v hm hm' g1 g2 k1 k2=>(ih A.in1 d e x y u v (n_ (x4 hm) hd') (by show A.units + 1 + n < cLine;lia) g1 g2 k1 k2).2.2
  have m1:=l1.len
  have m2:=l2.len
  have v1:=rv1.length
  have v2:=rv2.length
  have self:p=q->eqD (.tup a) (.tup b)=true:=fun z=>by subst z;rw[Has.inj I h1k h2k];exact iH _
  have ee:eqD (.tup a) (.tup b)=eqL a b:=by rw[eqD]
  have hn:its.toArray.size=a.length:=by simp;lia
  have hn':jts.toArray.size=b.length:=by simp;lia
  have k1:=Vx hl hb hu recc
  have k2:=Vo hl hb hu recc
  rw[hn,hn',sk a b,<-ee]at k1 k2
  exact⟨k1,k2,nj k1 self⟩
end
section
variable{X:Cx}
def IY(K:NM)(A:N_)(neg:Bool):R2:=fun x y H Q=>∃ d e,Has K H d x/\Has K H e y/\A.units + dpt d < cLine/\Q (.bl (if neg then !eqD d e else eqD d e)) H
theorem AS:OpR X (Ob .Eq) (IY X.K X.A false):=by
 intro pins s σ H x y v u Q I rx ry h
 obtain⟨d,e,h1,h2,hA,q⟩:=h
 exact(qj I (dpt d) X.A d e x y v u (c_ _) hA h1 h2 rx ry).1 _ _ _ _ ⟨.bl (eqD d e),H,I,rfl,q⟩
theorem EN:OpR X (Ob .NotEq) (IY X.K X.A true):=by
 intro pins s σ H x y v u Q I rx ry h
 obtain⟨d,e,h1,h2,hA,q⟩:=h
 exact(qj I (dpt d) X.A d e x y v u (c_ _) hA h1 h2 rx ry).2.1 _ _ _ _ ⟨.bl (!eqD d e),H,I,rfl,q⟩
end
structure Cal (P:NW) (w:N3) (K:NM) (mg:Str->Option NK) (base:N5) (k:Nat) (x:Str) (ps:List Str) (sp:Sp):Prop where
 ex:∃(f:NN) (fd:N9),FnOk P w K mg base CX0 k f fd ps sp/\mg x=some (.ref f)/\Qk K (.ref f)=true/\Binds K fd ps []
theorem zi{X:Cx}{j k:Nat}{x:Str}{ps:List Str}{sp:Sp}{e:N2}{es:List N2}{t:TA}{p pos:Pos}(D:Cal X.prog X.w X.K X.mg X.base j x ps sp)(hr:Room k X.A)(hg:Gl X x)(ha:PA X (e::es) t)(hjk:j<=k:=by omega)(hdb:(x ==("__debug__":Str))=false:=by decide)
  (he:N7 (e::es) X.env=(false,Og e X.env)::N7 es X.env:=by rfl) (hpl:(O_ pos (N7 es X.env)).any (·.1)=false:=by rfl):PE X (.Call (.Name x p) (e::es) [] pos) (B2 sp [] E0 t):=by
 obtain⟨f,fd,F,hm,hk,hb⟩:=D.ex
 exact BS F (hr.mono hjk) hg hm hk hb .nil Hh ha hdb he hpl
theorem Cal.imp {P:NW}{w:N3}{K:NM}{mg:Str->Option NK}{base:N5}{k:Nat}{x:Str}{ps:List Str}{sp sp':Sp}(D:Cal P w K mg base k x ps sp)(h:∀ vs H Q E,sp' vs H Q E->sp vs H Q E):Cal P w K mg base k x ps sp':=by
 obtain⟨f,fd,F,r⟩:=D.ex
 exact⟨f,fd,F.imp h,r⟩
structure Dfn (K:NM) (mg:Str->Option NK) (x:Str) (st:Of) (ps:List Str):Prop where
 ex:∃(f:NN) (fd:N9),Fun K x x st f fd/\mg x=some (.ref f)/\Binds K fd ps []
theorem Dfn.cal {P:NW}{w:N3}{K:NM}{mg:Str->Option NK}{base:N5}{k:Nat}{x:Str}{st:Of}{ps:List Str}{sp:Sp}(D:Dfn K mg x st ps)(h:∀ f fd,Fun K x x st f fd->FnOk P w K mg base CX0 k f fd ps sp):Cal P w K mg base k x ps sp:=by
 obtain⟨f,fd,F,hm,hb⟩:=D.ex
 exact⟨f,fd,h f fd F,hm,F.kp,hb⟩
theorem bo.d6 {H:Hp}:bo H H:=fun _ _ e=>e
theorem bo.trans' {H H1 H2:Hp}(a:bo H H1)(b:bo H1 H2):bo H H2:=fun c o e=>b c o (a c o e)
theorem cw{H:Hp}{p:NN}(h:H p=none)(o:HO):bo H (upd H p o):=fun b u q=>by rw[aH (cy q h)];exact q
theorem bo.none {H H':Hp}(a:bo H H'){p:NN}(h:H' p=none):H p=none:=by
 cases e:H p with
 | none=>rfl
 | some o=>rw[a p o e]at h;cases h
def Kp(a c:NN)(H H':Hp):Prop:=∀ b o,H b=some o->b≠a->b≠c->H' b=some o
theorem wL{n:Nat}{i:Int}(h0:0<=i)(h1:i < (n:Int)):ixN n i=some i.toNat:=by
 unfold ixN
 rw[if_pos h0,if_pos h1]
theorem BF{α:Type}{xs:List α}{i:Int}{v:α}(h0:0<=i)(hv:xs[i.toNat]?=some v):atI xs i=some v:=by
 have h1:i.toNat < xs.length:=(f_.mp hv).1
 unfold atI
 rw[wL h0 (by omega)]
 exact hv
theorem AN{ns:List Int}{i:Int}(h0:0<=i)(h1:i < (ns.length:Int)):atI (ns.map V.int) i=some (.int (ns.getD i.toNat 0)):=by
 have h2:i.toNat < ns.length:=by omega
 refine BF h0 ?_
 rw[s_,b_ h2,JU,b_ h2]
 rfl
theorem Eu{K:NM}{b:Bool}{H:Hp}{p:NN}{xs:List V}{i:Int}{v:V}{Q:VK}(h:SqG b K H p xs)(hv:atI xs i=some v)(q:Q v H):rIx K (.ref p) (.int i) H Q:=by
 cases b with
 | true=>exact .inr (.inl ⟨p,xs,i,v,rfl,rfl,h,hv,q⟩)
 | false=>exact .inl ⟨p,xs,i,v,rfl,rfl,h,hv,q⟩
theorem eO{A B:Prop}{b:Bool}(hb:b=false)(h:B):if b=true then A else B:=by rw[hb];exact J6 h
theorem nh{A B:Prop}{b:Bool}(hb:b=true)(h:A):if b=true then A else B:=by rw[hb];exact GF h
theorem sA{Q:VK}{b:Bool}{H:Hp}(hb:b=true)(q:Q (.bl true) H):Q (.bl b) H:=by rw[hb];exact q
theorem IH{A B:Prop}{b:Bool}(h1:b=true->A)(h2:b=false->B):if b=true then A else B:=by
 cases b with
 | true=>exact GF (h1 rfl)
 | false=>exact J6 (h2 rfl)
def isT:HO->Bool
 | .tup _=>true
 | .frz _ (.tup _)=>true
 | _=>false
def sR(H H':Hp):Prop:=∀ b o,H b=some o->isT o=true->H' b=some o
theorem xY{H:Hp}{p:NN}{o o':HO}(h:H p=some o)(ht:isT o=false):sR H (upd H p o'):=fun b u e t=>by
 have n:b≠p:=fun z=>by
  subst z
  rw[h]at e
  cases e
  rw[ht]at t
  cases t
 rw[aH n]
 exact e
mutual
def sj:Dt->Bool
 | .lst _=>false
 | .tup ds=>lT ds
 | _=>true
def lT:List Dt->Bool
 | []=>true
 | d::r=>sj d && lT r
end
theorem SqT.lL {K:NM}{H H':Hp}{a:NN}{xs:List V}(e:sR H H')(h:SqT K H a xs):SqT K H' a xs:=by
 rcases h with (h | ⟨o,h⟩) | h
 ·exact .inl (.inl (e _ _ h rfl))
 ·exact .inl (.inr ⟨o,e _ _ h rfl⟩)
 exact .inr h
mutual
theorem Has.lL {K:NM}{H H':Hp}(e:sR H H'):∀ {d:Dt} {v:V},sj d=true->Has K H d v->Has K H' d v
 | .int i,v,_,h=>by rw[Has]at h ⊢;exact h
 | .bl i,v,_,h=>by rw[Has]at h ⊢;exact h
 | .str i,v,_,h=>by rw[Has]at h ⊢;exact h
 | .non,v,_,h=>by rw[Has]at h ⊢;exact h
 | .lst ds,v,t,h=>by simp[sj]at t
 | .tup ds,v,t,h=>by
  rw[sj]at t
  rw[Has]at h ⊢
  obtain⟨a,xs,hv,hs,hl⟩:=h
  exact⟨a,xs,hv,SqT.lL e hs,aO.lL e t hl⟩
theorem aO.lL {K:NM}{H H':Hp}(e:sR H H'):∀ {ds:List Dt} {xs:List V},lT ds=true->aO K H ds xs->aO K H' ds xs
 | [],xs,_,h=>by rw[aO]at h ⊢;exact h
 | d::r,xs,t,h=>by
  rw[lT,F_]at t
  rw[aO]at h ⊢
  obtain⟨x,t',hx,h1,h2⟩:=h
  exact⟨x,t',hx,Has.lL e t.1 h1,aO.lL e t.2 h2⟩
end
theorem Bl{ds:List Dt}(h:∀ d∈ds,sj d=true):lT ds=true:=by
 induction ds with
 | nil=>rw[lT]
 | cons d r ih=>rw[lT,h d v_,ih fun x hx=>h x (l_ _ hx)];rfl
theorem lV{d:Nat->Dt}(keep:Nat->Bool)(i:Nat):((p_ (i + 1)).filter keep).map d=((p_ i).filter keep).map d++(if keep i=true then [d i]else []):=by
 rw[Ka,Lw,r_]
 cases h:keep i <;> simp[h]
theorem rP{K:NM}{J:It}{fr:List (Option Nat)}{g:NO->Hp->List NN->TG}{tt:NO->Hp->List NN->TT}{te:NO->Hp->List NN->TE}{σ:St}{H1:Hp}{Q:VK}(Ok:St->Prop)(n:Nat)(hn:n < sizeLine)(d:Nat->Dt)(keep:Nat->Bool)(hd:∀ i,sj (d i)=true)(h0:Ok (eG fr σ))
  (hgo:∀ i H',bo H1 H'->i < n->J.go i H') (hst:∀ H',bo H1 H'->J.stop n H')
  (turn:∀ s3 H3' fp i σ' H',i < n->Ok σ'->bo H1 H'->∀ x H2,J.yld i H' x H2->∀(Nx:St->Hp->Prop) (Ap:St->V->Hp->Prop),(keep i=false->∀ σ2 H4,Ok σ2->bo H' H4->Nx σ2 H4)->(keep i=true->∀ σ2 v H5,Ok σ2->bo H' H5->Has K H5 (d i) v->Ap σ2 v H5)->
   g s3 H3' fp x σ' H2 fun σ2 H3=>tt s3 H3' fp σ2 H3 fun b H4=>if b=true then te s3 H3' fp σ2 H4 (fun v H5=>Ap σ2 v H5)else Nx σ2 H4)
  (fin:∀ p acc H',H1 p=none->bo H1 H'->H' p=some (.lst acc)->aO K H' (((p_ n).filter keep).map d) acc->Q (.ref p) H') :
  E1 J fr g tt te σ H1 Q:=by
 intro p hp s3 H3' fp
 have tall:∀ i,lT (((p_ i).filter keep).map d)=true:=fun i=>Bl fun x hx=>by
  obtain⟨j,_,rfl⟩:=y_.mp hx
  exact hd j
 refine⟨fun i m σ' H'=>m=n - i/\i<=n/\Ok σ'/\bo H1 H'/\∃ acc,H' p=some (.lst acc)/\aO K H' (((p_ i).filter keep).map d) acc,⟨n,by simp,z_ _,h0,cw hp _,[],aR,kc⟩,?_⟩
 rintro i m σ' H' ⟨rfl,hi,ok,sm,acc,hacc,hl⟩
 by_cases hlt:i < n
 ·refine .inr ⟨hgo i H' sm hlt,fun x H2 hy=>?_⟩
  refine turn s3 H3' fp i σ' H' hlt ok sm x H2 hy (fun σ2 H4=>∃ m',m' < n - i/\m'=n - (i + 1)/\i + 1<=n/\Ok σ2/\bo H1 H4/\∃ acc,H4 p=some (.lst acc)/\aO K H4 (((p_ (i + 1)).filter keep).map d) acc) (fun σ2 v H5=>_) (fun hk σ2 H4 ok2 s4=>?_) (fun hk σ2 v H5 ok2 s5 hv=>?_)
  ·refine⟨n - (i + 1),by lia,rfl,hlt,ok2,sm.trans' s4,acc,s4 _ _ hacc,?_⟩
   rw[lV,hk]
   simpa using aO.same s4 hl
  have h5:H5 p=some (.lst acc):=s5 _ _ hacc
  have len:acc.length<=i:=by
   have e:=hl.len
   have e2:(((p_ i).filter keep).map d).length<=i:=by
    rw[a_]
    exact n_ (Ld _ _) (by rw[Kf];exact c_ _)
   lia
  have ts:sR H5 (upd H5 p (.lst (acc++[v]))):=xY h5 rfl
  refine⟨acc,h5,by lia,n - (i + 1),by lia,rfl,hlt,ok2,fun b o e=>?_,acc++[v],aR,?_⟩
  ·rw[aH (cy e hp)]
   exact s5 b o (sm b o e)
  rw[lV,hk]
  exact aO.append (aO.lL ts (tall i) (aO.same s5 hl)) (lq (Has.lL ts (hd i) hv) kc)
 have e:i=n:=by lia
 subst e
 exact .inl ⟨hst H' sm,fin p acc H' hp sm hacc hl⟩
theorem rM{X:Cx}{N ps:List Str}{esc:OH}(S:FnScope N ps esc)(N':List Str)(fr:List (Option Nat))(nd:N'.Nodup){elt target iter:N2}{ifs:List N2}{sc:OH}{pos:Pos}{wi:TI}{g:NO->Hp->List NN->TG}{tt:NO->Hp->List NN->TT}{te:NO->Hp->List NN->TE}(C:iD N esc sc N' fr=true)
  (hi:PI X target iter wi) (hg:∀ s3 H3 fp,PG (aY X N' sc s3 H3 fp) target (g s3 H3 fp)) (ht:∀ s3 H3 fp,PTs (aY X N' sc s3 H3 fp) ifs (tt s3 H3 fp)) (he:∀ s3 H3 fp,PE (aY X N' sc s3 H3 fp) elt (te s3 H3 fp))
  (hc:X.calm=true:=by rfl) (hN:X.N=N:=by rfl) (hS:X.env.scope=esc:=by rfl) (hs:∀ x,OC iter X.env x=pure x:=by intro _;rfl):PE X (.ListComp elt [⟨target,iter,ifs,0⟩] sc pos) (wH wi fr g tt te):=
 DB N' fr hc (by rw[hN,hS];exact C) hi hg ht he hs
theorem sr{σ:St}{H:Hp}{A B:Hp->Prop}(h:A H):Gb σ H (fun b H4=>if b=true then A H4 else B H4):=by
 unfold Gb
 exact GF h
theorem jk{K:NM}{H:Hp}:∀ {bs:List Bool} {xs:List V},aO K H (bs.map Dt.bl) xs->xs=bools bs
 | [],xs,h=>by
  have h:aO K H [] xs:=h
  rw[aO]at h;exact h
 | n::r,xs,h=>by
  have h:aO K H (Dt.bl n::r.map Dt.bl) xs:=h
  rw[aO]at h
  obtain⟨x,t,rfl,h1,h2⟩:=h
  rw[Has]at h1
  rw[h1,jk h2]
  rfl
def Its(K:NM)(b:Bool)(a:NN):It:=match b with
 | true=>Itt K a
 | false=>Itl K a
def iSq(K:NM)(tl:TE):TI:=fun σ H R=>tl σ H fun x H1=>∃ b a xs,x=.ref a/\SqG b K H1 a xs/\R (Its K b a) H1
theorem FK{X:Cx}{tg l:N2}{tl:TE}(hl:PE X l tl):PI X tg l (iSq X.K tl):=by
 intro pins s σ H R I h
 refine thn (hl pins s σ H _ I h) ?_
 rintro v s1 ⟨x,H1,I1,r1,q1⟩
 obtain⟨b,a,xs,rfl,hq,q⟩:=q1
 cases r1
 cases b with
 | true=>
  obtain⟨its,rv,p,hz⟩:=I1.tuple hq
  refine Oz (show s1.heap.IsTuple a its.toArray from p) ⟨s1.heap.objs.size,[s1.heap.objs.size],_,_,H1,rfl,I1.kept (t':=s1.toks) fun b o e=>NR _ e,uz a _,⟨_,N0 _ rfl,rfl,rfl⟩,fun b hb=>?_,q⟩
  have e:b=s1.heap.objs.size:=by simpa using hb
  subst e
  exact I1.rO (c_ _) (I1.hok.fresh (c_ _))
 | false=>
  obtain⟨its,rv,p,hz⟩:=I1.list hq
  refine Pg p.isList ⟨s1.heap.objs.size,[s1.heap.objs.size],_,_,H1,rfl,I1.kept (t':=s1.toks) fun b o e=>NR _ e,yK a _,⟨_,N0 _ rfl,rfl,rfl⟩,fun b hb=>?_,q⟩
  have e:b=s1.heap.objs.size:=by simpa using hb
  subst e
  exact I1.rO (c_ _) (I1.hok.fresh (c_ _))
theorem Cb{K:NM}{b:Bool}{a:NN}{xs:List V}{H1 H' H2:Hp}{i:Nat}{v:V}(h1:SqG b K H1 a xs)(s:bo H1 H')(h:(Its K b a).yld i H' v H2):H2=H'/\xs[i]?=some v:=by
 cases b with
 | true=>exact⟨h.1,h.2 xs (SqG.same s h1)⟩
 | false=>exact⟨h.1,h.2 xs (SqG.same s h1)⟩
theorem FL{K:NM}{b:Bool}{a:NN}{xs:List V}{H1:Hp}(h1:SqG b K H1 a xs){n:Nat}(hx:xs.length=n):∀ i H',bo H1 H'->i < n->(Its K b a).go i H':=fun i H' s hi=>by
 cases b with
 | true=>exact⟨xs,xs[i]'(by lia),SqT.same s h1,b_ _⟩
 | false=>exact⟨xs,xs[i]'(by lia),SqL.same s h1,b_ _⟩
theorem AU{K:NM}{b:Bool}{a:NN}{xs:List V}{H1:Hp}(h1:SqG b K H1 a xs){n:Nat}(hx:xs.length=n):∀ H',bo H1 H'->(Its K b a).stop n H':=fun H' s=>by
 cases b with
 | true=>exact⟨xs,SqT.same s h1,by lia⟩
 | false=>exact⟨xs,SqL.same s h1,by lia⟩
theorem zP{K:NM}{b1 b2:Bool}{a1 a2:NN}{xs ys:List V}{H1:Hp}(h1:SqG b1 K H1 a1 xs)(h2:SqG b2 K H1 a2 ys){n:Nat}(hx:xs.length=n)(hy:ys.length=n):∀ i H',bo H1 H'->i < n->(Itz K b1 a1 b2 a2).go i H':=fun i H' s hi=>
 ⟨xs,ys,xs[i]'(by lia),ys[i]'(by lia),SqG.same s h1,SqG.same s h2,b_ _,b_ _⟩
theorem rg{K:NM}{b1 b2:Bool}{a1 a2:NN}{xs ys:List V}{H1:Hp}(h1:SqG b1 K H1 a1 xs)(h2:SqG b2 K H1 a2 ys){n:Nat}(hx:xs.length=n)(hy:ys.length=n):∀ H',bo H1 H'->(Itz K b1 a1 b2 a2).stop n H':=fun H' s=>
 ⟨xs,ys,SqG.same s h1,SqG.same s h2,.inl (by lia)⟩
theorem vX{K:NM}{b1 b2:Bool}{a1 a2:NN}{xs ys:List V}{H1 H' H2:Hp}{i:Nat}{v:V}(h1:SqG b1 K H1 a1 xs)(h2:SqG b2 K H1 a2 ys)(s:bo H1 H')(h:(Itz K b1 a1 b2 a2).yld i H' v H2) :
  ∃ p x y,v=.ref p/\bo H' H2/\H2 p=some (.tup [x,y])/\xs[i]?=some x/\ys[i]?=some y:=by
 obtain⟨p,x,y,hp,rfl,rfl,g1,g2⟩:=h
 exact⟨p,x,y,rfl,cw hp _,aR,g1 xs (SqG.same s h1),g2 ys (SqG.same s h2)⟩
def New(o:HO)(H:Hp)(Q:VK):Prop:=∀ p H',H p=none->bo H H'->H' p=some o->Q (.ref p) H'
theorem New.at {o:HO}{H:Hp}{Q:VK}(h:New o H Q){p:NN}(hp:H p=none):Q (.ref p) (upd H p o):=h p _ hp (cw hp o) aR
section
variable{X:Cx}{es:List N2}{t:TA}{pos:Pos}
def J7(t:TA):TE:=fun σ H Q=>t σ H fun xs H1=>xs.length<=sizeLine/\New (.tup xs) H1 Q
def Hn(t:TA):TE:=fun σ H Q=>t σ H fun xs H1=>xs.length<=sizeLine/\New (.lst xs) H1 Q
theorem Ds{x1}(h:PA X es t):PE X (.Tuple es x1 pos) (J7 t):=by
 intro pins s σ H Q I hq
 refine wpAny_Tuple_spliced (thn (h pos pins s σ H _ I hq) fun us s1 ⟨xs,H1,I1,r,z,q⟩=>⟨by rw[<-r.length];exact z,?_⟩)
 refine⟨.ref s1.heap.objs.size,upd H1 s1.heap.objs.size (.tup xs),I1.laid (t':=s1.toks) (fun b u e=>NR _ e) (c_ _) ⟨z,us,r,⟨_,N0 _ rfl,rfl,_,rfl⟩⟩,rfl,q.at (I1.hok.fresh (c_ _))⟩
theorem BD(h:PA X es t):PE X (.List es pos) (Hn t):=by
 intro pins s σ H Q I hq
 refine Sz (thn (h pos pins s σ H _ I hq) fun us s1 ⟨xs,H1,I1,r,z,q⟩=>⟨by rw[<-r.length];exact z,?_⟩)
 refine⟨.ref s1.heap.objs.size,upd H1 s1.heap.objs.size (.lst xs),I1.laid (t':=s1.toks) (fun b u e=>NR _ e) (c_ _) ⟨z,us,0,r,N0 _ rfl⟩,rfl,q.at (I1.hok.fresh (c_ _))⟩
theorem bG.imp {f:NK}{r r':List V->Hp->VK->Prop}(h:bG X f r)(k:∀ vs H Q,r' vs H Q->r vs H Q):bG X f r':=fun pins s σ H xs us Q I rv q=>h pins s σ H xs us Q I rv (k _ _ _ q)
theorem OpR.imp {f:NK->NK->Sem NK}{r r':R2}(h:OpR X f r)(k:∀ x y H Q,r' x y H Q->r x y H Q):OpR X f r':=fun pins s σ H x y v u Q I rx ry q=>h pins s σ H x y v u Q I rx ry (k _ _ _ _ q)
theorem ug:bG X (.type "list") (fun xs H Q=>∃ b p ys,xs=[.ref p]/\SqG b X.K H p ys/\New (.lst ys) H Q):=kx.imp fun vs H Q ⟨b,p,ys,e,h,q⟩=>by
 refine⟨p,ys,e,?_,fun l hl=>q.at hl⟩
 cases b with
 | true=>exact .inr h
 | false=>exact .inl h
theorem tF:bG X (.type "tuple") (fun xs H Q=>∃ p ys,xs=[.ref p]/\SqL X.K H p ys/\New (.tup ys) H Q):=o8.imp fun vs H Q ⟨p,ys,e,h,q⟩=>⟨p,ys,e,.inl ⟨h,fun l hl=>q.at hl⟩⟩
theorem yo:bG X (.builtin "len") (fun xs H Q=>∃ b p ys,xs=[.ref p]/\SqG b X.K H p ys/\Q (.int ys.length) H):=fV.imp fun vs H Q ⟨b,p,ys,e,h,q⟩=>by
 refine⟨p,ys,e,?_,q⟩
 cases b with
 | true=>exact .inr h
 | false=>exact .inl h
def Jq(K:NM):R2:=fun x y H Q=>∃ b p xs i v,x=.ref p/\y=.int i/\SqG b K H p xs/\atI xs i=some v/\Q v H
theorem Jr:IxR X (Jq X.K):=fun value slice pins s σ H x y v u Q I rx ry ⟨b,p,xs,i,z,e1,e2,hq,ha,q⟩ hs=>by
 subst e1 e2
 exact G5 value slice pins s σ H (.ref p) (.int i) v u Q I rx ry (Eu hq ha q) hs
end
def fU(ns:List Int)(r:Int):Prop:=r∈ns/\∀ x∈ns,r<=x
def fT(ns:List Int)(r:Int):Prop:=r∈ns/\∀ x∈ns,x<=r
theorem eN:∀ {ns:List Int} {us:List NK},Vals (ns.map V.int) us->∃ ps:List (Int × Tok),us=ps.map (fun p=>Qw p.1 p.2)/\ps.map (·.1)=ns
 | [],_,.nil=>⟨[],rfl,rfl⟩
 | n::r,_,.cons h t=>by
  obtain⟨ps,e1,e2⟩:=eN t
  obtain⟨tk,e⟩:=h
  exact⟨(n,tk)::ps,by rw[e,e1];rfl,by rw[<-e2];rfl⟩
theorem fH{ps:List (Int × Tok)}{ns:List Int}(e:ps.map (·.1)=ns){i:Nat}(hi:i < ns.length):PY ps.toArray i=ns[i]:=by
 subst e
 have h2:i < ps.length:=by simpa using hi
 simp[PY,h2]
section
variable{X:Cx}
theorem yu(hc:X.calm=true):bG X (.builtin "min") (fun xs H Q=>∃ a ns,xs=[.ref a]/\SqL X.K H a (ns.map V.int)/\ns≠[]/\∀ r,fU ns r->Q (.int r) H):=by
 intro pins s σ H xs us Q I r h
 obtain⟨a,ns,rfl,hq,hne,q⟩:=h
 obtain⟨u,rfl,ru⟩:=vals1 r
 cases ru
 obtain⟨its,rv,p,z⟩:=I.list hq
 obtain⟨ps,e1,e2⟩:=eN rv
 subst e1
 have hl:s.heap.IsList a (Ov ps.toArray):=by
  have e:Ov ps.toArray=(ps.map fun p=>Qw p.1 p.2).toArray:=by simp[Ov]
  rw[e];exact p.isList
 have hlen:ps.length=ns.length:=by rw[<-e2];simp
 have hpos:0 < ns.length:=Kd fun z=>hne (Kb z)
 refine min_intList (I.ok.hd hc) hl (by simp;lia) fun v h' tk hv hk=>?_
 obtain⟨tv,rfl⟩:=Qr hv
 obtain⟨b1,b2⟩:=argBest_lt (PY ps.toArray) (ps.toArray.size - 1)
 have hi:TR (fun i j=>decide (PY ps.toArray i < PY ps.toArray j)) (ps.toArray.size - 1) < ns.length:=by simp at b1 ⊢;lia
 refine⟨.int _,H,I.kept (t':=tk) hk,⟨tv,rfl⟩,q _ ⟨?_,fun x hx=>?_⟩⟩
 ·rw[fH e2 hi];exact Kc hi
 obtain⟨j,hj,rfl⟩:=KD.mp hx
 have:=b2 j (by simp;lia)
 rw[fH e2 hj]at this
 exact this
theorem xZ(hc:X.calm=true):bG X (.builtin "max") (fun xs H Q=>∃ a ns,xs=[.ref a]/\SqL X.K H a (ns.map V.int)/\ns≠[]/\∀ r,fT ns r->Q (.int r) H):=by
 intro pins s σ H xs us Q I r h
 obtain⟨a,ns,rfl,hq,hne,q⟩:=h
 obtain⟨u,rfl,ru⟩:=vals1 r
 cases ru
 obtain⟨its,rv,p,z⟩:=I.list hq
 obtain⟨ps,e1,e2⟩:=eN rv
 subst e1
 have hl:s.heap.IsList a (Ov ps.toArray):=by
  have e:Ov ps.toArray=(ps.map fun p=>Qw p.1 p.2).toArray:=by simp[Ov]
  rw[e];exact p.isList
 have hlen:ps.length=ns.length:=by rw[<-e2];simp
 have hpos:0 < ns.length:=Kd fun z=>hne (Kb z)
 refine max_intList (I.ok.hd hc) hl (by simp;lia) fun v h' tk hv hk=>?_
 obtain⟨tv,rfl⟩:=Qr hv
 obtain⟨b1,b2⟩:=argBest_gt (PY ps.toArray) (ps.toArray.size - 1)
 have hi:TR (fun i j=>decide (PY ps.toArray i > PY ps.toArray j)) (ps.toArray.size - 1) < ns.length:=by simp at b1 ⊢;lia
 refine⟨.int _,H,I.kept (t':=tk) hk,⟨tv,rfl⟩,q _ ⟨?_,fun x hx=>?_⟩⟩
 ·rw[fH e2 hi];exact Kc hi
 obtain⟨j,hj,rfl⟩:=KD.mp hx
 have:=b2 j (by simp;lia)
 rw[fH e2 hj]at this
 exact this
theorem y3(hc:X.calm=true):bG X (.builtin "max") (fun xs H Q=>∃ i j k,xs=[.int i,.int j,.int k]/\∀ r,i<=r->j<=r->k<=r->(r=i\/r=j\/r=k)->Q (.int r) H):=by
 intro pins s σ H xs us Q I r h
 obtain⟨i,j,k,rfl,q⟩:=h
 cases r with
 | cons r1 rr=>
  cases rr with
  | cons r2 rr=>
   cases rr with
   | cons r3 rr=>
    cases rr
    obtain⟨t1,rfl⟩:=r1
    obtain⟨t2,rfl⟩:=r2
    obtain⟨t3,rfl⟩:=r3
    refine max_three_ints (I.ok.hd hc) fun h' tk hk=>?_
    have fin:∀(r:Int) (t:Tok),i<=r->j<=r->k<=r->(r=i\/r=j\/r=k)->EP X pins σ Q (.int r t) { s with heap:=h',toks:=tk }:=fun r t a b c d=>⟨.int r,H,I.kept (t':=tk) hk,⟨t,rfl⟩,q r a b c d⟩
    split
    ·split
     ·exact fin _ _ (by lia) (by lia) (by lia) (by lia)
     exact fin _ _ (by lia) (by lia) (by lia) (by lia)
    split
    ·exact fin _ _ (by lia) (by lia) (by lia) (by lia)
    exact fin _ _ (by lia) (by lia) (by lia) (by lia)
theorem y9(hc:X.calm=true):bG X (.builtin "min") (fun xs H Q=>∃ i j k,xs=[.int i,.int j,.int k]/\∀ r,r<=i->r<=j->r<=k->(r=i\/r=j\/r=k)->Q (.int r) H):=by
 intro pins s σ H xs us Q I r h
 obtain⟨i,j,k,rfl,q⟩:=h
 cases r with
 | cons r1 rr=>
  cases rr with
  | cons r2 rr=>
   cases rr with
   | cons r3 rr=>
    cases rr
    obtain⟨t1,rfl⟩:=r1
    obtain⟨t2,rfl⟩:=r2
    obtain⟨t3,rfl⟩:=r3
    refine min_three_ints (I.ok.hd hc) fun h' tk hk=>?_
    have fin:∀(r:Int) (t:Tok),r<=i->r<=j->r<=k->(r=i\/r=j\/r=k)->EP X pins σ Q (.int r t) { s with heap:=h',toks:=tk }:=fun r t a b c d=>⟨.int r,H,I.kept (t':=tk) hk,⟨t,rfl⟩,q r a b c d⟩
    split
    ·split
     ·exact fin _ _ (by lia) (by lia) (by lia) (by lia)
     exact fin _ _ (by lia) (by lia) (by lia) (by lia)
    split
    ·exact fin _ _ (by lia) (by lia) (by lia) (by lia)
    exact fin _ _ (by lia) (by lia) (by lia) (by lia)
end
section
variable{X:Cx}{a b c d:N2}{ta tb tc td:TE}{pos:Pos}
theorem Be:SlR X (fun x lo hi H Q=>∃ a xs,x=.ref a/\SqL X.K H a xs/\New (.lst (iw xs lo hi)) H Q):=fun pins s σ H x v vl vu lo hi sl Q I rx hs pl pu ⟨a,xs,e,h,q⟩=>vV pins s σ H x v vl vu lo hi sl Q I rx hs pl pu ⟨a,xs,e,h,fun p hp=>q.at hp⟩
theorem vA:SlR X (fun x lo hi H Q=>∃ a xs,x=.ref a/\SqT X.K H a xs/\¬(HT.sIx xs.length 0 lo=0/\HT.sIx xs.length xs.length hi=xs.length)/\New (.tup (iw xs lo hi)) H Q):=fun pins s σ H x v vl vu lo hi sl Q I rx hs pl pu ⟨a,xs,e,h,hw,q⟩=>EM pins s σ H x v vl vu lo hi sl Q I rx hs pl pu ⟨a,xs,e,h,hw,fun p hp=>q.at hp⟩
end
structure Put (H:Hp) (p:NN) (o:HO) (H':Hp):Prop where
 at_:H' p=some o
 else_:∀ b,b≠p->H' b=H b
theorem Put.up {H:Hp}{p:NN}{o:HO}:Put H p o (upd H p o):=⟨aR,fun b h=>aH h⟩
section
variable{X:Cx}
theorem uN.imp {t t':CA}(h:uN X t)(k:∀ o i v H Q,t' o i v H Q->t o i v H Q):uN X t':=fun pins s σ H o i v ov iv u Q I r1 r2 r3 q=>h pins s σ H o i v ov iv u Q I r1 r2 r3 (k _ _ _ _ _ q)
theorem yc:uN X (fun o i v H Q=>∃ p xs k j,o=.ref p/\i=.int k/\H p=some (.lst xs)/\ixN xs.length k=some j/\∀ H',Put H p (.lst (xs.set j v)) H'->Q H'):=set_list.imp fun o i v H Q ⟨p,xs,k,j,e1,e2,h,hj,q⟩=>⟨p,xs,k,j,e1,e2,h,hj,q _ Put.up⟩
end
section
variable{M:Pz}{A:N_}{E:NK->NO->Prop}{s:NO}{env:Env}
theorem jI{e:N2}{scope:OH}{pos:Pos}{newAcc first:Sem NK}{g:Rh}{gs:List Rh}{u:NK->Sem Unit}{Q:NK->NO->Prop}
  (hcl:clausesOf e=g::gs) (hs:∀ x,OC g.iter env x=pure x)
  (hc:∀ x∈scope.names,x.2≠.cell) (hfr:∀ x∈scope.names,x.2=.free->∃ c,env.cells.lookup x.1=some c) (hkind:scope.kind=.function) (hnames:∀ x∈scope.names,x.2=.local->scope.names.lookup x.1=some .local)
  (h:NT M A first (fun x s₁=>NT M A (RX x) (fun it s₂=>NT M A newAcc (fun acc s₃=>
   ∀ h4,h4.Ns s₃.heap.objs.size (fun _=>none)->(∀ b o,s₃.heap.get? b=some o->h4.get? b=some o)->
    Qz M A (.compStart e 0 it acc (L2.compEnv env scope s₃.heap.objs.size)) (fun r s'=>match r with
     | .ok _=>NT M A (u acc) (fun _ s''=>∃ m,s''.heap.Ns s₃.heap.objs.size m/\∀ h',OL s₃.heap.objs.size s''.heap h'->Q .none { s'' with heap:=h' }) E s'
     | .error x=>False) { s₃ with heap:=h4 }) E s₂) E s₁) E s) :
  NT M A (Qu e scope env pos newAcc false first (some u)) Q E s:=by
 unfold Qu
 rw[nV hfr,hcl]
 refine NL (Oh h (fun x s₁ h₁=>NL (Pq (NL (RS (hs x) (NL (Oj (Oh h₁ (fun it s₂ h₂=>
  Ub (NL (Oh h₂ (fun acc s₃ h₃=>NL (NP (NL ?_))) fun _ _ h'=>h'))) fun _ _ h'=>h'))))))) fun _ _ h'=>h')
 refine Sf hc (fun x hx=>nomatch hx) (fun h4 hn4 hs4=>?_) hkind
 have h₄:=h₃ h4 hn4 fun b o e=>hs4.extBut b o (yp (NY e)) (NR _ e)
 dsimp only
 have hv:∀ x∈(scope.names.filter fun x=>(x.2 == .local || x.2 == .cell) && x.1 !=(".0":Str)).reverse,x.2=.local->
   Tq (L2.compEnv env scope s₃.heap.objs.size) x.1=some .local:=fun x hx hl=>by
  show(mS env scope).names.lookup x.1=some .local
  rw[jV,hnames x (KW.mp (Ml.mp hx)).1 hl]
  rfl
 have hv':∀ x∈(scope.names.filter fun x=>(x.2 == .local || x.2 == .cell) && x.1 !=(".0":Str)).reverse.drop 1++(scope.names.filter fun x=>(x.2 == .local || x.2 == .cell) && x.1 !=(".0":Str)).reverse.take 1,
   x.2=.local->Tq (L2.compEnv env scope s₃.heap.objs.size) x.1=some .local:=fun x hx hl=>
  (D_.mp hx).elim (fun z=>hv x (KG z) hl) fun z=>hv x (Ke z) hl
 refine Oj (NL (O5 (Oj (wpAny_run (Qc h₄ fun r s' hr=>?_)))))
 cases r with
 | ok f=>
  refine NL (PD (NL (Oj (Oh hr (fun _ s'' hr'=>?_) fun _ _ h'=>h'))))
  obtain⟨m,hn,hr'⟩:=hr'
  exact NL (S_ (cenv:=L2.compEnv env scope s₃.heap.objs.size) hkind _ s'' m hv' hn fun h' m' _ hs'=>NP (hr' h' hs'))
 | error x=>exact hr.elim
end
theorem x8{X:Cx}{N ps:List Str}{esc:OH}(S:FnScope N ps esc){i:Nat}{x:Str}{pos pos':Pos}(N':List Str)(fr:List (Option Nat))(nd:N'.Nodup){elt target iter:N2}{ifs:List N2}{sc:OH}{pos2:Pos}{wi:TI}{g:NO->Hp->List NN->TG}{tt:NO->Hp->List NN->TT}{te:NO->Hp->List NN->TE}(C:iD N esc sc N' fr=true)
  (hi:X.N[i]?=some x) (hx:Loc X.env.scope x) (hit:PI X target iter wi) (hg:∀ s3 H3 fp,PG (aY X N' sc s3 H3 fp) target (g s3 H3 fp)) (ht:∀ s3 H3 fp,PTs (aY X N' sc s3 H3 fp) ifs (tt s3 H3 fp)) (he:∀ s3 H3 fp,PE (aY X N' sc s3 H3 fp) elt (te s3 H3 fp))
  (hsw:P' (.ListComp elt [⟨target,iter,ifs,0⟩] sc pos2) (some (.Name x pos')) pos.line X.env=pure true) (hf:X.fn x=true:=by rfl)
  (hc:X.calm=true:=by rfl) (hN:X.N=N:=by rfl) (hS:X.env.scope=esc:=by rfl) (hs:∀ x,OC iter X.env x=pure x:=by intro _;rfl):PS X (.Assign [.Name x pos'] (.ListComp elt [⟨target,iter,ifs,0⟩] sc pos2) pos) (CM (wH wi fr g tt te) (xq i)):=by
 have C:CompOk X.N X.env.scope sc N' fr:=oY (by rw[hN,hS];exact C)
 have hNd:X.N.Nodup:=by rw[hN];exact S.nd
 intro pins s σ H D I h
 rw[exec_Assign_Name_used _ _ _ _ hsw]
 refine NL (Pq (NL ?_))
 show NT _ X.A (do let _ <-Qu (.ListComp elt [⟨target,iter,ifs,0⟩] sc pos2) sc X.env _ (newList []) false (Og iter X.env) (some (Qa (.Name x pos') X.env))) _ _ s
 have hfr:∀ x∈sc.names,x.2=.free->∃ c,X.env.cells.lookup x.1=some c:=fun x hx e=>I.ok.has x.1 (.inl (C.free x hx e))
 refine NL (Oh (jI (g:=⟨target,iter,ifs,0⟩) (gs:=[]) (Q:=fun _ s'=>SP X pins D .next s') rfl hs C.nocell hfr C.kind C.names ?_) (fun _ s' hq=>NP (NP hq)) fun _ _ e=>e)
 refine thn (hit pins s σ H _ I h) fun v s1 h1=>thn h1 fun itv s2 h2=>?_
 obtain⟨it,fp,tn,J,H2,e,I2,T,st2,f2,k2⟩:=h2
 subst e
 refine Qv ?_ (by show 0<=sizeLine;decide)
 have hfree:H2 s2.heap.objs.size=none:=I2.hok.fresh (c_ _)
 obtain⟨W,⟨m0,w0⟩,turn⟩:=k2 _ hfree { s2 with heap:=s2.heap.push { cls:=.type "list",data:=.seq ([]:List NK).toArray } } (upd H2 s2.heap.objs.size (.lst [])) fp
 have kp:∀ b u,s2.heap.get? b=some u->(s2.heap.push { cls:=.type "list",data:=.seq ([]:List NK).toArray }).get? b=some u:=fun b u e=>NR _ e
 have I3:Inv X pins σ (upd H2 s2.heap.objs.size (.lst [])) { s2 with heap:=s2.heap.push { cls:=.type "list",data:=.seq ([]:List NK).toArray } }:=
  I2.laid (t':=s2.toks) kp (c_ _) ⟨z_ _,[],0,.nil,N0 _ rfl⟩
 have obj2:=T.obj 0 s2.heap st2
 have fpne:∀ b∈fp,b≠s2.heap.objs.size:=fun b hb=>by
  obtain⟨o,ho,_⟩:=obj2 b hb
  exact yp (NY ho)
 have f3:∀ b∈fp,jA X pins (upd H2 s2.heap.objs.size (.lst [])) b:=fun b hb=>⟨by rw[aH (fpne b hb)];exact(f2 b hb).1,(f2 b hb).2⟩
 have st3:=T.keep 0 s2.heap _ st2 fun b hb o e=>kp b o e
 have obj3:=T.obj 0 _ st3
 intro h4 hn4 hk4
 have st4:=T.keep 0 _ h4 st3 fun b hb o e=>hk4 b o e
 have I4:=sF (N':=N') (fr:=fr) (fp:=fp) I3 C hc f3 (fun b hb=>let ⟨o,ho,_⟩:=obj3 b hb;⟨o,ho⟩) hn4 hk4
 have stat:∀ {H':Hp},(∀ b∈fp,H' b=none)->∀ b∈fp,jA (aY X N' sc { s2 with heap:=s2.heap.push { cls:=.type "list",data:=.seq ([]:List NK).toArray } } (upd H2 s2.heap.objs.size (.lst [])) fp) [] H' b:=fun hn b hb=>
  ⟨hn b hb,(I4.ok.exf b hb).1,I4.ok.exfs b hb,.inl hb,(I4.ok.exf b hb).2,fun p hp=>(nomatch hp)⟩
 have loop:Qz (N1 X.prog X.w) X.A (.compLoop (.ListComp elt [⟨target,iter,ifs,0⟩] sc pos2) 0 (.ref it) (.ref s2.heap.objs.size) (L2.compEnv X.env sc (s2.heap.push { cls:=.type "list",data:=.seq ([]:List NK).toArray }).objs.size))
   (fun r s'=>match r with
    | .ok _=>NT (N1 X.prog X.w) X.A (Qa (.Name x pos') X.env (.ref s2.heap.objs.size)) (fun _ s''=>∃ m,s''.heap.Ns (s2.heap.push { cls:=.type "list",data:=.seq ([]:List NK).toArray }).objs.size m/\∀ h',OL (s2.heap.push { cls:=.type "list",data:=.seq ([]:List NK).toArray }).objs.size s''.heap h'->SP X pins D .next { s'' with heap:=h' }) X.xe s'
    | .error x=>False) { s2 with heap:=h4 }:=by
  refine lG (fun n s'=>∃ i σ' H',Inv (aY X N' sc { s2 with heap:=s2.heap.push { cls:=.type "list",data:=.seq ([]:List NK).toArray } } (upd H2 s2.heap.objs.size (.lst [])) fp) [] σ' H' s'/\tn i s'.heap/\(∀ b∈fp,H' b=none)/\W i n σ' H') ?_ m0
   ⟨0,_,_,I4,st4,fun b hb=>(f3 b hb).1,w0⟩
  rintro n s5 ⟨j,σ5,H5,I5,st5,fr5,w5⟩
  rcases turn j n σ5 H5 w5 with⟨stop,q⟩ | ⟨go,step⟩
  ·refine thn (T.done (aY X N' sc _ _ fp) rfl rfl rfl rfl j [] s5 σ5 H5 (fun _ _=>False) I5 (stat fr5) st5 stop) ?_
   rintro r s6 ⟨hr,I6⟩
   subst hr
   obtain⟨m6,hn6,_⟩:=id I6.loc
   have hL:H5 (s2.heap.push { cls:=.type "list",data:=.seq ([]:List NK).toArray }).objs.size=none:=I6.free
   have I7:Inv X pins σ H5 s6:=I3.Ej (s':=s6) (ch:=fp) I6.os I6.base I6.hok I6.bare (fun b hb=>by
    obtain⟨_,g1,g2,g3,g4,g5⟩:=f3 b hb
    exact⟨g3,g1,g4,g5⟩)
   have Lne:(s2.heap.push { cls:=.type "list",data:=.seq ([]:List NK).toArray }).objs.size≠X.env.locals:=Lb I3.lt
   have cne:∀ y c,X.env.cells.lookup y=some c->c≠(s2.heap.push { cls:=.type "list",data:=.seq ([]:List NK).toArray }).objs.size:=fun y c e=>by
    obtain⟨v',z⟩:=I3.cell y c e
    exact yp z.lt
   refine SI (pG (v:=.ref s2.heap.objs.size) I7 hNd hi hx rfl (fun s8 I8 ⟨a8,sb8,ha8⟩=>?_) (.inl hf))
   refine⟨m6,hn6.sameBut sb8 (fun z=>ha8.elim (fun w'=>Lne (z.trans w')) fun w'=>cne _ _ w' z.symm),fun h' hs'=>⟨_,H5,?_,q⟩⟩
   refine I8.turned (it:=(s2.heap.push { cls:=.type "list",data:=.seq ([]:List NK).toArray }).objs.size) (t':=s8.toks) (fun b o hb e=>(hs'.2 b hb).trans e) hL Lne (.inr I3.sz) cne fun p hp z=>?_
   have lt:=NY (I3.pin p hp).1
   rw[z]at lt
   exact Km _ lt
  refine thn (T.item (aY X N' sc _ _ fp) rfl rfl rfl rfl j [] s5 σ5 H5 (fun _ _=>False) I5 (stat fr5) st5 go) ?_
  rintro r s6 ⟨u,hr,h6⟩
  subst hr
  refine thn h6 ?_
  rintro _ s7 ⟨y,H7,I7,r7,y7,st7,fr7⟩
  have I7':=I7.pinned (stat fr7) (T.obj _ _ st7)
  have again:∀ {σ8:St} {H8:Hp} {s8:NO},Inv (aY X N' sc { s2 with heap:=s2.heap.push { cls:=.type "list",data:=.seq ([]:List NK).toArray } } (upd H2 s2.heap.objs.size (.lst [])) fp) ([]++kE fp s7.heap) σ8 H8 s8->(∃ m',m' < n/\W (j + 1) m' σ8 H8)->
    ∃ m,m < n/\∃ i σ' H',Inv (aY X N' sc { s2 with heap:=s2.heap.push { cls:=.type "list",data:=.seq ([]:List NK).toArray } } (upd H2 s2.heap.objs.size (.lst [])) fp) [] σ' H' s8/\tn i s8.heap/\(∀ b∈fp,H' b=none)/\W i m σ' H':=fun{σ8 H8 s8} I8 ⟨m',hm,w8⟩=>by
   refine⟨m',hm,j + 1,σ8,H8,I8.iA,T.keep _ _ _ st7 fun b hb o e=>(I8.pin (b,o) (q_ _ (q_ _ (fg hb e)))).1,fun b hb=>?_,w8⟩
   obtain⟨o,e,d⟩:=T.obj _ _ st7 b hb
   exact(I8.pin (b,o) (q_ _ (q_ _ (fg hb e)))).2.1
  refine thn (hg _ _ fp _ s7 σ5 H7 y u _ I7' r7 (step y H7 y7)) ?_
  rintro _ s8 ⟨σ8,H8,I8,q8⟩
  refine thn (ht _ _ fp _ s8 σ8 H8 _ I8 q8) ?_
  rintro ok s9 ⟨H9,I9,q9⟩
  cases ok with
  | false=>exact again I9 q9
  | true=>
   refine thn (he _ _ fp _ s9 σ8 H9 _ I9 q9) ?_
   rintro y s10 ⟨v,H10,I10,r10,ys,hys,hl,q10⟩
   refine thn (lu _ s10 σ8 H10 (.ref s2.heap.objs.size) [v] (.ref s2.heap.objs.size) [y] (fun _ H'=>∃ m',m' < n/\W (j + 1) m' σ8 H') I10 rfl (.cons r10 .nil) ⟨_,ys,v,rfl,rfl,hys,hl,q10⟩) ?_
   rintro z s11 ⟨_,H11,I11,_,q11⟩
   exact again I11 q11
 refine RT loop ?_
 exact T.self X.A 0 _ _ _ st4 loop
section
variable{X:Cx}
theorem MtM.imp {id:String}{r r':V->List V->Hp->VK->Prop}(h:MtM X id r)(k:∀ x xs H Q,r' x xs H Q->r x xs H Q):MtM X id r':=fun pins s σ H x xs v us Q I r1 r2 q=>h pins s σ H x xs v us Q I r1 r2 (k _ _ _ _ q)
theorem ux:MtM X "list.extend" (fun x vs H Q=>∃ l b xs zs,x=.ref l/\vs=[.ref b]/\H l=some (.lst xs)/\H b=some (.lst zs)/\xs.length + zs.length<=sizeLine/\∀ H',Put H l (.lst (xs++zs)) H'->Q .non H'):=yj.imp fun x vs H Q ⟨l,b,xs,zs,e1,e2,h1,h2,hz,q⟩=>⟨l,b,xs,zs,e1,e2,h1,h2,hz,q _ Put.up⟩
theorem uI:MtM X "list.append" (fun x vs H Q=>∃ l xs y,x=.ref l/\vs=[y]/\H l=some (.lst xs)/\xs.length < sizeLine/\∀ H',Put H l (.lst (xs++[y])) H'->Q .non H'):=lu.imp fun x vs H Q ⟨l,xs,y,e1,e2,h1,hz,q⟩=>⟨l,xs,y,e1,e2,h1,hz,q _ Put.up⟩
end
end L2
namespace ZG
open PySem
theorem Bc{prog:NW}{w:N3}{A:N_}(hh:A.handled=none)(b:Bool)(it l:NN)(hne:l≠it)(items:Array NK) :
  Draws prog w A it [it,l] items.size (fun i v=>items[i]?=some v) (fun i h=>Dr b h it l i/\Sq b h l items) where
 live:=fun _ _ st=>let ⟨o,ho,_⟩:=st.1.some;⟨o,ho⟩
 frame:=fun _ _ _ st hk=>⟨st.1.at fun o e=>hk it (by simp) o e,st.2.at fun o e=>hk l (by simp) o e⟩
 item:=fun i s Q E hi st hQ=>by
  refine pL st.1 st.2 (v:=items[i]) (by simp[hi]) fun h' hit' hs'=>?_
  exact hQ _ h' s.toks (by simp[hi]) ⟨hit',st.2.ext hs'.extBut hne⟩ hs'
 done:=fun s Q E st hE=>Av hh st.1 st.2 (by simp) hE
set_option maxHeartbeats 1000000 in
theorem yJ(l:NN)(items:Array NK)(n:Nat)(dct:Option NN)(sl:Array (Option NK)) :
  Tp (OY.«enumerate.__new__» ⟨[.type "enumerate",.ref l],[]⟩) (fun _ R s=>s.heap.get? l=some { cls:=.type "tuple",dict:=dct,data:=.seq items n,slots:=sl }/\
   R (.ok (.ret (.ref (s.heap.push { cls:=.type "tuple_iterator",data:=.fields #[.ref l,.int 0 0] }).objs.size)))
    { s with heap:=(s.heap.push { cls:=.type "tuple_iterator",data:=.fields #[.ref l,.int 0 0] }).push { cls:=.type "enumerate",data:=.fields #[.none,.bool false,.ref s.heap.objs.size,O' 0,.none,.none] } }):=
 .of_wp fun prog w A R s h=>by
  obtain⟨hp,g,d,tk,os⟩:=s;obtain⟨hl,h⟩:=h
  have hsub:=sub_enumerate
  have hL:Ry (P5 ⟨hp,g,d,tk,os⟩) l items:=⟨_,hl,rfl,n,rfl⟩
  wp_walk using Po hl
  refine wpAny_stack_any fun st=>NP ?_
  split
  ·rename_i c _ _ _ _ _
   cases (c == OJ "enumerate")
   ·wp_walk using Po hl,Oz hL
    exact⟨_,rfl,h⟩
   wp_walk using Po hl,Oz hL
   exact⟨_,rfl,h⟩
  wp_walk using Po hl,Oz hL
  exact⟨_,rfl,h⟩
section
variable{prog:NW}{w:N3}{A:N_}{E:NK->NO->Prop}{s:NO}
theorem uq{l:NN}{items:Array NK}{Q:NK->NO->Prop}(hL:s.heap.IsTuple l items)
  (h:∀ h',UR h' (s.heap.objs.size + 1) s.heap.objs.size 0 .none->h'.IsTupleIter s.heap.objs.size l 0->h'.objs.size=s.heap.objs.size + 2->
   (∀ b o,s.heap.get? b=some o->h'.get? b=some o)->Q (.ref (s.heap.objs.size + 1)) { s with heap:=h' }) :
  NT (N1 prog w) A (call (.type "enumerate") [.ref l]) Q E s:=by
 obtain⟨⟨c,dct,dt,sl⟩,hl,hc,n,hd⟩:=hL
 replace hc:c=.type "tuple":=hc
 replace hd:dt=.seq items n:=hd
 subst hc hd
 refine UO F.called_enumerate (by decide) (F.typeCall_enumerate_1 _) (F.newCall_enumerate_1 _) (fun obj=>F.args_object_init_2 obj _) F.entry_enumerate_new
  (yJ l items n dct sl) ⟨hl,?_⟩
 have hz:(s.heap.push { cls:=.type "tuple_iterator",data:=.fields #[.ref l,.int 0 0] }).objs.size=s.heap.objs.size + 1:=O9 ..
 show _/\_
 rw[hz]
 have he:UR ((s.heap.push { cls:=.type "tuple_iterator",data:=.fields #[.ref l,.int 0 0] }).push
   { cls:=.type "enumerate",data:=.fields #[.none,.bool false,.ref s.heap.objs.size,O' 0,.none,.none] }) (s.heap.objs.size + 1) s.heap.objs.size 0 .none:=by
  have:=N0 (s.heap.push { cls:=.type "tuple_iterator",data:=.fields #[.ref l,.int 0 0] })
   (o:={ cls:=.type "enumerate",data:=.fields #[.none,.bool false,.ref s.heap.objs.size,O' 0,.none,.none] }) rfl
  rw[hz]at this;exact this
 refine⟨⟨_,he,rfl⟩,h _ he ⟨_,NR _ (N0 _ rfl),rfl,rfl⟩ (by rw[O9,hz]) fun b o x=>NR _ (NR _ x)⟩
theorem uu{b:Bool}{l:NN}{items:Array NK}{Q:NK->NO->Prop}(hL:Sq b s.heap l items)
  (h:∀ h',UR h' (s.heap.objs.size + 1) s.heap.objs.size 0 .none->Dr b h' s.heap.objs.size l 0->h'.objs.size=s.heap.objs.size + 2->
   (∀ b o,s.heap.get? b=some o->h'.get? b=some o)->Q (.ref (s.heap.objs.size + 1)) { s with heap:=h' }) :
  NT (N1 prog w) A (call (.type "enumerate") [.ref l]) Q E s:=by
 cases b with
 | true=>exact uq hL h
 | false=>exact call_enumerate_list hL h
end
end ZG
namespace L2
open PySem PySem.Spec PyProof.Rows
noncomputable def Ite(K:NM)(b:Bool)(a:NN):It:=
  ⟨fun i H=>∃ xs x,SqG b K H a xs/\xs[i]?=some x,
   fun i H v H'=>∃ p x,H p=none/\v=.ref p/\H'=upd H p (.tup [.int i,x])/\∀ xs,SqG b K H a xs->xs[i]?=some x,
   fun i H=>∃ xs,SqG b K H a xs/\xs.length=i⟩
theorem xE{P:NW}{w:N3}{K:NM}{es:List N2}{x1:Nat}{tp:Pos}(b:Bool)(a e it:NN)(D:e≠it) :
  Turn P w K (.Tuple es x1 tp) (Ite K b a) [e,it] e (fun i h=>(∃ old,UR h e it i old)/\ZG.Dr b h it a i) where
 mem:=by simp
 obj:=fun i h st c hb=>by
  obtain⟨⟨old,he⟩,d⟩:=st
  have hb:c=e\/c=it:=by simpa using hb
  rcases hb with rfl | rfl
  ·exact⟨_,he,fun v z=>by cases (show SU _=RH v from z)⟩
  exact d.some
 keep:=fun i h h' st k=>by
  obtain⟨⟨old,he⟩,d⟩:=st
  exact⟨⟨old,k e (by simp) _ he⟩,d.at fun o z=>k it (by simp) o z⟩
 item:=by
  intro X hP hw hK hc i pins s σ H E I hf st hg
  subst hP hw hK
  obtain⟨xs,x,q1,hx⟩:=hg
  obtain⟨its,rv,p1,z1⟩:=I.sq q1
  obtain⟨u,hu,ru⟩:=rv.get hx
  obtain⟨⟨old,he⟩,d⟩:=st
  have fe:=hf e (by simp)
  have fi:=hf it (by simp)
  have nai:=I.eW q1 fi
  have nae:=I.eW q1 fe
  have hlt:i < its.toArray.size:=by
   have:=(f_.mp hu).1
   simpa using this
  refine wpAny_pyNext_enum_itemD (ZG.Bc (A:=X.A.in1) (I.ok.hd hc) b it a nai its.toArray) he ⟨d,p1⟩ hlt D (by simp[D,nae.symm]) fun y h1 tk hP hO hst hT hsz hk=>⟨_,rfl,?_⟩
  have ey:y=u:=by
   have e1:its.toArray[i]?=some u:=by simpa using hu
   rw[e1]at hP
   exact(G_ hP).symm
  subst ey
  refine wpAny_letOwnedTupleGo_enum (s:={ s with heap:=h1,toks:=tk + 1 }) hO fun h' he' hs'=>?_
  have hfresh:H s.heap.objs.size=none:=I.hok.fresh (c_ _)
  have eT:s.heap.objs.size≠e:=Lb (NY he)
  have kp:∀ c o,c ∉ [e,it]->s.heap.get? c=some o->h'.get? c=some o:=fun c o hb z=>by
   have n:c≠e/\c≠it:=by simpa using hb
   exact hs'.extBut _ _ n.1 (hk c o n.1 n.2 z)
  have hT':h'.get? s.heap.objs.size=some { cls:=.type "tuple",data:=.seq #[.int i tk,y] }:=hs'.extBut _ _ eT hT
  have notfp:∀ c o,H c=some o->c ∉ [e,it]:=fun c o z hb=>by
   have:=(hf c hb).1
   rw[z]at this;cases this
  have ne:∀ c o,s.heap.get? c=some o->c≠s.heap.objs.size:=fun c o z=>yp (NY z)
  have nt:∀ c o,H c=some o->c≠s.heap.objs.size:=fun c o z=>cy z hfresh
  have I1:Inv X pins σ (upd H s.heap.objs.size (.tup [.int i,x])) { s with heap:=h',toks:=tk + 1 }:=by
   refine I.step (g':=s.gens) (d':=s.drawn) (t':=tk + 1) (ch:=[e,it]) (fun c hb=>?_) (fun c o _ _ hc z _=>kp c o hc z) (fun c o _ _ hc z _=>⟨o.slots,kp c o hc z⟩)
    (fun c o _ z n=>by rw[aH (ne c o z)];exact n) (fun c o hc z=>⟨o,kp c o hc z⟩) (fun c zs z=>by rw[aH (nt c _ z)];exact z) (fun c o u z=>by rw[aH (nt c _ z)];exact z)
    (fun c ps z=>⟨#[],by rw[aH (nt c _ z),z];simp⟩) (fun m hm=>?_) (fun c o z=>?_) I.bare
   ·obtain⟨g0,g1,g2,g3,g4,g5⟩:=hf c hb
    exact⟨g3,g1,g4,g5⟩
   ·obtain⟨o,es,ep,ho',r⟩:=hm
    exact⟨o,es,ep,kp _ o (fun hb=>(hf _ hb).2.1 rfl) ho',r⟩
   by_cases hb:c=s.heap.objs.size
   ·subst hb
    rw[aR]at z
    cases z
    exact⟨by show 2<=sizeLine;decide,[.int i tk,y],.cons ⟨tk,rfl⟩ (.cons ru .nil),_,hT',rfl,_,rfl⟩
   rw[aH hb]at z
   refine(I.hok c o z).jK (fun c' w' hc' q=>kp c' w' ?_ q) (fun c' q=>by rw[aH (nt c' _ q)];exact q) fun c' zs q=>by rw[aH (nt c' _ q)];exact q
   rcases hc' with rfl | hc'
   ·exact notfp _ _ z
   exact notfp _ _ hc'
  refine⟨.ref s.heap.objs.size,_,I1,rfl,⟨s.heap.objs.size,x,hfresh,rfl,rfl,fun zs hq=>by rw[I.uK hq q1];exact hx⟩,?_,fun c hb=>?_⟩
  ·exact⟨⟨_,he'⟩,hst.1.ext hs'.extBut D.symm⟩
  have hb0:=(hf c hb).1
  have hb':c=e\/c=it:=by simpa using hb
  have hlt:∃ o,s.heap.get? c=some o:=by
   rcases hb' with rfl | rfl
   ·exact⟨_,he⟩
   obtain⟨o,z,_⟩:=d.some;exact⟨o,z⟩
  obtain⟨o,z⟩:=hlt
  rw[aH (ne c o z)]
  exact hb0
 done:=by
  intro X hP hw hK hc i pins s σ H E I hf st hg
  subst hP hw hK
  obtain⟨xs,q1,hn⟩:=hg
  obtain⟨its,rv,p1,z1⟩:=I.sq q1
  obtain⟨⟨old,he⟩,d⟩:=st
  have fe:=hf e (by simp)
  have fi:=hf it (by simp)
  have nai:=I.eW q1 fi
  have l1:=rv.length
  have en:its.toArray.size=i:=by simp;omega
  refine wpAny_pyNext_enum_endD (ZG.Bc (A:=X.A.in1) (I.ok.hd hc) b it a nai its.toArray) he (by rw[en];exact⟨d,p1⟩) fun g gk=>⟨rfl,?_⟩
  have kp:∀ c o,c ∉ [e,it]->s.heap.get? c=some o->g.get? c=some o:=fun c o hb z=>by
   have n:c≠e/\c≠it:=by simpa using hb
   exact gk c o n.2 z
  have notfp:∀ c o,H c=some o->c ∉ [e,it]:=fun c o z hb=>by
   have:=(hf c hb).1
   rw[z]at this;cases this
  refine I.step (g':=s.gens) (d':=s.drawn) (t':=s.toks) (ch:=[e,it]) (fun c hb=>?_) (fun c o _ _ hc z _=>kp c o hc z) (fun c o _ _ hc z _=>⟨o.slots,kp c o hc z⟩)
   (fun c o _ z n=>n) (fun c o hc z=>⟨o,kp c o hc z⟩) (fun c zs z=>z) (fun c o u z=>z) (fun c ps z=>⟨#[],by rw[z];simp⟩) (fun m hm=>?_) (fun c o z=>?_) I.bare
  ·obtain⟨g0,g1,g2,g3,g4,g5⟩:=hf c hb
   exact⟨g3,g1,g4,g5⟩
  ·obtain⟨o,es,ep,ho',r⟩:=hm
   exact⟨o,es,ep,kp _ o (fun hb=>(hf _ hb).2.1 rfl) ho',r⟩
  refine(I.hok c o z).jK (fun c' w' hc' q=>kp c' w' ?_ q) (fun c' q=>q) fun c' zs q=>q
  rcases hc' with rfl | hc'
  ·exact notfp _ _ z
  exact notfp _ _ hc'
 self:=fun _ _ _ _ _ st h=>by
  obtain⟨⟨old,he⟩,_⟩:=st
  exact SO he h
def J9(K:NM)(ta:TA):TI:=fun σ H R=>ta σ H fun vs H1=>∃ b a,vs=[.ref a]/\(∃ xs,SqG b K H1 a xs)/\R (Ite K b a) H1
theorem Dk{X:Cx}{es:List N2}{x1:Nat}{tp:Pos}{a:N2}{ta:TA}{p pos:Pos}(hg:Gl X "enumerate")(hm:X.mg "enumerate"=none)(ha:PA X [a] ta)(hs:N7 [a] X.env=[(false,Og a X.env)]:=by rfl) :
  PI X (.Tuple es x1 tp) (.Call (.Name "enumerate" p) [a] [] pos) (J9 X.K ta):=by
 intro pins s σ H R I h
 refine Vk (jr I hg hm boot_enumerate (OR (thn (ha pos pins s σ H _ I h) fun us s1 ⟨vs,H1,I1,r1,q1⟩=>?_) hs rfl))
 obtain⟨b,a,e,⟨xs,q1⟩,q⟩:=q1
 subst e
 cases r1 with
 | cons r rr=>
  cases rr
  cases r
  obtain⟨its,rv,p1,z1⟩:=I1.sq q1
  refine ZG.uu p1 fun g gz g1 gs gk=>SO (s:={ s1 with heap:=g }) gz ?_
  have I2:Inv X pins σ H1 { s1 with heap:=g }:=I1.kept (t':=s1.toks) gk
  refine⟨_,_,_,_,H1,rfl,I2,xE b a _ s1.heap.objs.size (show(_:Nat)≠_ by omega),⟨⟨_,gz⟩,g1⟩,fun c hb=>?_,q⟩
  have hb':s1.heap.objs.size<=c:=by
   have z:c=s1.heap.objs.size + 1\/c=s1.heap.objs.size:=by simpa using hb
   rcases z with z | z <;> rw[z] <;>(show(_:Nat)<=_) <;> omega
  exact I1.rO hb' (I1.hok.fresh hb')
end L2
namespace ZG
open PySem
open Sem (wp)
section
variable{prog:NW}{w:N3}{A:N_}{E:NK->NO->Prop}{s:NO}
theorem DV{d:NN}{o:Obj}{es:Array O4}{ep:Nat}{Q:NK->NO->Prop}(hd:(d == Ol)=false)(ho:s.heap.get? d=some o)(hc:o.ExactDict)(hdat:o.data=.dict es ep)
  (hQ:Q (.ref s.heap.objs.size) { s with heap:=s.heap.push { cls:=.type "dict_keyiterator",data:=.fields #[.ref d,.int 0 0,.int es.size 0,.int ep 0] } }):NT (N1 prog w) A (RX (.ref d)) Q E s:=by
 have hT:s.TypeIs (.ref d) "dict":=⟨o,ho,hc.1⟩
 refine wpAny_pyIter_slot hT Tb (OI Tb hT F.entry_dict_iter ?_ (F.args_dict_iter_1 _))
 unfold OY.«dict.__iter__» Ut
 refine NL (NL (QA hT (show NT _ _ (pure (Oa d)) _ _ s from NP (show NT _ _ (R1 d >>= _) _ _ s from ?_))))
 unfold R1
 rw[if_neg (by rw[hd];exact A')]
 exact NL (NP (NL (OE ho hdat (NL (QI ho hdat (NL (Ow (NP ⟨_,rfl,"dict_keyiterator",_,⟨_,N0 _ rfl,rfl⟩,OQ.lookup,by simpa[O']using hQ⟩))))))))
theorem Eg{it d:NN}{i ep:Nat}{o:Obj}{es:Array O4}{e:O4}{Q:Option NK->NO->Prop}(hit:s.heap.IsKeyIter it d i es.size ep)(hod:s.heap.get? d=some o)(hdd:o.data=.dict es ep)(hx:es[i]?=some e)
  (hQ:∀ h',h'.IsKeyIter it d (i + 1) es.size ep->OL it s.heap h'->Q (some e.key) { s with heap:=h' }):NT (N1 prog w) A (Qn (.ref it)) Q E s:=by
 obtain⟨oi,ho,hc,hd⟩:=id hit
 unfold Qn
 refine NL (O5 (Ox (name:=Pb "__next__") hit.typeIs OQ (OI OQ hit.typeIs QN ?_ (QJ _))))
 refine NL (NP (NL (NL ?_)))
 refine NL (O6 hit.typeIs (NP (NL (TU ho hd ?_))))
 simp only[show QW "dict_keyiterator"=false by decide,B_,if_false]
 show NT _ _ (if(Oa d == Om)=true then _ else _) _ _ s
 rw[if_neg (show ¬(Oa d == Om)=true from fun z=>A' z)]
 refine NL (NP (NL (OE hod hdd ?_)))
 rw[if_neg (show ¬ _ by simp)]
 refine NL (NP (NL (QI hod hdd ?_)))
 rw[if_neg (show ¬ _ by simp)]
 refine NP ?_
 simp only[show ¬(i:Int) < 0 by lia,if_false,K7,hx]
 refine NL (NL (O6 hit.typeIs (NP (NL (R3 hit.typeIs ?_)))))
 show NT _ _ (setField (.ref it) 1 (O' ((i:Int) + 1)) >>= _) _ _ s
 refine NL (QU ho hd (by simp) ?_)
 have hit':(s.heap.update it (Ud (·.setIfInBounds 1 (O' ((i:Int) + 1))))).IsKeyIter it d (i + 1) es.size ep:=
  ⟨_,PN _ ho (R0 (Qg hd _)),(SK ..).trans hc,by rw[Qg hd];simp[O']⟩
 exact NL (Oj (NL (R3 (s:={ s with heap:=s.heap.update it (Ud (·.setIfInBounds 1 (O' ((i:Int) + 1)))) }) hit'.typeIs (show NT _ _ (pure e.key) _ _ _ from NP (NP ⟨_,rfl,NP (hQ _ hit' (O7 ..))⟩)))))
theorem Hc{it d:NN}{i ep:Nat}{o:Obj}{es:Array O4}{Q:Option NK->NO->Prop}(hh:A.handled=none)(hit:s.heap.IsKeyIter it d i es.size ep)(hod:s.heap.get? d=some o)(hdd:o.data=.dict es ep)(hx:es[i]?=none)
  (hQ:∀ h',Qp it s.heap h'->Q none { s with heap:=h' }):NT (N1 prog w) A (Qn (.ref it)) Q E s:=by
 obtain⟨oi,ho,hc,hd⟩:=id hit
 unfold Qn
 refine NL (O5 (Ox (name:=Pb "__next__") hit.typeIs OQ (OI OQ hit.typeIs QN ?_ (QJ _))))
 refine NL (NP (NL (NL ?_)))
 refine NL (O6 hit.typeIs (NP (NL (TU ho hd ?_))))
 simp only[show QW "dict_keyiterator"=false by decide,B_,if_false]
 show NT _ _ (if(Oa d == Om)=true then _ else _) _ _ s
 rw[if_neg (show ¬(Oa d == Om)=true from fun z=>A' z)]
 refine NL (NP (NL (OE hod hdd ?_)))
 rw[if_neg (show ¬ _ by simp)]
 refine NL (NP (NL (QI hod hdd ?_)))
 rw[if_neg (show ¬ _ by simp)]
 refine NP ?_
 simp only[show ¬(i:Int) < 0 by lia,if_false,K7,hx]
 refine NL (NL (O6 hit.typeIs (NP ?_)))
 show NT _ _ (setField (.ref it) 0 .none >>= _) _ _ s
 refine NL (QU ho hd (by simp) (show NT _ _ (UN (.type "StopIteration") [] >>= _) _ _ _ from NL ?_))
 simp only[UN,newTuple]
 refine NL (Ow (NL (m:=QV _ _) (RS (a:=Om) (by first | rfl | (simp only[QV];rfl)) (Ow ?_ (by size_fits)))) (by size_fits))
 simp only[raiseNew]
 refine NL (Ua ?_)
 rw[show A.in1.handled=none from hh]
 refine NL (NP (U8 ?_))
 refine NL (S8 (T:="StopIteration") (b:=true) (by exact⟨_,N0 _ rfl,rfl⟩) TN (NP ?_))
 exact hQ _ (((O7 ..).extBut.push _).push _)
end
end ZG
namespace L2
open PySem PySem.Spec PyProof.Rows
def kI(ns:List Int):List Key:=ns.map Pe
theorem G9(ns:List Int):(kI ns).map kV=ns.map V.int:=by
 unfold kI
 rw[H_]
 rfl
theorem GB{ns ms:List Int}(h:kI ns=kI ms):ns=ms:=(List.map_inj_right fun _ _ z=>U1 z).mp h
theorem mW{α β:Type}{F:α->β->Prop}:∀ {l:List α} {m:List β} {i:Nat} {b:β},Pw F l m->m[i]?=some b->∃ a,l[i]?=some a/\F a b
 | _,_,_,_,.nil,e=>by simp at e
 | _,_,0,_,.cons h t,e=>by
  simp only[KU,Me]at e
  subst e
  exact⟨_,rfl,h⟩
 | _,_,i + 1,_,.cons h t,e=>by
  simp only[Kn]at e ⊢
  exact mW t e
theorem CC{X:Cx}{pins:List (NN × Obj)}{σ:St}{H:Hp}{s:NO}{o:Obj}{d:NN}{kvs:List (List Key × V)}(I:Inv X pins σ H s)(e:H d=some (.frz o (.dT kvs))) :
  s.heap.get? d=some o/\(d == Ol)=false/\∃ xs es ep,KT H kvs xs/\o.ExactDict/\o.data=.dict es ep/\es.toList=xs.map (QC (Py (bx X.prog X.w)))/\es.size=kvs.length:=by
 obtain⟨h0,h1,h2,xs,kt,o',es,ep,g1,g2,g3,g4,g5⟩:=(show bg X.prog X.w H s.heap d (.frz o (.dT kvs))from I.hok d _ e)
 rw[h0]at g1
 cases g1
 refine⟨h0,h2,xs,es,ep,kt,g2,g3,g4,?_⟩
 rw[<-g_,g4,a_]
 exact(OF kt).symm
section
variable{X:Cx}
theorem yt(hc:X.calm=true):bG X (.builtin "min") (fun xs H Q=>∃ a ns,xs=[.ref a]/\SqT X.K H a (ns.map V.int)/\ns≠[]/\∀ r,fU ns r->Q (.int r) H):=by
 intro pins s σ H xs us Q I r h
 obtain⟨a,ns,rfl,hq,hne,q⟩:=h
 obtain⟨u,rfl,ru⟩:=vals1 r
 cases ru
 obtain⟨its,rv,p,z⟩:=I.tuple hq
 obtain⟨ps,e1,e2⟩:=eN rv
 have ei:Ov ps.toArray=its.toArray:=by simp[Ov,e1]
 have hT:s.heap.IsTuple a (Ov ps.toArray):=by rw[ei];exact p
 have hlen:ps.length=ns.length:=by rw[<-e2];simp
 have hpos:0 < ns.length:=Kd fun z=>hne (Kb z)
 have hlt:a < s.heap.objs.size:=by obtain⟨o,e,_⟩:=p;exact NY e
 have hh:X.A.in1.handled=none:=I.ok.hd hc
 have W1:=U9 (prog:=X.prog) (w:=X.w) hh s.heap.objs.size a (yp hlt) (Ov ps.toArray)
 refine call_min_walk (Oz hT ⟨s.heap.objs.size,_,_,_,_,_,_,rfl,W1,?_,fun b hb=>?_,?_,CmpOf.ints_lt (PY ps.toArray) (fun i v hv=>Qr hv),fun v h' tk hv hk=>?_⟩)
 ·refine⟨⟨_,N0 _ rfl,rfl,rfl⟩,?_⟩
  obtain⟨o,e,r⟩:=hT
  exact⟨o,NR _ e,r⟩
 ·show b < (s.heap.push _).objs.size
  have e:(s.heap.push { cls:=.type "tuple_iterator",data:=.fields #[.ref a,.int 0 0] }).objs.size=s.heap.objs.size + 1:=by simp[Q6]
  rcases t_.mp hb with hb | hb
  ·rw[hb];simp[Q6]
  rw[C_.mp hb]
  exact u_ hlt (by simp[Q6])
 ·simp[Ov];lia
 obtain⟨tv,rfl⟩:=Qr hv
 obtain⟨b1,b2⟩:=argBest_lt (PY ps.toArray) ((Ov ps.toArray).size - 1)
 have es:(Ov ps.toArray).size=ns.length:=by simp[Ov,hlen]
 have hi:TR (fun i j=>decide (PY ps.toArray i < PY ps.toArray j)) ((Ov ps.toArray).size - 1) < ns.length:=by rw[es]at b1 ⊢;lia
 obtain⟨f0,f1,f2,f3,f4,f5⟩:=I.rO (b:=s.heap.objs.size) (c_ _) (I.hok.fresh (c_ _))
 have kk:∀ b o,s.heap.get? b=some o->h'.get? b=some o:=fun b o e=>hk b o (fun z=>yp (NY e) (C_.mp z)) (NR _ e)
 refine⟨.int _,H,I.kept (t':=tk) kk,⟨tv,rfl⟩,q _ ⟨?_,fun x hx=>?_⟩⟩
 ·rw[fH e2 hi];exact Kc hi
 obtain⟨j,hj,rfl⟩:=KD.mp hx
 have:=b2 j (by rw[es];lia)
 rw[fH e2 hj]at this
 exact this
theorem xG(hc:X.calm=true):bG X (.builtin "max") (fun xs H Q=>∃ a ns,xs=[.ref a]/\SqT X.K H a (ns.map V.int)/\ns≠[]/\∀ r,fT ns r->Q (.int r) H):=by
 intro pins s σ H xs us Q I r h
 obtain⟨a,ns,rfl,hq,hne,q⟩:=h
 obtain⟨u,rfl,ru⟩:=vals1 r
 cases ru
 obtain⟨its,rv,p,z⟩:=I.tuple hq
 obtain⟨ps,e1,e2⟩:=eN rv
 have ei:Ov ps.toArray=its.toArray:=by simp[Ov,e1]
 have hT:s.heap.IsTuple a (Ov ps.toArray):=by rw[ei];exact p
 have hlen:ps.length=ns.length:=by rw[<-e2];simp
 have hpos:0 < ns.length:=Kd fun z=>hne (Kb z)
 have hlt:a < s.heap.objs.size:=by obtain⟨o,e,_⟩:=p;exact NY e
 have hh:X.A.in1.handled=none:=I.ok.hd hc
 have W1:=U9 (prog:=X.prog) (w:=X.w) hh s.heap.objs.size a (yp hlt) (Ov ps.toArray)
 refine call_max_walk (Oz hT ⟨s.heap.objs.size,_,_,_,_,_,_,rfl,W1,?_,fun b hb=>?_,?_,CmpOf.ints_gt (PY ps.toArray) (fun i v hv=>Qr hv),fun v h' tk hv hk=>?_⟩)
 ·refine⟨⟨_,N0 _ rfl,rfl,rfl⟩,?_⟩
  obtain⟨o,e,r⟩:=hT
  exact⟨o,NR _ e,r⟩
 ·show b < (s.heap.push _).objs.size
  have e:(s.heap.push { cls:=.type "tuple_iterator",data:=.fields #[.ref a,.int 0 0] }).objs.size=s.heap.objs.size + 1:=by simp[Q6]
  rcases t_.mp hb with hb | hb
  ·rw[hb];simp[Q6]
  rw[C_.mp hb]
  exact u_ hlt (by simp[Q6])
 ·simp[Ov];lia
 obtain⟨tv,rfl⟩:=Qr hv
 obtain⟨b1,b2⟩:=argBest_gt (PY ps.toArray) ((Ov ps.toArray).size - 1)
 have es:(Ov ps.toArray).size=ns.length:=by simp[Ov,hlen]
 have hi:TR (fun i j=>decide (PY ps.toArray i > PY ps.toArray j)) ((Ov ps.toArray).size - 1) < ns.length:=by rw[es]at b1 ⊢;lia
 obtain⟨f0,f1,f2,f3,f4,f5⟩:=I.rO (b:=s.heap.objs.size) (c_ _) (I.hok.fresh (c_ _))
 have kk:∀ b o,s.heap.get? b=some o->h'.get? b=some o:=fun b o e=>hk b o (fun z=>yp (NY e) (C_.mp z)) (NR _ e)
 refine⟨.int _,H,I.kept (t':=tk) kk,⟨tv,rfl⟩,q _ ⟨?_,fun x hx=>?_⟩⟩
 ·rw[fH e2 hi];exact Kc hi
 obtain⟨j,hj,rfl⟩:=KD.mp hx
 have:=b2 j (by rw[es];lia)
 rw[fH e2 hj]at this
 exact this
theorem vG{K:NM}{H:Hp}:∀ {ds:List Dt} {xs:List V} {us:List NK},aO K H ds xs->Vals xs us->∀ p∈us.zip ds,∃ x,RelV x p.1/\Has K H p.2 x
 | [],_,_,_,_=>fun p hp=>by simp at hp
 | d::ds,_,_,h,v=>fun p hp=>by
  rw[aO]at h
  obtain⟨x,t,rfl,h1,h2⟩:=h
  cases v with
  | cons r v'=>
   rw[Kt]at hp
   rcases t_.mp hp with rfl | hp
   ·exact⟨x,r,h1⟩
   exact vG h2 v' p hp
theorem uQ{pins:List (NN × Obj)}{σ:St}{H:Hp}{s:NO}(I:Inv X pins σ H s){A:N_}{n:Nat}(hA:A.units + n < cLine){d:Dt}{x:V}{v:NK}(hd:Has X.K H d x)(rx:RelV x v) :
  ∀ {ds:List Dt} {xs:List V} {us:List NK},cN ds<=n->aO X.K H ds xs->Vals xs us->∃ e:NK->Bool,(∀ u∈us,PX A s u v (e u))/\(∀ p∈us.zip ds,e p.1=eqD p.2 d)/\us.any e=ds.any fun d'=>eqD d' d
 | [],_,_,_,h,r=>by
  rw[aO]at h
  subst h
  cases r
  exact⟨fun _=>false,fun u hu=>(by cases hu),fun p hp=>(by simp at hp),rfl⟩
 | d'::ds,_,_,hn,h,r=>by
  rw[aO]at h
  obtain⟨x',t,rfl,h1,h2⟩:=h
  rw[cN]at hn
  cases r with
  | @cons _ u' _ us r1 r2=>
   obtain⟨e0,a1,a2,a3⟩:=uQ I hA hd rx (by lia) h2 r2
   have q1:PX A s u' v (eqD d' d):=(qj I n A d' d x' x u' v (by lia) hA h1 hd r1 rx).2.2
   have same:∀ p∈us.zip ds,p.1=u'->p.2=d':=fun p hp z=>by
    obtain⟨y,ry,hy⟩:=vG h2 r2 p hp
    rw[z]at ry
    have:=RelV.inj ry r1
    subst this
    exact Has.inj I hy h1
   have ev:∀ p∈us.zip ds,(if p.1=u' then eqD d' d else e0 p.1)=eqD p.2 d:=fun p hp=>by
    split
    ·rename_i z
     rw[same p hp z]
    exact a2 p hp
   have len:us.length=ds.length:=by
    have m1:=h2.len
    have m2:=r2.length
    lia
   have EG:∀(f:NK->Bool) (us:List NK) (ds:List Dt),us.length=ds.length->(∀ p∈us.zip ds,f p.1=eqD p.2 d)->us.any f=ds.any fun d'=>eqD d' d:=fun f us=>by
    induction us with
    | nil=>intro ds z _;cases ds with
     | nil=>rfl
     | cons _ _=>cases z
    | cons u us ih=>intro ds z h;cases ds with
     | nil=>cases z
     | cons c cs=>
      rw[Ky,Ky,ih cs (Ku z) fun p hp=>h p (by rw[Kt];exact l_ _ hp),h (u,c) (by rw[Kt];exact v_ ..)]
   refine⟨fun y=>if y=u' then eqD d' d else e0 y,fun u hu=>?_,fun p hp=>?_,?_⟩
   ·show PX A s u v (if u=u' then eqD d' d else e0 u)
    split
    ·rename_i z
     rw[z]
     exact q1
    rename_i z
    rcases t_.mp hu with rfl | hu
    ·exact absurd rfl z
    exact a1 u hu
   ·rw[Kt]at hp
    rcases t_.mp hp with rfl | hp
    ·exact if_pos rfl
    exact ev p hp
   rw[Ky,Ky,EG _ us ds len ev,if_pos rfl]
noncomputable def Jk(K:NM)(A:N_)(neg:Bool):R2:=fun x y H Q=>∃ p xs d ds,y=.ref p/\SqL K H p xs/\Has K H d x/\aO K H ds xs/\A.in1.units + cN ds < cLine/\Q (.bl (if neg then !(ds.any fun e=>eqD e d)else ds.any fun e=>eqD e d)) H
theorem yy:OpR X (Ob .NotIn) (Jk X.K X.A true):=by
 intro pins s σ H x y v u Q I rx ry h
 obtain⟨p,xs,d,ds,rfl,hq,hd,hl,hA,q⟩:=h
 cases ry
 obtain⟨its,r,pl,hz⟩:=I.list hq
 obtain⟨e,e1,_,e3⟩:=uQ I (A:=X.A.in1) hA hd rx (c_ _) hl r
 refine SeqAt.notIn_listAt e pl.isList (fun w hw=>e1 w (by simpa using hw)) ⟨.bl _,H,I,rfl,?_⟩
 rw[show its.toArray.any e=its.any e by simp,e3]
 exact q
end
def bt{α:Type}(xs:List α)(a k:Int):List α:=(Ql (max 0 (min a xs.length)) xs.length k).filterMap (xs[·]?)
theorem C8(its:List NK){i j:Int}(h0:0<=i)(h1:0 < j):Q4 its.toArray (some i) none (some j)=(bt its i j).toArray:=by
 unfold Q4 bt
 have e:O0 (some i) none (some j) its.toArray.size=(max 0 (min i its.length),(its.length:Int),j):=by
  unfold O0
  simp only[Mm,m_]
  rw[if_pos h1,if_neg (by omega),if_pos h1]
 rw[e]
 simp
theorem oH{xs:List V}{us:List NK}(h:Vals xs us)(is:List Nat):Vals (is.filterMap (xs[·]?)) (is.filterMap (us[·]?)):=by
 have hl:=h.length
 induction is with
 | nil=>exact .nil
 | cons i is ih=>
  by_cases hi:i < xs.length
  ·rw[KP (b_ hi),KP (b_ (by omega))]
   obtain⟨u,hu,ru⟩:=h.get (b_ hi)
   rw[b_ (by omega)]at hu
   cases hu
   exact .cons ru ih
  rw[KQ (Kj (by omega)),KQ (Kj (by omega))]
  exact ih
theorem tV{α:Type}(xs:List α){i j:Int}(h0:0<=i)(h1:0 < j):(bt xs i j).length<=xs.length:=by
 unfold bt
 refine n_ (List.length_filterMap_le _ _) ?_
 unfold Ql
 rw[a_,Kf,if_pos h1]
 split
 ·rename_i h
  have:=ceilDiv_le ((xs.length:Int) - max 0 (min i xs.length)) j (by omega) (by omega)
  omega
 exact z_ _
section
variable{X:Cx}{e a k:N2}{te ta tk:TE}{pos p2:Pos}
theorem yl(he:PE X e te)(ha:PE X a ta)(hk:PE X k tk):PE X (.Subscript e (.Slice (some a) none (some k) p2) pos) (fun σ H Q=>te σ H fun x H1=>ta σ H1 fun y H2=>tk σ H2 fun z H3=>∃ i j l xs,y=.int i/\z=.int j/\0<=i/\0 < j/\x=.ref l/\SqL X.K H3 l xs/\New (.lst (bt xs i j)) H3 Q):=by
 intro pins s σ H Q I h
 refine Rm (thn (he pins s σ H _ I h) fun v s1 ⟨x,H1,I1,r1,q1⟩=>?_)
 refine SV ?_
 rw[Rf]
 refine thn (ha pins s1 σ H1 _ I1 q1) fun va s2 ⟨y,H2,I2,ry,q2⟩=>?_
 rw[Rc]
 refine NP ?_
 rw[Rf]
 refine thn (hk pins s2 σ H2 _ I2 q2) fun vk s3 ⟨z,H3,I3,rz,q3⟩=>?_
 obtain⟨i,j,l,xs,rfl,rfl,h0,h1,rfl,hx,q⟩:=q3
 obtain⟨ti,rfl⟩:=ry
 obtain⟨tj,rfl⟩:=rz
 cases r1
 have I4:Inv X pins σ H3 { s3 with heap:=s3.heap.push { cls:=.type "slice",data:=.fields #[.int i ti,.none,.int j tj] } }:=I3.kept (t':=s3.toks) fun b ob q=>NR _ q
 show NT (N1 X.prog X.w) X.A (Pu e (.Slice (some a) none (some k) p2) (.ref l) (.ref s3.heap.objs.size)) (EP X pins σ Q) X.xe { s3 with heap:=s3.heap.push { cls:=.type "slice",data:=.fields #[.int i ti,.none,.int j tj] } }
 obtain⟨its,r,ht,hz⟩:=I4.list hx
 have hlen:=r.length
 refine S4 (ops:=[.ref l,.ref s3.heap.objs.size]) ht.isList.typeIs slot_list_getitem.lookup ?_ (by with_unfolding_all rfl)
 refine Qe ht.isList (Q3 ..) (.int _ _) .none (.int _ _) (fun z=>by cases z;omega) ?_ (by rw[m_] <;> omega)
 rw[C8 its h0 h1]
 have hv:Vals (bt xs i j) (bt its i j):=by
  unfold bt
  rw[hlen]
  exact oH r _
 refine⟨.ref _,_,I4.laid (t':=s3.toks) (o:=.lst (bt xs i j)) (fun b ob q=>NR _ q) (c_ _) ?_,rfl,q.at (I4.hok.fresh (c_ _))⟩
 exact⟨n_ (tV xs h0 h1) hz,_,0,hv,N0 _ rfl⟩
end
end L2
namespace ZS
open PySem PyProof.Rows
def gal:Bool->Keyed->Array Keyed->Nat->Nat->Nat->StateT SortSt Sem (Option Nat):=sortPriv% PySem.Builtin.gallop
def mLo:Array Keyed->Array Keyed->StateT SortSt Sem (Array Keyed):=sortPriv% PySem.Builtin.mergeLo
def mHi:Array Keyed->Array Keyed->StateT SortSt Sem (Array Keyed):=sortPriv% PySem.Builtin.mergeHi
noncomputable def bey(lf:Bool)(ky:NQ)(ar:Array NQ)(b0 i:Nat):StateT NV Sem (Option Bool):=do
 let xx <-Ot ar (b0 + i)
 if lf then lt' xx ky else return (<-lt' ky xx).map (!·)
noncomputable def jc(lf:Bool)(ky:NQ)(ar:Array NQ)(b0 n l0 h0:Nat):StateT NV Sem (Option Nat):=do
 let mut l:=l0
 let mut h:=h0
 for _ in [0:n]do
  if l>=h then break
  let m:=l + (h - l) / 2
  let some mo <-bey lf ky ar b0 m | return none
  if mo then l:=m + 1 else h:=m
 return some h
noncomputable def E9(lf:Bool)(ky:NQ)(ar:Array NQ)(b0 n h0:Nat):StateT NV Sem (Option Nat):=do
 let mut la:=0
 let mut of:=1
 for _ in [0:n]do
  if of>=n - h0 then break
  let some mo <-bey lf ky ar b0 (h0 + of) | return none
  if !mo then break
  la:=of
  of:=2 * of + 1
 jc lf ky ar b0 n (h0 + la + 1) (h0 + min of (n - h0))
noncomputable def xm(lf:Bool)(ky:NQ)(ar:Array NQ)(b0 n h0:Nat):StateT NV Sem (Option Nat):=do
 let mut la:=0
 let mut of:=1
 for _ in [0:n]do
  if of>=h0 + 1 then break
  let some fo <-bey lf ky ar b0 (h0 - of) | return none
  if fo then break
  la:=of
  of:=2 * of + 1
 jc lf ky ar b0 n (h0 + 1 - min of (h0 + 1)) (h0 - la)
theorem Gp(lf:Bool)(ky:NQ)(ar:Array NQ)(b0 n h0:Nat):gal lf ky ar b0 n h0=(do
 let some rt <-bey lf ky ar b0 h0 | return none
 if rt then E9 lf ky ar b0 n h0 else xm lf ky ar b0 n h0):=rfl
section
variable{M:Pz}{A:N_}{E:NK->NO->Prop}{s:NO}
theorem Ge{lf:Bool}{ky:NQ}{ar:Array NQ}{b0 n h0:Nat}{st:NV}{Q:Option Nat->NV->Prop}{bd:Nat->Bool}(hh:h0 < n)(hb:∀(i:Nat) (R:Option Bool->NV->Prop),i < n->R (some (bd i)) st->wpS M A E s (bey lf ky ar b0 i) R st)
  (mono:∀ i j,i<=j->j < n->bd j=true->bd i=true) (h:∀ k,k<=n->(∀ i,i < k->bd i=true)->(∀ i,k<=i->i < n->bd i=false)->Q (some k) st):wpS M A E s (gal lf ky ar b0 n h0) Q st:=by
 rw[Gp]
 have last:∀(l hi:Nat),l<=hi->hi<=n->(∀ i,i < l->bd i=true)->(∀ i,hi<=i->i < n->bd i=false)->wpS M A E s (jc lf ky ar b0 n l hi) Q st:=fun l hi h1 h2 h3 h4=>by
  unfold jc
  dsimp only
  refine NU (Oq (I:=fun x c st'=>st'=st/\∃ l hi,c=(none,l,hi)/\l<=hi/\hi<=n/\hi - l<=n - x/\(∀ i,i < l->bd i=true)/\(∀ i,hi<=i->i < n->bd i=false)) ?_ ?_ ⟨rfl,l,hi,rfl,h1,h2,by lia,h3,h4⟩)
  ·rintro x c st' _ hx ⟨rfl,l,hi,rfl,g1,g2,g3,g4,g5⟩
   dsimp only
   by_cases z:l>=hi
   ·rw[if_pos z]
    have e:l=hi:=by lia
    subst e
    exact NZ (NZ (h l g2 g4 g5))
   rw[if_neg z]
   have m1:l<=l + (hi - l) / 2:=Mn ..
   have m2:l + (hi - l) / 2 < hi:=by omega
   generalize l + (hi - l) / 2=m at m1 m2 ⊢
   have m3:=u_ m2 g2
   refine NU (hb _ _ m3 ?_)
   dsimp only
   cases e:bd m with
   | true=>
    simp only[if_true]
    exact NZ ⟨rfl,_,_,rfl,m2,g2,by lia,fun i hi'=>mono i _ (LH hi') m3 e,g5⟩
   | false=>
    simp only[B_,if_false]
    refine NZ ⟨rfl,_,_,rfl,m1,JI m3,by lia,g4,fun i h1 h2=>?_⟩
    cases e2:bd i with
    | false=>rfl
    | true=>rw[mono _ i h1 h2 e2]at e;cases e
  rintro c st' ⟨rfl,l,hi,rfl,g1,g2,g3,g4,g5⟩
  have e:l=hi:=by lia
  subst e
  exact NZ (h l g2 g4 g5)
 have up:∀ la of,la < of->h0 + la < n->bd (h0 + la)=true->(n - h0<=of\/bd (h0 + of)=false)->wpS M A E s (jc lf ky ar b0 n (h0 + la + 1) (h0 + min of (n - h0))) Q st:=fun la of g1 g3 g4 g5=>by
  have k1:h0 + min of (n - h0)<=n:=by lia
  refine last _ _ (by lia) k1 (fun i hi=>mono i _ (LH hi) g3 g4) (fun i h1 h2=>?_)
  rcases g5 with g5 | g5
  ·rw[Mo g5]at h1
   lia
  cases e2:bd i with
  | false=>rfl
  | true=>rw[mono (h0 + of) i (by lia) h2 e2]at g5;cases g5
 have dwn:∀ la of,la < of->la<=h0->bd (h0 - la)=false->(h0 + 1<=of\/of<=h0/\bd (h0 - of)=true)->wpS M A E s (jc lf ky ar b0 n (h0 + 1 - min of (h0 + 1)) (h0 - la)) Q st:=fun la of g1 g3 g4 g5=>by
  refine last _ _ (by omega) (n_ (Kk ..) (JI hh)) (fun i hi=>?_) (fun i h1 h2=>?_)
  ·rcases g5 with g5 | ⟨g5,g6⟩
   ·rw[Mo g5,Mq]at hi
    exact absurd hi (Nat.not_lt_zero _)
   rw[Ls (M9 g5)]at hi
   exact mono i _ (by lia) (G' (Kk ..) hh) g6
  cases e2:bd i with
  | false=>rfl
  | true=>rw[mono (h0 - la) i h1 h2 e2]at g4;cases g4
 refine NU (hb _ _ hh ?_)
 dsimp only
 cases e0:bd h0 with
 | true=>
  simp only[if_true]
  unfold E9
  dsimp only
  refine NU (Oq (I:=fun x c st'=>st'=st/\∃ la of,c=(none,la,of)/\la < of/\x + 1<=of/\h0 + la < n/\bd (h0 + la)=true) ?_ ?_ ⟨rfl,0,1,rfl,K0,c_ _,hh,e0⟩)
  ·rintro x c st' _ hx ⟨rfl,la,of,rfl,g1,g2,g3,g4⟩
   dsimp only
   by_cases z:of>=n - h0
   ·rw[if_pos z]
    exact NZ (up la of g1 g3 g4 (.inl z))
   rw[if_neg z]
   refine NU (hb _ _ (by lia) ?_)
   dsimp only
   cases e:bd (h0 + of)with
   | false=>
    simp only[ME,if_true]
    exact NZ (up la of g1 g3 g4 (.inr e))
   | true=>
    simp only[MP,B_,if_false]
    exact NZ ⟨rfl,_,_,rfl,by lia,by lia,by lia,e⟩
  ·rintro c st' ⟨rfl,la,of,rfl,g1,g2,g3,g4⟩
   exact up la of g1 g3 g4 (.inl (by lia))
 | false=>
  simp only[B_,if_false]
  unfold xm
  dsimp only
  refine NU (Oq (I:=fun x c st'=>st'=st/\∃ la of,c=(none,la,of)/\la < of/\x + 1<=of/\la<=h0/\bd (h0 - la)=false) ?_ ?_ ⟨rfl,0,1,rfl,K0,c_ _,z_ _,e0⟩)
  ·rintro x c st' _ hx ⟨rfl,la,of,rfl,g1,g2,g3,g4⟩
   dsimp only
   by_cases z:of>=h0 + 1
   ·rw[if_pos z]
    exact NZ (dwn la of g1 g3 g4 (.inl z))
   rw[if_neg z]
   have z:=Nat.lt_succ_iff.mp (Nk z)
   refine NU (hb _ _ (G' (Kk ..) hh) ?_)
   dsimp only
   cases e:bd (h0 - of)with
   | true=>
    simp only[if_true]
    exact NZ (dwn la of g1 g3 g4 (.inr ⟨z,e⟩))
   | false=>
    simp only[B_,if_false]
    exact NZ ⟨rfl,_,_,rfl,by lia,by lia,z,e⟩
  rintro c st' ⟨rfl,la,of,rfl,g1,g2,g3,g4⟩
  exact dwn la of g1 g3 g4 (.inl (by lia))
end
def setG(g:Nat):StateT NV Sem Unit:=modify fun s=>Pj (kindOf s) (NS s) (N6 s) g (Ou s)
def dn(a b out:Array NQ)(i j:Nat):Array NQ:=out++a.extract i a.size++b.extract j b.size
def jg(a b out:Array NQ)(i j:Nat):Array NQ:=out++b.extract j b.size++a.extract i a.size
theorem FJ(a b:Array NQ):mLo a b=(do
 rule "list.sort.merge-lo"
 let mut out:Array NQ:=#[<-Ot b 0]
 let mut i:=0
 let mut j:=1
 if j == b.size then return dn a b out i j
 if i + 1 == a.size then return jg a b out i j
 let mut mg:=RA (<-get)
 for _ in [0:a.size + b.size]do
  let mut ca:=0
  let mut cb:=0
  for _ in [0:a.size + b.size]do
   let some bw <-lt' (<-Ot b j) (<-Ot a i) | return dn a b out i j
   if bw then
    out:=out.push (<-Ot b j);j:=j + 1;cb:=cb + 1;ca:=0
    if j == b.size then return dn a b out i j
    if cb>=mg then break
   else
    out:=out.push (<-Ot a i);i:=i + 1;ca:=ca + 1;cb:=0
    if i + 1 == a.size then return jg a b out i j
    if ca>=mg then break
  rule "list.sort.gallop"
  mg:=mg + 1
  for _ in [0:a.size + b.size]do
   if mg > 1 then mg:=mg - 1
   setG mg
   let some k <-gal false (<-Ot b j) a i (a.size - i) 0 | return dn a b out i j
   ca:=k
   if k > 0 then
    out:=out++a.extract i (i + k);i:=i + k
    if i + 1 == a.size then return jg a b out i j
    if i == a.size then return dn a b out i j
   out:=out.push (<-Ot b j);j:=j + 1
   if j == b.size then return dn a b out i j
   let some k <-gal true (<-Ot a i) b j (b.size - j) 0 | return dn a b out i j
   cb:=k
   if k > 0 then
    out:=out++b.extract j (j + k);j:=j + k
    if j == b.size then return dn a b out i j
   out:=out.push (<-Ot a i);i:=i + 1
   if i + 1 == a.size then return jg a b out i j
   if ca < 7 && cb < 7 then break
  mg:=mg + 1
  setG mg
 unsupported "internal:list.sort.merge-bound"):=rfl
abbrev GS:=Option (Array NQ) × Array NQ × Nat × Nat × Nat × Nat × Nat
abbrev FS:=Option (Array NQ) × Array NQ × Nat × Nat × Nat × Nat
abbrev OS:=Option (Array NQ) × Array NQ × Nat × Nat × Nat
noncomputable def g3(a b out:Array NQ)(i j mg ca cb:Nat):StateT NV Sem (ForInStep GS):=do
 let y <-Ot a i
 if(i + 1 + 1 == a.size)=true then pure (NX (some (jg a b (out.push y) (i + 1) j),out.push y,i + 1,j,mg,ca,cb))
 else if(decide (ca < 7) && decide (cb < 7))=true then pure (NX (none,out.push y,i + 1,j,mg,ca,cb))
 else pure (N8 (none,out.push y,i + 1,j,mg,ca,cb))
noncomputable def g2(a b out:Array NQ)(i j mg ca cb:Nat):StateT NV Sem (ForInStep GS):=do
 let y <-Ot b j
 if(j + 1 == b.size)=true then pure (NX (some (dn a b (out.push y) i (j + 1)),out.push y,i,j + 1,mg,ca,cb))
 else do
  let z <-Ot a i
  let some k <-gal true z b (j + 1) (b.size - (j + 1)) 0 | pure (NX (some (dn a b (out.push y) i (j + 1)),out.push y,i,j + 1,mg,ca,cb))
  if k > 0 then
    if(j + 1 + k == b.size)=true then pure (NX (some (dn a b (out.push y++b.extract (j + 1) (j + 1 + k)) i (j + 1 + k)),out.push y++b.extract (j + 1) (j + 1 + k),i,j + 1 + k,mg,ca,k))
    else g3 a b (out.push y++b.extract (j + 1) (j + 1 + k)) i (j + 1 + k) mg ca k
  else g3 a b (out.push y) i (j + 1) mg ca k
noncomputable def g1(a b out:Array NQ)(i j mg ca cb:Nat):StateT NV Sem (ForInStep GS):=do
 setG mg
 let y <-Ot b j
 let some k <-gal false y a i (a.size - i) 0 | pure (NX (some (dn a b out i j),out,i,j,mg,ca,cb))
 if k > 0 then
   if(i + k + 1 == a.size)=true then pure (NX (some (jg a b (out++a.extract i (i + k)) (i + k) j),out++a.extract i (i + k),i + k,j,mg,k,cb))
   else if(i + k == a.size)=true then pure (NX (some (dn a b (out++a.extract i (i + k)) (i + k) j),out++a.extract i (i + k),i + k,j,mg,k,cb))
   else g2 a b (out++a.extract i (i + k)) (i + k) j mg k cb
 else g2 a b out i j mg k cb
noncomputable def f1(a b out:Array NQ)(i j ca cb mg:Nat):StateT NV Sem (ForInStep FS):=do
 let y <-Ot b j
 let z <-Ot a i
 let some bw <-lt' y z | pure (NX (some (dn a b out i j),out,i,j,ca,cb))
 if bw=true then do
   let y <-Ot b j
   if(j + 1 == b.size)=true then pure (NX (some (dn a b (out.push y) i (j + 1)),out.push y,i,j + 1,0,cb + 1))
   else if cb + 1>=mg then pure (NX (none,out.push y,i,j + 1,0,cb + 1))else pure (N8 (none,out.push y,i,j + 1,0,cb + 1))
 else do
   let z <-Ot a i
   if(i + 1 + 1 == a.size)=true then pure (NX (some (jg a b (out.push z) (i + 1) j),out.push z,i + 1,j,ca + 1,0))
   else if ca + 1>=mg then pure (NX (none,out.push z,i + 1,j,ca + 1,0))else pure (N8 (none,out.push z,i + 1,j,ca + 1,0))
noncomputable def oLo(a b:Array NQ)(c:OS):StateT NV Sem (ForInStep OS):=do
 let r <-forIn [0:a.size + b.size] ((none,c.2.1,c.2.2.1,c.2.2.2.1,0,0):FS) fun _ d=>f1 a b d.2.1 d.2.2.1 d.2.2.2.1 d.2.2.2.2.1 d.2.2.2.2.2 c.2.2.2.2
 match r.1 with
 | some q=>pure (NX (some q,r.2.1,r.2.2.1,r.2.2.2.1,c.2.2.2.2))
 | none=>do
  liftM (rule "list.sort.gallop")
  let e <-forIn [0:a.size + b.size] ((none,r.2.1,r.2.2.1,r.2.2.2.1,c.2.2.2.2 + 1,r.2.2.2.2.1,r.2.2.2.2.2):GS) fun _ d=>
   if d.2.2.2.2.1 > 1 then g1 a b d.2.1 d.2.2.1 d.2.2.2.1 (d.2.2.2.2.1 - 1) d.2.2.2.2.2.1 d.2.2.2.2.2.2 else g1 a b d.2.1 d.2.2.1 d.2.2.2.1 d.2.2.2.2.1 d.2.2.2.2.2.1 d.2.2.2.2.2.2
  match e.1 with
  | some q=>pure (NX (some q,e.2.1,e.2.2.1,e.2.2.2.1,e.2.2.2.2.1))
  | none=>do
   setG (e.2.2.2.2.1 + 1)
   pure (N8 (none,e.2.1,e.2.2.1,e.2.2.2.1,e.2.2.2.2.1 + 1))
set_option maxHeartbeats 2000000 in
theorem Du(a b:Array NQ):mLo a b=(do
  liftM (rule "list.sort.merge-lo")
  let y <-Ot b 0
  if(1 == b.size)=true then pure (dn a b #[y] 0 1)
  else if(0 + 1 == a.size)=true then pure (jg a b #[y] 0 1)
  else do
   let st <-get
   let r <-forIn [0:a.size + b.size] ((none,#[y],0,1,RA st):OS) fun _ c=>oLo a b c
   match r.1 with
   | some q=>pure q
   | none=>liftM (unsupported "internal:list.sort.merge-bound":Sem (Array NQ))):=by
 rw[FJ]
 unfold oLo
 refine congrArg (bind _) (funext fun _=>?_)
 refine congrArg (bind _) (funext fun y=>?_)
 refine ite_congr rfl (fun _=>rfl) (fun _=>?_)
 refine ite_congr rfl (fun _=>rfl) (fun _=>?_)
 refine congrArg (bind _) (funext fun st=>?_)
 refine congr (congrArg bind (congrArg (forIn _ _) (funext fun _=>funext fun c=>?_))) ?_
 ·refine congr (congrArg bind (congrArg (forIn _ _) (funext fun _=>funext fun d=>?_))) ?_
  ·unfold f1
   rfl
  funext r
  obtain⟨r1,r2⟩:=r
  cases r1 with
  | some q=>rfl
  | none=>
   refine congrArg (bind _) (funext fun _=>?_)
   refine congr (congrArg bind (congrArg (forIn _ _) (funext fun _=>funext fun d=>?_))) ?_
   ·
    unfold g1
    refine ite_congr rfl (fun _=>?_) (fun _=>?_)
    all_goals
     refine congrArg (bind _) (funext fun _=>?_)
     refine congrArg (bind _) (funext fun y=>?_)
     refine congrArg (bind _) (funext fun r=>?_)
     cases r with
     | none=>rfl
     | some k=>
      refine ite_congr rfl (fun _=>?_) (fun _=>?_)
      ·refine ite_congr rfl (fun _=>rfl) (fun _=>?_)
       refine ite_congr rfl (fun _=>rfl) (fun _=>?_)
       unfold g2
       rfl
      unfold g2
      rfl
   funext e;obtain⟨e1,e2⟩:=e;cases e1 <;> rfl
 funext e;obtain⟨e1,e2⟩:=e;cases e1 <;> rfl
def f6(M:Pz)(A:N_)(E:NK->NO->Prop)(s:NO)(kd:ON)(rk:NQ->Nat)(S:NQ->Prop):Prop:=
 ∀(x y:NQ) (st:NV) (Q:Option Bool->NV->Prop),S x->S y->kindOf st=kd->Q (some (decide (rk x < rk y))) st->wpS M A E s (lt' x y) Q st
structure Keep (st st':NV):Prop where
 k:kindOf st'=kindOf st
 a:NS st'=NS st
 p:N6 st'=N6 st
 f:Ou st'=Ou st
theorem Keep.d6 {st:NV}:Keep st st:=⟨rfl,rfl,rfl,rfl⟩
theorem Keep.g {st st':NV}(h:Keep st st')(g:Nat):Keep st (Pj (kindOf st') (NS st') (N6 st') g (Ou st')):=⟨h.k,h.a,h.p,h.f⟩
section
variable{rk:NQ->Nat}
abbrev Srt(rk:NQ->Nat)(l:List NQ):Prop:=l.Pairwise fun x y=>rk x<=rk y
structure MS (rk:NQ->Nat) (a b out:List NQ) (i j:Nat):Prop where
 perm:out.Perm (a.take i++b.take j)
 srt:Srt rk out
 le:∀ x∈out,(∀ y∈a.drop i,rk x<=rk y)/\∀ y∈b.drop j,rk x<=rk y
def Res(rk:NQ->Nat)(a b r:List NQ):Prop:=r.Perm (a++b)/\Srt rk r
theorem MS.qH {a b out:List NQ}{i j k:Nat}(h:MS rk a b out i j)(sa:Srt rk a)(hc:∀ y∈(a.drop i).take k,∀ z∈b.drop j,rk y<=rk z):MS rk a b (out++(a.drop i).take k) (i + k) j:=by
 have sd:Srt rk (a.drop i):=JT (K_ _ _) sa
 have split:a.drop i=(a.drop i).take k++a.drop (i + k):=by rw[<-LC];exact(E_ k (a.drop i)).symm
 refine⟨?_,?_,fun x hx=>?_⟩
 ·rw[Mb]
  refine(h.perm.append_right _).trans ?_
  rw[i_,i_]
  exact JM _ JX
 ·refine B'.mpr ⟨h.srt,JT (K6 _ _) sd,fun x hx y hy=>(h.le x hx).1 y (Ke hy)⟩
 rcases D_.mp hx with hx | hx
 ·refine⟨fun y hy=>(h.le x hx).1 y ?_,(h.le x hx).2⟩
  rw[split]
  exact q_ _ hy
 refine⟨fun y hy=>?_,hc x hx⟩
 rw[split]at sd
 exact(B'.mp sd).2.2 x hx y hy
theorem MS.qy {a b out:List NQ}{i j k:Nat}(h:MS rk a b out i j)(sb:Srt rk b)(hc:∀ y∈(b.drop j).take k,∀ z∈a.drop i,rk y<=rk z):MS rk a b (out++(b.drop j).take k) i (j + k):=by
 have sd:Srt rk (b.drop j):=JT (K_ _ _) sb
 have split:b.drop j=(b.drop j).take k++b.drop (j + k):=by rw[<-LC];exact(E_ k (b.drop j)).symm
 refine⟨?_,?_,fun x hx=>?_⟩
 ·rw[Mb,<-i_]
  exact h.perm.append_right _
 ·refine B'.mpr ⟨h.srt,JT (K6 _ _) sd,fun x hx y hy=>(h.le x hx).2 y (Ke hy)⟩
 rcases D_.mp hx with hx | hx
 ·refine⟨(h.le x hx).1,fun y hy=>(h.le x hx).2 y ?_⟩
  rw[split]
  exact q_ _ hy
 refine⟨hc x hx,fun y hy=>?_⟩
 rw[split]at sd
 exact(B'.mp sd).2.2 x hx y hy
theorem MS.all {a b out:List NQ}{i j:Nat}(h:MS rk a b out i j)(h1:a.length<=i)(h2:b.length<=j):Res rk a b out:=by
 have:=h.perm
 rw[J' h1,J' h2]at this
 exact⟨this,h.srt⟩
theorem jF{l:List NQ}(i:Nat):(l.drop i).take l.length=l.drop i:=J' (by rw[C'];lia)
theorem MS.done {a b out:List NQ}{i j:Nat}(h:MS rk a b out i j)(sa:Srt rk a)(sb:Srt rk b)(e:a.length<=i\/b.length<=j):Res rk a b (out++a.drop i++b.drop j):=by
 have h1:=h.qH (k:=a.length) sa fun y hy z hz=>by
  rcases e with e | e
  ·rw[Kh e]at hy;simp at hy
  rw[Kh e]at hz;simp at hz
 have h2:=h1.qy (k:=b.length) sb fun y hy z hz=>by
  rw[Kh (by lia)]at hz;simp at hz
 rw[jF,jF]at h2
 exact h2.all (by lia) (by lia)
theorem MS.last {a b out:List NQ}{i j:Nat}(h:MS rk a b out i j)(sa:Srt rk a)(sb:Srt rk b)(e:∀ y∈b.drop j,∀ z∈a.drop i,rk y<=rk z):Res rk a b (out++b.drop j++a.drop i):=by
 have h1:=h.qy (k:=b.length) sb fun y hy z hz=>e y (Ke hy) z hz
 have h2:=h1.qH (k:=a.length) sa fun y hy z hz=>by
  rw[Kh (by lia)]at hz;simp at hz
 rw[jF,jF]at h2
 exact h2.all (by lia) (by lia)
theorem mF(a:Array NQ)(i:Nat):(a.extract i a.size).toList=a.toList.drop i:=by
 rw[Lj,KH]
 exact J' (by rw[C',g_];exact c_ _)
theorem kg(a:Array NQ)(i k:Nat):(a.extract i (i + k)).toList=(a.toList.drop i).take k:=by
 rw[Lj,KH,LD]
theorem drop_one{l:List NQ}{i:Nat}{y:NQ}(h:l[i]?=some y):(l.drop i).take 1=[y]:=by
 obtain⟨hl,e⟩:=f_.mp h
 rw[KI hl,List.take_succ_cons,List.take_zero,e]
theorem rA{l:List NQ}{i:Nat}{y:NQ}(h:l[i]?=some y)(s:Srt rk l):∀ z∈l.drop i,rk y<=rk z:=by
 obtain⟨hl,e⟩:=f_.mp h
 intro z hz
 have sd:Srt rk (l.drop i):=JT (K_ _ _) s
 rw[KI hl,e]at sd hz
 rcases t_.mp hz with rfl | hz
 ·exact c_ _
 exact(Kv.mp sd).1 z hz
theorem nM{l:List NQ}(s:Srt rk l){i j:Nat}{x y:NQ}(hij:i<=j)(hx:l[i]?=some x)(hy:l[j]?=some y):rk x<=rk y:=by
 refine rA hx s y ?_
 rw[Le]
 exact⟨j - i,by rw[KY,show i + (j - i)=j by lia];exact hy⟩
theorem fJ{l:List NQ}{i k:Nat}{y:NQ}(h:y∈(l.drop i).take k):∃ j,j < k/\l[i + j]?=some y:=by
 obtain⟨j,hj⟩:=Le.mp h
 rw[KZ]at hj
 split at hj
 ·next hlt=>exact⟨j,hlt,by rw[KY]at hj;exact hj⟩
 cases hj
theorem iY{l:List NQ}{i:Nat}{y:NQ}(h:y∈l.drop i):∃ j,l[i + j]?=some y:=by
 obtain⟨j,hj⟩:=Le.mp h
 exact⟨j,by rw[KY]at hj;exact hj⟩
end
section
variable{M:Pz}{A:N_}{E:NK->NO->Prop}{s:NO}{kd:ON}{rk:NQ->Nat}{S:NQ->Prop}
theorem bf{ar:Array NQ}{i:Nat}{p:NQ}{st:NV}{Q:NQ->NV->Prop}(h:ar[i]?=some p)(q:Q p st):wpS M A E s (Ot ar i) Q st:=by
 rw[elem'_eq,h]
 exact NZ q
theorem F8{lf:Bool}{ky p:NQ}{ar:Array NQ}{b0 i:Nat}{st:NV}{Q:Option Bool->NV->Prop}(L:f6 M A E s kd rk S)(hk:kindOf st=kd)(hp:ar[b0 + i]?=some p)(Sp:S p)(Sk:S ky)
  (q:Q (some (if lf=true then decide (rk p < rk ky)else !decide (rk ky < rk p))) st):wpS M A E s (bey lf ky ar b0 i) Q st:=by
 unfold bey
 refine NU (bf hp ?_)
 cases lf with
 | true=>exact L p ky st _ Sp Sk hk q
 | false=>exact NU (L ky p st _ Sk Sp hk (NZ q))
theorem jd{lf:Bool}{ky:NQ}{ar:Array NQ}{b0 n h0:Nat}{st:NV}{Q:Option Nat->NV->Prop}(L:f6 M A E s kd rk S)(hk:kindOf st=kd)(hh:h0 < n)(hsz:b0 + n<=ar.size)(Sa:∀(i:Nat) p,ar[i]?=some p->S p)(Sk:S ky)
  (srt:∀(i j:Nat) p q,i<=j->j < n->ar[b0 + i]?=some p->ar[b0 + j]?=some q->rk p<=rk q)
  (h:∀ k,k<=n->(∀(i:Nat) p,i < k->ar[b0 + i]?=some p->if lf=true then rk p < rk ky else rk p<=rk ky)->(∀(i:Nat) p,k<=i->i < n->ar[b0 + i]?=some p->if lf=true then rk ky<=rk p else rk ky < rk p)->Q (some k) st) :
  wpS M A E s (gal lf ky ar b0 n h0) Q st:=by
 have get:∀ i,i < n->ar[b0 + i]?=some (ar.getD (b0 + i) (Om,Om)):=fun i hi=>by
  rw[Array.getD_eq_getD_getElem?,x_ (by lia)]
  rfl
 refine Ge (bd:=fun i=>if lf=true then decide (rk (ar.getD (b0 + i) (Om,Om)) < rk ky)else !decide (rk ky < rk (ar.getD (b0 + i) (Om,Om)))) hh (fun i R hi r=>F8 L hk (get i hi) (Sa _ _ (get i hi)) Sk r) ?_ ?_
 ·intro i j hij hj hb
  have:=srt i j _ _ hij hj (get i (by lia)) (get j hj)
  cases lf with
  | true=>
   simp only[if_true,decide_eq_true_eq]at hb ⊢
   lia
  | false=>
   simp only[B_,if_false,Bool.not_eq_true',decide_eq_false_iff_not]at hb ⊢
   lia
 intro k hk' h1 h2
 refine h k hk' (fun i p hi hp=>?_) (fun i p h3 h4 hp=>?_)
 ·have e:=get i (by lia)
  rw[hp]at e
  cases e
  have:=h1 i hi
  cases lf with
  | true=>simpa using this
  | false=>simpa using this
 have e:=get i h4
 rw[hp]at e
 cases e
 have:=h2 i h3 h4
 cases lf with
 | true=>simpa using this
 | false=>simpa using this
theorem mE{g:Nat}{st:NV}{Q:Unit->NV->Prop}(q:Q () (Pj (kindOf st) (NS st) (N6 st) g (Ou st))):wpS M A E s (setG g) Q st:=QK q
end
section
variable{M:Pz}{A:N_}{E:NK->NO->Prop}{s:NO}{kd:ON}{rk:NQ->Nat}{S:NQ->Prop}{a b:Array NQ}
structure LoOk (rk:NQ->Nat) (S:NQ->Prop) (a b:Array NQ):Prop where
 sa:Srt rk a.toList
 sb:Srt rk b.toList
 Sa:∀(i:Nat) p,a[i]?=some p->S p
 Sb:∀(i:Nat) p,b[i]?=some p->S p
 pa:0 < a.size
 pb:0 < b.size
 first:∀ p,b[0]?=some p->∀ z∈a.toList,rk p<=rk z
 last:∀ p,a[a.size - 1]?=some p->∀ z∈b.toList,rk z<=rk p
theorem LoOk.m7 (h:LoOk rk S a b){out:Array NQ}{i j:Nat}(m:MS rk a.toList b.toList out.toList i j)(e:i + 1=a.size):Res rk a.toList b.toList (jg a b out i j).toList:=by
 unfold jg
 rw[JN,JN,mF,mF]
 refine m.last h.sa h.sb fun y hy z hz=>?_
 obtain⟨k,hk⟩:=iY hz
 have hk':i + k < a.toList.length:=(f_.mp hk).1
 rw[g_]at hk'
 have k0:k=0:=by lia
 subst k0
 refine h.last z ?_ y (KG hy)
 rw[<-i',show a.size - 1=i + 0 by lia]
 exact hk
theorem LoOk.jW (h:LoOk rk S a b){out:Array NQ}{i j:Nat}(m:MS rk a.toList b.toList out.toList i j)(e:a.size<=i\/b.size<=j):Res rk a.toList b.toList (dn a b out i j).toList:=by
 unfold dn
 rw[JN,JN,mF,mF]
 exact m.done h.sa h.sb (by rw[g_,g_];exact e)
structure LI (rk:NQ->Nat) (a b out:Array NQ) (i j:Nat):Prop where
 m:MS rk a.toList b.toList out.toList i j
 i:i + 1 < a.size
 j:j < b.size
theorem MS.lx {out:Array NQ}{i j:Nat}(m:MS rk a.toList b.toList out.toList i j)(H:LoOk rk S a b){y:NQ}(hy:b[j]?=some y)(hc:∀ z∈a.toList.drop i,rk y<=rk z):MS rk a.toList b.toList (out.push y).toList i (j + 1):=by
 have hy':b.toList[j]?=some y:=by rw[i'];exact hy
 have:=m.qy (k:=1) H.sb (by rw[drop_one hy'];intro w hw;rw[C_.mp hw];exact hc)
 rw[drop_one hy']at this
 rw[K']
 exact this
theorem MS.kS {out:Array NQ}{i j:Nat}(m:MS rk a.toList b.toList out.toList i j)(H:LoOk rk S a b){y:NQ}(hy:a[i]?=some y)(hc:∀ z∈b.toList.drop j,rk y<=rk z):MS rk a.toList b.toList (out.push y).toList (i + 1) j:=by
 have hy':a.toList[i]?=some y:=by rw[i'];exact hy
 have:=m.qH (k:=1) H.sa (by rw[drop_one hy'];intro w hw;rw[C_.mp hw];exact hc)
 rw[drop_one hy']at this
 rw[K']
 exact this
theorem jM{l:Array NQ}{i:Nat}{y:NQ}(srt:Srt rk l.toList)(hy:l[i]?=some y):∀ z∈l.toList.drop i,rk y<=rk z:=rA (by rw[i'];exact hy) srt
def ij(rk:NQ->Nat)(a b:Array NQ)(lo:Nat)(st:NV)(r:Option (Array NQ))(out:Array NQ)(i j:Nat)(st':NV):Prop:=
 Keep st st'/\match r with
 | some q=>Res rk a.toList b.toList q.toList
 | none=>LI rk a b out i j/\lo < i + j
theorem HJ{out:Array NQ}{i j ca cb mg:Nat}{st st':NV}{Q:ForInStep FS->NV->Prop}(L:f6 M A E s kd rk S)(H:LoOk rk S a b)(hk:kindOf st=kd)(K:Keep st st')(I:LI rk a b out i j)
  (h:∀(d:Bool) (c:FS),ij rk a b (i + j) st c.1 c.2.1 c.2.2.1 c.2.2.2.1 st'->(d=false->c.1=none)->Q (if d=true then NX c else N8 c) st'):wpS M A E s (f1 a b out i j ca cb mg) Q st':=by
 have hi:i < a.size:=by have:=I.i;lia
 obtain⟨y,hy⟩:∃ y,b[j]?=some y:=⟨_,x_ I.j⟩
 obtain⟨z,hz⟩:∃ z,a[i]?=some z:=⟨_,x_ hi⟩
 unfold f1
 refine NU (bf hy (NU (bf hz (NU (L y z st' _ (H.Sb _ _ hy) (H.Sa _ _ hz) (K.k.trans hk) ?_)))))
 dsimp only
 by_cases w:rk y < rk z
 ·rw[decide_eq_true w,if_pos rfl]
  have m:=I.m.lx H hy fun u hu=>n_ (JI w) (jM H.sa hz u hu)
  refine NU (bf hy ?_)
  by_cases e:j + 1=b.size
  ·rw[if_pos (by rw[e];exact beq_self_eq_true _)]
   exact NZ (h true _ ⟨K,H.jW m (.inr (by lia))⟩ (fun z=>nomatch z))
  rw[if_neg (by simpa using e)]
  have I2:LI rk a b (out.push y) i (j + 1):=⟨m,I.i,by have:=I.j;lia⟩
  split
  ·exact NZ (h true _ ⟨K,I2,by dsimp only;lia⟩ (fun z=>nomatch z))
  exact NZ (h false _ ⟨K,I2,by dsimp only;lia⟩ (fun _=>rfl))
 rw[decide_eq_false w,if_neg (by simp)]
 have m:=I.m.kS H hz fun u hu=>n_ (by lia) (jM H.sb hy u hu)
 refine NU (bf hz ?_)
 by_cases e:i + 1 + 1=a.size
 ·rw[if_pos (by rw[e];exact beq_self_eq_true _)]
  exact NZ (h true _ ⟨K,H.m7 m e⟩ (fun z=>nomatch z))
 rw[if_neg (by simpa using e)]
 have I2:LI rk a b (out.push z) (i + 1) j:=⟨m,by have:=I.i;lia,I.j⟩
 split
 ·exact NZ (h true _ ⟨K,I2,by dsimp only;lia⟩ (fun z=>nomatch z))
 exact NZ (h false _ ⟨K,I2,by dsimp only;lia⟩ (fun _=>rfl))
theorem E6{out:Array NQ}{i j mg ca cb lo:Nat}{st st':NV}{Q:ForInStep GS->NV->Prop}(H:LoOk rk S a b)(K:Keep st st')(I:LI rk a b out i j)(hc:∀ z,a[i]?=some z->∀ u∈b.toList.drop j,rk z<=rk u)(hl:lo<=i + j)
  (h:∀(d:Bool) (c:GS),ij rk a b lo st c.1 c.2.1 c.2.2.1 c.2.2.2.1 st'->(d=false->c.1=none)->Q (if d=true then NX c else N8 c) st'):wpS M A E s (g3 a b out i j mg ca cb) Q st':=by
 have hi:i < a.size:=by have:=I.i;lia
 obtain⟨z,hz⟩:∃ z,a[i]?=some z:=⟨_,x_ hi⟩
 unfold g3
 have m:=I.m.kS H hz (hc z hz)
 refine NU (bf hz ?_)
 by_cases e:i + 1 + 1=a.size
 ·rw[if_pos (by rw[e];exact beq_self_eq_true _)]
  exact NZ (h true _ ⟨K,H.m7 m e⟩ (fun z=>nomatch z))
 rw[if_neg (by simpa using e)]
 have I2:LI rk a b (out.push z) (i + 1) j:=⟨m,by have:=I.i;lia,I.j⟩
 split
 ·exact NZ (h true _ ⟨K,I2,by dsimp only;lia⟩ (fun z=>nomatch z))
 exact NZ (h false _ ⟨K,I2,by dsimp only;lia⟩ (fun _=>rfl))
theorem Ec{out:Array NQ}{i j mg ca cb lo:Nat}{st st':NV}{Q:ForInStep GS->NV->Prop}(L:f6 M A E s kd rk S)(H:LoOk rk S a b)(hk:kindOf st=kd)(K:Keep st st')(I:LI rk a b out i j)(hc:∀ y,b[j]?=some y->∀ u∈a.toList.drop i,rk y<=rk u)(hl:lo<=i + j)
  (h:∀(d:Bool) (c:GS),ij rk a b lo st c.1 c.2.1 c.2.2.1 c.2.2.2.1 st'->(d=false->c.1=none)->Q (if d=true then NX c else N8 c) st'):wpS M A E s (g2 a b out i j mg ca cb) Q st':=by
 have hi:i < a.size:=by have:=I.i;lia
 obtain⟨y,hy⟩:∃ y,b[j]?=some y:=⟨_,x_ I.j⟩
 obtain⟨z,hz⟩:∃ z,a[i]?=some z:=⟨_,x_ hi⟩
 unfold g2
 have m:=I.m.lx H hy (hc y hy)
 refine NU (bf hy ?_)
 by_cases e:j + 1=b.size
 ·rw[if_pos (by rw[e];exact beq_self_eq_true _)]
  exact NZ (h true _ ⟨K,H.jW m (.inr (by lia))⟩ (fun z=>nomatch z))
 rw[if_neg (by simpa using e)]
 have hj:j + 1 < b.size:=by have:=I.j;lia
 refine NU (bf hz (NU (jd L (K.k.trans hk) (by lia) (by lia) H.Sb (H.Sa _ _ hz) (fun p q x w h1 h2 h3 h4=>nM H.sb (i:=j + 1 + p) (j:=j + 1 + q) (by(clear h4 h3 h2 hj e m hz hy hi h hl hc I K hk H L;lia)) (by rw[i'];exact h3) (by rw[i'];exact h4)) fun k k1 k2 k3=>?_)))
 dsimp only
 have after:∀ u∈b.toList.drop (j + 1 + k),rk z<=rk u:=fun u hu=>by
  obtain⟨p,hp⟩:=iY hu
  rw[i']at hp
  have hlt:j + 1 + k + p < b.size:=(Mc.mp hp).1
  have:=k3 (k + p) u (by lia) (by(clear hp hu k3 k2 k1 hj e m hz hy hi h hl hc I K hk H L;lia)) (by rw[show j + 1 + (k + p)=j + 1 + k + p by(clear hlt hp hu k3 k2 k1 hj e m hz hy hi h hl hc I K hk H L;lia)];exact hp)
  simpa using this
 by_cases pk:k > 0
 ·rw[if_pos pk]
  have m2:MS rk a.toList b.toList (out.push y++b.extract (j + 1) (j + 1 + k)).toList i (j + 1 + k):=by
   rw[JN,kg]
   refine m.qy H.sb fun u hu w hw=>?_
   obtain⟨p,hp1,hp⟩:=fJ hu
   rw[i']at hp
   have:=k2 p u hp1 hp
   simp only[if_true]at this
   exact n_ (JI this) (jM H.sa hz w hw)
  by_cases e2:j + 1 + k=b.size
  ·rw[if_pos (by rw[e2];exact beq_self_eq_true _)]
   exact NZ (h true _ ⟨K,H.jW m2 (.inr (by(clear m2 pk after k3 k2 k1 hj e m hz hy hi h hl hc I K hk H L;lia)))⟩ (fun z=>nomatch z))
  rw[if_neg (by simpa using e2)]
  refine E6 H K ⟨m2,I.i,by(clear m2 after k3 k2 hj e m hz hy hi h hl hc I K hk H L;lia)⟩ (fun z' hz'=>?_) (by(clear e2 m2 pk after k3 k2 k1 hj e m hz hy hi h hc I K hk H L;lia)) h
  rw[hz]at hz'
  cases hz'
  exact after
 rw[if_neg pk]
 have k0:k=0:=by lia
 subst k0
 refine E6 H K ⟨m,I.i,by(clear pk after k3 k2 k1 e m hz hy hi h hl hc I K hk H L;omega)⟩ (fun z' hz'=>?_) (by lia) h
 rw[hz]at hz'
 cases hz'
 exact after
theorem Iz{out:Array NQ}{i j mg ca cb:Nat}{st st':NV}{Q:ForInStep GS->NV->Prop}(L:f6 M A E s kd rk S)(H:LoOk rk S a b)(hk:kindOf st=kd)(K:Keep st st')(I:LI rk a b out i j)
  (h:∀(d:Bool) (c:GS) (st2:NV),ij rk a b (i + j) st c.1 c.2.1 c.2.2.1 c.2.2.2.1 st2->(d=false->c.1=none)->Q (if d=true then NX c else N8 c) st2):wpS M A E s (g1 a b out i j mg ca cb) Q st':=by
 have hi:i < a.size:=by have:=I.i;lia
 obtain⟨y,hy⟩:∃ y,b[j]?=some y:=⟨_,x_ I.j⟩
 unfold g1
 refine NU (mE (NU (bf hy ?_)))
 have K2:=K.g mg
 revert K2
 generalize Pj (kindOf st') (NS st') (N6 st') mg (Ou st')=st2
 intro K2
 refine NU (jd L (K2.k.trans hk) (by lia) (by lia) H.Sa (H.Sb _ _ hy) (fun p q x w h1 h2 h3 h4=>nM H.sa (i:=i + p) (j:=i + q) (by lia) (by rw[i'];exact h3) (by rw[i'];exact h4)) fun k k1 k2 k3=>?_)
 dsimp only
 have after:∀ u∈a.toList.drop (i + k),rk y<=rk u:=fun u hu=>by
  obtain⟨p,hp⟩:=iY hu
  rw[i']at hp
  have hlt:i + k + p < a.size:=(Mc.mp hp).1
  have:=k3 (k + p) u (by lia) (by lia) (by rw[show i + (k + p)=i + k + p by lia];exact hp)
  simp at this
  lia
 by_cases pk:k > 0
 ·rw[if_pos pk]
  have m2:MS rk a.toList b.toList (out++a.extract i (i + k)).toList (i + k) j:=by
   rw[JN,kg]
   refine I.m.qH H.sa fun u hu w hw=>?_
   obtain⟨p,hp1,hp⟩:=fJ hu
   rw[i']at hp
   have:=k2 p u hp1 hp
   simp at this
   exact n_ this (jM H.sb hy w hw)
  by_cases e1:i + k + 1=a.size
  ·rw[if_pos (by rw[e1];exact beq_self_eq_true _)]
   exact NZ (h true _ _ ⟨K2,H.m7 m2 e1⟩ (fun z=>nomatch z))
  rw[if_neg (by simpa using e1)]
  by_cases e2:i + k=a.size
  ·rw[if_pos (by rw[e2];exact beq_self_eq_true _)]
   exact NZ (h true _ _ ⟨K2,H.jW m2 (.inl (by lia))⟩ (fun z=>nomatch z))
  rw[if_neg (by simpa using e2)]
  refine Ec L H hk K2 ⟨m2,by(clear m2 after k3 k2 K2 hy hi h I K hk H L;lia),I.j⟩ (fun y' hy'=>?_) (by lia) fun d c x1 x2=>h d c _ x1 x2
  rw[hy]at hy'
  cases hy'
  exact after
 rw[if_neg pk]
 have k0:k=0:=by lia
 subst k0
 refine Ec L H hk K2 I (fun y' hy'=>?_) (c_ _) fun d c x1 x2=>h d c _ x1 x2
 rw[hy]at hy'
 cases hy'
 exact after
theorem Fs{st:NV}{Q:Array NQ->NV->Prop}(L:f6 M A E s kd rk S)(H:LoOk rk S a b)(hk:kindOf st=kd)(h:∀ r st',Keep st st'->Res rk a.toList b.toList r.toList->Q r st')(hr:∀ x,NT M A (rule x) (fun _ s'=>s'=s) E s):wpS M A E s (mLo a b) Q st:=by
 rw[Du]
 obtain⟨y,hy⟩:∃ y,b[0]?=some y:=⟨_,x_ H.pb⟩
 have rl:∀ {x:String} {R:Unit->NV->Prop} {st':NV},R () st'->wpS M A E s (liftM (rule x):StateT NV Sem Unit) R st':=fun{x R st'} q=>QX (Oh (hr x) (fun _ _ z=>⟨z,q⟩) fun _ _ z=>z)
 refine NU (rl (NU (bf hy ?_)))
 have m0:MS rk a.toList b.toList (#[]:Array NQ).toList 0 0:=⟨by simp,LG,fun x hx=>by simp at hx⟩
 have m1:MS rk a.toList b.toList (#[y]:Array NQ).toList 0 1:=m0.lx H hy fun z hz=>H.first y hy z (by simpa using hz)
 by_cases e1:1=b.size
 ·rw[if_pos (by rw[<-e1];rfl)]
  exact NZ (h _ _ .d6 (H.jW m1 (.inr (by lia))))
 rw[if_neg (by simpa using e1)]
 by_cases e2:0 + 1=a.size
 ·rw[if_pos (by rw[<-e2];rfl)]
  exact NZ (h _ _ .d6 (H.m7 m1 e2))
 rw[if_neg (by simpa using e2)]
 refine NU (PQ ?_)
 have pa:=H.pa
 have pb:=H.pb
 refine NU (OO (Oq (I:=fun x (c:OS) st'=>c.1=none/\Keep st st'/\LI rk a b c.2.1 c.2.2.1 c.2.2.2.1/\x < c.2.2.1 + c.2.2.2.1) (Q:=fun(c:OS) st'=>∃ q,c.1=some q/\Keep st st'/\Res rk a.toList b.toList q.toList) ?_ ?_ ⟨rfl,.d6,⟨m1,by dsimp only;lia,by dsimp only;lia⟩,by show 0 < 0 + 1;lia⟩) ?_)
 ·rintro x ⟨c1,out,i,j,mg⟩ st1 _ hx ⟨rfl,K1,I1,px⟩
  unfold oLo
  dsimp only at I1 px ⊢
  refine NU (OO (Oq (I:=fun x (c:FS) st'=>c.1=none/\Keep st st'/\LI rk a b c.2.1 c.2.2.1 c.2.2.2.1/\i + j + x<=c.2.2.1 + c.2.2.2.1) (Q:=fun(c:FS) st'=>ij rk a b (i + j) st c.1 c.2.1 c.2.2.1 c.2.2.2.1 st') ?_ ?_ ⟨rfl,K1,I1,c_ _⟩) ?_)
  ·rintro x2 ⟨d1,out2,i2,j2,ca,cb⟩ st2 _ hx2 ⟨rfl,K2,I2,p2⟩
   dsimp only at I2 p2 ⊢
   refine HJ L H hk K2 I2 fun d c hs hn=>?_
   cases d with
   | true=>
    show ij _ _ _ _ _ _ _ _ _ _
    refine⟨hs.1,?_⟩
    have h2:=hs.2
    cases e:c.1 with
    | some q=>rw[e]at h2;exact h2
    | none=>rw[e]at h2;exact⟨h2.1,by have:=h2.2;(clear e h2 hn hs I2 K2 hx2 px I1 K1 hx pb pa e2 e1 m1 m0 rl hy hr h hk H L;lia)⟩
   | false=>
    have h2:=hs.2
    rw[hn rfl]at h2
    exact⟨hn rfl,hs.1,h2.1,by have:=h2.2;(clear h2 hn hs I2 K2 hx2 px I1 K1 hx pb pa e2 e1 m1 m0 rl hy hr h hk H L;lia)⟩
  ·rintro⟨c1,out2,i2,j2,ca,cb⟩ st2 ⟨rfl,K2,I2,p2⟩
   dsimp only at I2 p2 ⊢
   have:=I2.i
   have:=I2.j
   (clear I2 K2 px I1 K1 hx pb pa e2 e1 m1 m0 rl hy hr h hk H L;lia)
  rintro⟨c1,out2,i2,j2,ca,cb⟩ st2 ⟨K2,h2⟩
  cases c1 with
  | some q=>exact NZ ⟨q,rfl,K2,h2⟩
  | none=>
   obtain⟨I2,p2⟩:=h2
   dsimp only at I2 p2 ⊢
   refine NU (rl ?_)
   refine NU (OO (Oq (I:=fun _ (c:GS) st'=>c.1=none/\Keep st st'/\LI rk a b c.2.1 c.2.2.1 c.2.2.2.1/\i + j < c.2.2.1 + c.2.2.2.1) (Q:=fun(c:GS) st'=>ij rk a b (i + j) st c.1 c.2.1 c.2.2.1 c.2.2.2.1 st') ?_ ?_ ⟨rfl,K2,I2,p2⟩) ?_)
   ·rintro x3 ⟨d1,out3,i3,j3,mg3,ca3,cb3⟩ st3 _ hx3 ⟨rfl,K3,I3,p3⟩
    dsimp only at I3 p3 ⊢
    have go:∀ mg',wpS M A E s (g1 a b out3 i3 j3 mg' ca3 cb3) (fun r st'=>match r with | .done c'=>ij rk a b (i + j) st c'.1 c'.2.1 c'.2.2.1 c'.2.2.2.1 st' | .yield c'=>c'.1=none/\Keep st st'/\LI rk a b c'.2.1 c'.2.2.1 c'.2.2.2.1/\i + j < c'.2.2.1 + c'.2.2.2.1) st3:=fun mg'=>by
     refine Iz L H hk K3 I3 fun d c st4 hs hn=>?_
     cases d with
     | true=>
      show ij _ _ _ _ _ _ _ _ _ _
      refine⟨hs.1,?_⟩
      have h2:=hs.2
      cases e:c.1 with
      | some q=>rw[e]at h2;exact h2
      | none=>rw[e]at h2;exact⟨h2.1,by have:=h2.2;(clear e h2 hn hs I3 K3 hx3 p2 I2 K2 px I1 K1 hx pb pa e2 e1 m1 m0 rl hy hr h hk H L;lia)⟩
     | false=>
      have h2:=hs.2
      rw[hn rfl]at h2
      exact⟨hn rfl,hs.1,h2.1,by have:=h2.2;(clear h2 hn hs I3 K3 hx3 p2 I2 K2 px I1 K1 hx pb pa e2 e1 m1 m0 rl hy hr h hk H L;lia)⟩
    split
    ·exact OO (go _) fun r st' h=>by cases r <;> exact h
    exact OO (go _) fun r st' h=>by cases r <;> exact h
   ·rintro⟨c1,out3,i3,j3,mg3,ca3,cb3⟩ st3 ⟨rfl,K3,I3,p3⟩
    exact⟨K3,I3,p3⟩
   rintro⟨c1,out3,i3,j3,mg3,ca3,cb3⟩ st3 ⟨K3,h3⟩
   cases c1 with
   | some q=>exact NZ ⟨q,rfl,K3,h3⟩
   | none=>
    obtain⟨I3,p3⟩:=h3
    refine NU (mE (NZ ⟨rfl,K3.g _,I3,?_⟩))
    dsimp only at p3 ⊢
    lia
 ·rintro⟨c1,out,i,j,mg⟩ st1 ⟨rfl,K1,I1,px⟩
  have h1:=I1.i
  have h2:=I1.j
  dsimp only at h1 h2 px
  (clear I1 K1 pb pa e2 e1 m1 m0 rl hy hr h hk H L;lia)
 rintro⟨c1,out,i,j,mg⟩ st1 ⟨q,e,K1,r⟩
 dsimp only at e
 subst e
 exact NZ (h q st1 K1 r)
end
def dnH(a b out:Array NQ)(i j:Nat):Array NQ:=a.extract 0 i++b.extract 0 j++out.reverse
def gC(a b out:Array NQ)(i j:Nat):Array NQ:=b.extract 0 j++a.extract 0 i++out.reverse
theorem Gi(a b:Array NQ):mHi a b=(do
 rule "list.sort.merge-hi"
 let mut i:=a.size - 1
 let mut j:=b.size
 let mut out:Array NQ:=#[<-Ot a i]
 if i == 0 then return dnH a b out i j
 if j == 1 then return gC a b out i j
 let mut mg:=RA (<-get)
 for _ in [0:a.size + b.size]do
  let mut ca:=0
  let mut cb:=0
  for _ in [0:a.size + b.size]do
   let some aw <-lt' (<-Ot b (j - 1)) (<-Ot a (i - 1)) | return dnH a b out i j
   if aw then
    i:=i - 1;out:=out.push (<-Ot a i);ca:=ca + 1;cb:=0
    if i == 0 then return dnH a b out i j
    if ca>=mg then break
   else
    j:=j - 1;out:=out.push (<-Ot b j);cb:=cb + 1;ca:=0
    if j == 1 then return gC a b out i j
    if cb>=mg then break
  rule "list.sort.gallop"
  mg:=mg + 1
  for _ in [0:a.size + b.size]do
   if mg > 1 then mg:=mg - 1
   setG mg
   let some at' <-gal false (<-Ot b (j - 1)) a 0 i (i - 1) | return dnH a b out i j
   let k:=i - at'
   ca:=k
   if k > 0 then
    out:=out++(a.extract at' i).reverse;i:=at'
    if i == 0 then return dnH a b out i j
   j:=j - 1;out:=out.push (<-Ot b j)
   if j == 1 then return gC a b out i j
   let some at' <-gal true (<-Ot a (i - 1)) b 0 j (j - 1) | return dnH a b out i j
   let k:=j - at'
   cb:=k
   if k > 0 then
    out:=out++(b.extract at' j).reverse;j:=at'
    if j == 1 then return gC a b out i j
    if j == 0 then return dnH a b out i j
   i:=i - 1;out:=out.push (<-Ot a i)
   if i == 0 then return dnH a b out i j
   if ca < 7 && cb < 7 then break
  mg:=mg + 1
  setG mg
 unsupported "internal:list.sort.merge-bound"):=rfl
abbrev GT:=Option (Array NQ) × Nat × Nat × Array NQ × Nat × Nat × Nat
abbrev FT:=Option (Array NQ) × Nat × Nat × Array NQ × Nat × Nat
abbrev OT:=Option (Array NQ) × Nat × Nat × Array NQ × Nat
noncomputable def k3(a b out:Array NQ)(i j mg ca cb:Nat):StateT NV Sem (ForInStep GT):=do
 let y <-Ot a (i - 1)
 if(i - 1 == 0)=true then pure (NX (some (dnH a b (out.push y) (i - 1) j),i - 1,j,out.push y,mg,ca,cb))
 else if(decide (ca < 7) && decide (cb < 7))=true then pure (NX (none,i - 1,j,out.push y,mg,ca,cb))
 else pure (N8 (none,i - 1,j,out.push y,mg,ca,cb))
noncomputable def k2(a b out:Array NQ)(i j mg ca cb:Nat):StateT NV Sem (ForInStep GT):=do
 let y <-Ot b (j - 1)
 if(j - 1 == 1)=true then pure (NX (some (gC a b (out.push y) i (j - 1)),i,j - 1,out.push y,mg,ca,cb))
 else do
  let z <-Ot a (i - 1)
  let some at' <-gal true z b 0 (j - 1) (j - 1 - 1) | pure (NX (some (dnH a b (out.push y) i (j - 1)),i,j - 1,out.push y,mg,ca,cb))
  if j - 1 - at' > 0 then
    if(at' == 1)=true then pure (NX (some (gC a b (out.push y++(b.extract at' (j - 1)).reverse) i at'),i,at',out.push y++(b.extract at' (j - 1)).reverse,mg,ca,j - 1 - at'))
    else if(at' == 0)=true then pure (NX (some (dnH a b (out.push y++(b.extract at' (j - 1)).reverse) i at'),i,at',out.push y++(b.extract at' (j - 1)).reverse,mg,ca,j - 1 - at'))
    else k3 a b (out.push y++(b.extract at' (j - 1)).reverse) i at' mg ca (j - 1 - at')
  else k3 a b (out.push y) i (j - 1) mg ca (j - 1 - at')
noncomputable def k1(a b out:Array NQ)(i j mg ca cb:Nat):StateT NV Sem (ForInStep GT):=do
 setG mg
 let y <-Ot b (j - 1)
 let some at' <-gal false y a 0 i (i - 1) | pure (NX (some (dnH a b out i j),i,j,out,mg,ca,cb))
 if i - at' > 0 then
   if(at' == 0)=true then pure (NX (some (dnH a b (out++(a.extract at' i).reverse) at' j),at',j,out++(a.extract at' i).reverse,mg,i - at',cb))
   else k2 a b (out++(a.extract at' i).reverse) at' j mg (i - at') cb
 else k2 a b out i j mg (i - at') cb
noncomputable def e1(a b out:Array NQ)(i j ca cb mg:Nat):StateT NV Sem (ForInStep FT):=do
 let y <-Ot b (j - 1)
 let z <-Ot a (i - 1)
 let some aw <-lt' y z | pure (NX (some (dnH a b out i j),i,j,out,ca,cb))
 if aw=true then do
   let z <-Ot a (i - 1)
   if(i - 1 == 0)=true then pure (NX (some (dnH a b (out.push z) (i - 1) j),i - 1,j,out.push z,ca + 1,0))
   else if ca + 1>=mg then pure (NX (none,i - 1,j,out.push z,ca + 1,0))else pure (N8 (none,i - 1,j,out.push z,ca + 1,0))
 else do
   let y <-Ot b (j - 1)
   if(j - 1 == 1)=true then pure (NX (some (gC a b (out.push y) i (j - 1)),i,j - 1,out.push y,0,cb + 1))
   else if cb + 1>=mg then pure (NX (none,i,j - 1,out.push y,0,cb + 1))else pure (N8 (none,i,j - 1,out.push y,0,cb + 1))
noncomputable def oHi(a b:Array NQ)(c:OT):StateT NV Sem (ForInStep OT):=do
 let r <-forIn [0:a.size + b.size] ((none,c.2.1,c.2.2.1,c.2.2.2.1,0,0):FT) fun _ d=>e1 a b d.2.2.2.1 d.2.1 d.2.2.1 d.2.2.2.2.1 d.2.2.2.2.2 c.2.2.2.2
 match r.1 with
 | some q=>pure (NX (some q,r.2.1,r.2.2.1,r.2.2.2.1,c.2.2.2.2))
 | none=>do
  liftM (rule "list.sort.gallop")
  let e <-forIn [0:a.size + b.size] ((none,r.2.1,r.2.2.1,r.2.2.2.1,c.2.2.2.2 + 1,r.2.2.2.2.1,r.2.2.2.2.2):GT) fun _ d=>
   if d.2.2.2.2.1 > 1 then k1 a b d.2.2.2.1 d.2.1 d.2.2.1 (d.2.2.2.2.1 - 1) d.2.2.2.2.2.1 d.2.2.2.2.2.2 else k1 a b d.2.2.2.1 d.2.1 d.2.2.1 d.2.2.2.2.1 d.2.2.2.2.2.1 d.2.2.2.2.2.2
  match e.1 with
  | some q=>pure (NX (some q,e.2.1,e.2.2.1,e.2.2.2.1,e.2.2.2.2.1))
  | none=>do
   setG (e.2.2.2.2.1 + 1)
   pure (N8 (none,e.2.1,e.2.2.1,e.2.2.2.1,e.2.2.2.2.1 + 1))
set_option maxHeartbeats 2000000 in
theorem D8(a b:Array NQ):mHi a b=(do
  liftM (rule "list.sort.merge-hi")
  let y <-Ot a (a.size - 1)
  if(a.size - 1 == 0)=true then pure (dnH a b #[y] (a.size - 1) b.size)
  else if(b.size == 1)=true then pure (gC a b #[y] (a.size - 1) b.size)
  else do
   let st <-get
   let r <-forIn [0:a.size + b.size] ((none,a.size - 1,b.size,#[y],RA st):OT) fun _ c=>oHi a b c
   match r.1 with
   | some q=>pure q
   | none=>liftM (unsupported "internal:list.sort.merge-bound":Sem (Array NQ))):=by
 rw[Gi]
 unfold oHi
 refine congrArg (bind _) (funext fun _=>?_)
 refine congrArg (bind _) (funext fun y=>?_)
 refine ite_congr rfl (fun _=>rfl) (fun _=>?_)
 refine ite_congr rfl (fun _=>rfl) (fun _=>?_)
 refine congrArg (bind _) (funext fun st=>?_)
 refine congr (congrArg bind (congrArg (forIn _ _) (funext fun _=>funext fun c=>?_))) ?_
 ·refine congr (congrArg bind (congrArg (forIn _ _) (funext fun _=>funext fun d=>?_))) ?_
  ·unfold e1
   rfl
  funext r
  obtain⟨r1,r2⟩:=r
  cases r1 with
  | some q=>rfl
  | none=>
   refine congrArg (bind _) (funext fun _=>?_)
   refine congr (congrArg bind (congrArg (forIn _ _) (funext fun _=>funext fun d=>?_))) ?_
   ·unfold k1
    refine ite_congr rfl (fun _=>?_) (fun _=>?_)
    all_goals
     refine congrArg (bind _) (funext fun _=>?_)
     refine congrArg (bind _) (funext fun y=>?_)
     refine congrArg (bind _) (funext fun r=>?_)
     cases r with
     | none=>rfl
     | some k=>
      refine ite_congr rfl (fun _=>?_) (fun _=>?_)
      ·refine ite_congr rfl (fun _=>rfl) (fun _=>?_)
       unfold k2
       rfl
      unfold k2
      rfl
   funext e;obtain⟨e1,e2⟩:=e;cases e1 <;> rfl
 funext e;obtain⟨e1,e2⟩:=e;cases e1 <;> rfl
section
variable{rk:NQ->Nat}
structure MH (rk:NQ->Nat) (a b o:List NQ) (i j:Nat):Prop where
 perm:o.Perm (a.drop i++b.drop j)
 srt:Srt rk o
 le:∀ x∈o,(∀ y∈a.take i,rk y<=rk x)/\∀ y∈b.take j,rk y<=rk x
theorem tm{l:List NQ}{i t:Nat}(h:t<=i):l.drop t=(l.take i).drop t++l.drop i:=by
 by_cases hi:i<=l.length
 ·have e:=E_ i l
  have h2:(l.take i++l.drop i).drop t=(l.take i).drop t++l.drop i:=LZ (by rw[A_];lia)
  rw[e]at h2
  exact h2
 rw[J' (by lia),Kh (by lia:l.length<=i),JO]
theorem jC{l:List NQ}{i t:Nat}(h:t<=i):l.take i=l.take t++(l.take i).drop t:=by
 have:=E_ t (l.take i)
 rw[List.take_take,Ls h]at this
 exact this.symm
theorem MH.qH {a b o:List NQ}{i j t:Nat}(h:MH rk a b o i j)(sa:Srt rk a)(ht:t<=i)(hc:∀ y∈(a.take i).drop t,∀ z∈b.take j,rk z<=rk y):MH rk a b ((a.take i).drop t++o) t j:=by
 have st:Srt rk (a.take i):=JT (K6 _ _) sa
 refine⟨?_,?_,fun x hx=>?_⟩
 ·rw[tm (l:=a) ht,i_]
  exact JM _ h.perm
 ·exact B'.mpr ⟨JT (K_ _ _) st,h.srt,fun x hx y hy=>(h.le y hy).1 x (KG hx)⟩
 rcases D_.mp hx with hx | hx
 ·refine⟨fun y hy=>?_,hc x hx⟩
  rw[jC ht]at st
  exact(B'.mp st).2.2 y hy x hx
 refine⟨fun y hy=>(h.le x hx).1 y ?_,(h.le x hx).2⟩
 rw[jC ht]
 exact JJ _ hy
theorem MH.qy {a b o:List NQ}{i j t:Nat}(h:MH rk a b o i j)(sb:Srt rk b)(ht:t<=j)(hc:∀ y∈(b.take j).drop t,∀ z∈a.take i,rk z<=rk y):MH rk a b ((b.take j).drop t++o) i t:=by
 have st:Srt rk (b.take j):=JT (K6 _ _) sb
 refine⟨?_,?_,fun x hx=>?_⟩
 ·rw[tm (l:=b) ht]
  refine(JM _ h.perm).trans ?_
  rw[<-i_,<-i_]
  exact MB _ JX
 ·exact B'.mpr ⟨JT (K_ _ _) st,h.srt,fun x hx y hy=>(h.le y hy).2 x (KG hx)⟩
 rcases D_.mp hx with hx | hx
 ·refine⟨hc x hx,fun y hy=>?_⟩
  rw[jC ht]at st
  exact(B'.mp st).2.2 y hy x hx
 refine⟨(h.le x hx).1,fun y hy=>(h.le x hx).2 y ?_⟩
 rw[jC ht]
 exact JJ _ hy
theorem MH.done {a b o:List NQ}{i j:Nat}(h:MH rk a b o i j)(sa:Srt rk a)(sb:Srt rk b)(e:i=0\/j=0):Res rk a b (a.take i++b.take j++o):=by
 have h1:=h.qy (t:=0) sb (z_ _) fun y hy z hz=>by
  rcases e with e | e
  ·rw[e]at hz;simp at hz
  rw[e]at hy;simp at hy
 have h2:=h1.qH (t:=0) sa (z_ _) fun y hy z hz=>by simp at hz
 have p:=h2.perm
 have q:=h2.srt
 simp only[KN]at p q
 rw[i_]
 exact⟨p,q⟩
theorem MH.first {a b o:List NQ}{i j:Nat}(h:MH rk a b o i j)(sa:Srt rk a)(sb:Srt rk b)(e:∀ y∈a.take i,∀ z∈b.take j,rk z<=rk y):Res rk a b (b.take j++a.take i++o):=by
 have h1:=h.qH (t:=0) sa (z_ _) fun y hy z hz=>e y (by rw[KN]at hy;exact hy) z hz
 have h2:=h1.qy (t:=0) sb (z_ _) fun y hy z hz=>by simp at hz
 have p:=h2.perm
 have q:=h2.srt
 simp only[KN]at p q
 rw[i_]
 exact⟨p,q⟩
theorem mz(a:Array NQ)(i:Nat):(a.extract 0 i).toList=a.toList.take i:=by
 rw[Lj,KH,KN,Nat.sub_zero]
theorem xo(a:Array NQ)(t i:Nat):(a.extract t i).toList=(a.toList.take i).drop t:=by
 rw[Lj,KH,List.drop_take]
theorem take_one{l:List NQ}{i:Nat}{y:NQ}(h0:0 < i)(h:l[i - 1]?=some y):(l.take i).drop (i - 1)=[y]:=by
 obtain⟨hl,e⟩:=f_.mp h
 have:l.take i=l.take (i - 1)++[y]:=by
  conv=>lhs;rw[show i=i - 1 + 1 by lia,KA,h]
  rfl
 rw[this,LZ (by rw[A_];omega),Kh (by rw[A_];omega)]
 rfl
theorem j6{l:List NQ}{i:Nat}{y:NQ}(h:y∈l.take i):∃ j,j < i/\l[j]?=some y:=by
 obtain⟨j,hj⟩:=Le.mp h
 rw[KZ]at hj
 split at hj
 ·next hlt=>exact⟨j,hlt,hj⟩
 cases hj
theorem tf{l:List NQ}{t i:Nat}{y:NQ}(h:y∈(l.take i).drop t):∃ j,t<=j/\j < i/\l[j]?=some y:=by
 obtain⟨j,hj⟩:=iY h
 rw[KZ]at hj
 split at hj
 ·next hlt=>exact⟨t + j,by lia,hlt,hj⟩
 cases hj
end
section
variable{M:Pz}{A:N_}{E:NK->NO->Prop}{s:NO}{kd:ON}{rk:NQ->Nat}{S:NQ->Prop}{a b:Array NQ}
abbrev MHo(rk:NQ->Nat)(a b out:Array NQ)(i j:Nat):Prop:=MH rk a.toList b.toList out.toList.reverse i j
theorem LoOk.sQ (h:LoOk rk S a b){out:Array NQ}{i j:Nat}(m:MHo rk a b out i j)(e:i=0\/j=0):Res rk a.toList b.toList (dnH a b out i j).toList:=by
 unfold dnH
 rw[JN,JN,mz,mz,Lk]
 exact m.done h.sa h.sb e
theorem LoOk.qd (h:LoOk rk S a b){out:Array NQ}{i j:Nat}(m:MHo rk a b out i j)(e:j=1):Res rk a.toList b.toList (gC a b out i j).toList:=by
 unfold gC
 rw[JN,JN,mz,mz,Lk]
 refine m.first h.sa h.sb fun y hy z hz=>?_
 subst e
 obtain⟨k,hk,hz'⟩:=j6 hz
 have k0:k=0:=by lia
 subst k0
 exact h.first z (by rw[<-i'];exact hz') y (Ke hy)
structure HI (rk:NQ->Nat) (a b out:Array NQ) (i j:Nat):Prop where
 m:MHo rk a b out i j
 i0:0 < i
 j1:1 < j
 ia:i<=a.size
 jb:j<=b.size
theorem MH.kS {out:Array NQ}{i j:Nat}(m:MHo rk a b out i j)(H:LoOk rk S a b)(h0:0 < i){y:NQ}(hy:a[i - 1]?=some y)(hc:∀ z∈b.toList.take j,rk z<=rk y):MHo rk a b (out.push y) (i - 1) j:=by
 have hy':a.toList[i - 1]?=some y:=by rw[i'];exact hy
 have:=m.qH (t:=i - 1) H.sa (by lia) (by rw[take_one h0 hy'];intro w hw;rw[C_.mp hw];exact hc)
 rw[take_one h0 hy']at this
 show MH _ _ _ (out.push y).toList.reverse _ _
 rw[K',Lo]
 exact this
theorem MH.lx {out:Array NQ}{i j:Nat}(m:MHo rk a b out i j)(H:LoOk rk S a b)(h0:0 < j){y:NQ}(hy:b[j - 1]?=some y)(hc:∀ z∈a.toList.take i,rk z<=rk y):MHo rk a b (out.push y) i (j - 1):=by
 have hy':b.toList[j - 1]?=some y:=by rw[i'];exact hy
 have:=m.qy (t:=j - 1) H.sb (by lia) (by rw[take_one h0 hy'];intro w hw;rw[C_.mp hw];exact hc)
 rw[take_one h0 hy']at this
 show MH _ _ _ (out.push y).toList.reverse _ _
 rw[K',Lo]
 exact this
theorem jO{l:Array NQ}{i:Nat}{y:NQ}(srt:Srt rk l.toList)(hy:l[i - 1]?=some y):∀ z∈l.toList.take i,rk z<=rk y:=fun z hz=>by
 obtain⟨k,hk,hz'⟩:=j6 hz
 exact nM srt (i:=k) (j:=i - 1) (by lia) hz' (by rw[i'];exact hy)
def kq(rk:NQ->Nat)(a b:Array NQ)(lo:Nat)(st:NV)(r:Option (Array NQ))(out:Array NQ)(i j:Nat)(st':NV):Prop:=
 Keep st st'/\match r with
 | some q=>Res rk a.toList b.toList q.toList
 | none=>HI rk a b out i j/\i + j < lo
theorem HI.get (I:HI rk a b out i j):(∃ y,b[j - 1]?=some y)/\∃ z,a[i - 1]?=some z:=
 ⟨⟨_,x_ (u_ (Mf (LR K0 I.j1) K0) I.jb)⟩,⟨_,x_ (u_ (Mf I.i0 K0) I.ia)⟩⟩
theorem Ir{out:Array NQ}{i j ca cb mg:Nat}{st st':NV}{Q:ForInStep FT->NV->Prop}(L:f6 M A E s kd rk S)(H:LoOk rk S a b)(hk:kindOf st=kd)(K:Keep st st')(I:HI rk a b out i j)
  (h:∀(d:Bool) (c:FT),kq rk a b (i + j) st c.1 c.2.2.2.1 c.2.1 c.2.2.1 st'->(d=false->c.1=none)->Q (if d=true then NX c else N8 c) st'):wpS M A E s (e1 a b out i j ca cb mg) Q st':=by
 obtain⟨⟨y,hy⟩,⟨z,hz⟩⟩:=I.get
 have i0:=I.i0
 have j1:=I.j1
 have ia:=I.ia
 have jb:=I.jb
 unfold e1
 refine NU (bf hy (NU (bf hz (NU (L y z st' _ (H.Sb _ _ hy) (H.Sa _ _ hz) (K.k.trans hk) ?_)))))
 dsimp only
 by_cases w:rk y < rk z
 ·rw[decide_eq_true w,if_pos rfl]
  have m:=I.m.kS H i0 hz fun u hu=>n_ (jO H.sb hy u hu) (JI w)
  refine NU (bf hz ?_)
  by_cases e:i - 1=0
  ·rw[if_pos (by rw[e];rfl)]
   exact NZ (h true _ ⟨K,H.sQ m (.inl e)⟩ (fun z=>nomatch z))
  rw[if_neg (by simpa using e)]
  have I2:HI rk a b (out.push z) (i - 1) j:=⟨m,Kd e,j1,n_ (Kk ..) ia,jb⟩
  split
  ·exact NZ (h true _ ⟨K,I2,by dsimp only;lia⟩ (fun z=>nomatch z))
  exact NZ (h false _ ⟨K,I2,by dsimp only;lia⟩ (fun _=>rfl))
 rw[decide_eq_false w,if_neg (by simp)]
 have m:=I.m.lx H (by lia) hy fun u hu=>n_ (jO H.sa hz u hu) (by lia)
 refine NU (bf hy ?_)
 by_cases e:j - 1=1
 ·rw[if_pos (by rw[e];rfl)]
  exact NZ (h true _ ⟨K,H.qd m e⟩ (fun z=>nomatch z))
 rw[if_neg (by simpa using e)]
 have I2:HI rk a b (out.push y) i (j - 1):=⟨m,i0,by lia,ia,n_ (Kk ..) jb⟩
 split
 ·exact NZ (h true _ ⟨K,I2,by dsimp only;lia⟩ (fun z=>nomatch z))
 exact NZ (h false _ ⟨K,I2,by dsimp only;lia⟩ (fun _=>rfl))
theorem DN{out:Array NQ}{i j mg ca cb lo:Nat}{st st':NV}{Q:ForInStep GT->NV->Prop}(H:LoOk rk S a b)(K:Keep st st')(I:HI rk a b out i j)(hc:∀ z,a[i - 1]?=some z->∀ u∈b.toList.take j,rk u<=rk z)(hl:i + j<=lo)
  (h:∀(d:Bool) (c:GT),kq rk a b lo st c.1 c.2.2.2.1 c.2.1 c.2.2.1 st'->(d=false->c.1=none)->Q (if d=true then NX c else N8 c) st'):wpS M A E s (k3 a b out i j mg ca cb) Q st':=by
 obtain⟨⟨y,hy⟩,⟨z,hz⟩⟩:=I.get
 have i0:=I.i0
 have j1:=I.j1
 have ia:=I.ia
 have jb:=I.jb
 unfold k3
 have m:=I.m.kS H i0 hz (hc z hz)
 refine NU (bf hz ?_)
 by_cases e:i - 1=0
 ·rw[if_pos (by rw[e];rfl)]
  exact NZ (h true _ ⟨K,H.sQ m (.inl e)⟩ (fun z=>nomatch z))
 rw[if_neg (by simpa using e)]
 have I2:HI rk a b (out.push z) (i - 1) j:=⟨m,Kd e,j1,n_ (Kk ..) ia,jb⟩
 split
 ·exact NZ (h true _ ⟨K,I2,by dsimp only;lia⟩ (fun z=>nomatch z))
 exact NZ (h false _ ⟨K,I2,by dsimp only;lia⟩ (fun _=>rfl))
theorem MHo.block {out:Array NQ}{i j t:Nat}(m:MHo rk a b out i j)(H:LoOk rk S a b)(ht:t<=j)(hc:∀ y∈(b.toList.take j).drop t,∀ z∈a.toList.take i,rk z<=rk y):MHo rk a b (out++(b.extract t j).reverse) i t:=by
 have:=m.qy H.sb ht hc
 show MH _ _ _ (out++(b.extract t j).reverse).toList.reverse _ _
 rw[JN,Lo,Lk,MJ,xo]
 exact this
theorem MHo.Er {out:Array NQ}{i j t:Nat}(m:MHo rk a b out i j)(H:LoOk rk S a b)(ht:t<=i)(hc:∀ y∈(a.toList.take i).drop t,∀ z∈b.toList.take j,rk z<=rk y):MHo rk a b (out++(a.extract t i).reverse) t j:=by
 have:=m.qH H.sa ht hc
 show MH _ _ _ (out++(a.extract t i).reverse).toList.reverse _ _
 rw[JN,Lo,Lk,MJ,xo]
 exact this
theorem DX{out:Array NQ}{i j mg ca cb lo:Nat}{st st':NV}{Q:ForInStep GT->NV->Prop}(L:f6 M A E s kd rk S)(H:LoOk rk S a b)(hk:kindOf st=kd)(K:Keep st st')(I:HI rk a b out i j)(hc:∀ y,b[j - 1]?=some y->∀ u∈a.toList.take i,rk u<=rk y)(hl:i + j<=lo)
  (h:∀(d:Bool) (c:GT),kq rk a b lo st c.1 c.2.2.2.1 c.2.1 c.2.2.1 st'->(d=false->c.1=none)->Q (if d=true then NX c else N8 c) st'):wpS M A E s (k2 a b out i j mg ca cb) Q st':=by
 obtain⟨⟨y,hy⟩,⟨z,hz⟩⟩:=I.get
 have i0:=I.i0
 have j1:=I.j1
 have ia:=I.ia
 have jb:=I.jb
 unfold k2
 have m:=I.m.lx H (by lia) hy (hc y hy)
 refine NU (bf hy ?_)
 by_cases e:j - 1=1
 ·rw[if_pos (by rw[e];rfl)]
  exact NZ (h true _ ⟨K,H.qd m e⟩ (fun z=>nomatch z))
 rw[if_neg (by simpa using e)]
 refine NU (bf hz (NU (jd L (K.k.trans hk) (by lia) (by lia) H.Sb (H.Sa _ _ hz) (fun p q x w h1 h2 h3 h4=>nM H.sb (i:=0 + p) (j:=0 + q) (by lia) (by rw[i'];exact h3) (by rw[i'];exact h4)) fun t t1 t2 t3=>?_)))
 dsimp only
 have before:∀ u∈b.toList.take t,rk u<=rk z:=fun u hu=>by
  obtain⟨p,hp1,hp⟩:=j6 hu
  rw[i']at hp
  have:=t2 p u hp1 (by rw[Lx];exact hp)
  simp at this
  lia
 by_cases pk:j - 1 - t > 0
 ·rw[if_pos pk]
  have m2:MHo rk a b (out.push y++(b.extract t (j - 1)).reverse) i t:=by
   refine MHo.block m H (by omega) fun u hu w hw=>?_
   obtain⟨p,hp0,hp1,hp⟩:=tf hu
   rw[i']at hp
   have:=t3 p u hp0 hp1 (by rw[Lx];exact hp)
   simp at this
   exact n_ (jO H.sa hz w hw) this
  by_cases e1:t=1
  ·rw[if_pos (by rw[e1];rfl)]
   exact NZ (h true _ ⟨K,H.qd m2 e1⟩ (fun z=>nomatch z))
  rw[if_neg (by simpa using e1)]
  by_cases e2:t=0
  ·rw[if_pos (by rw[e2];rfl)]
   exact NZ (h true _ ⟨K,H.sQ m2 (.inr e2)⟩ (fun z=>nomatch z))
  rw[if_neg (by simpa using e2)]
  refine DN H K ⟨m2,i0,Ly (Kd e2) (Qj e1),ia,n_ t1 (n_ (Kk ..) jb)⟩ (fun z' hz'=>?_) (by lia) h
  rw[hz]at hz'
  cases hz'
  exact before
 rw[if_neg pk]
 have k0:t=j - 1:=by lia
 refine DN H K ⟨m,i0,by lia,ia,n_ (Kk ..) jb⟩ (fun z' hz'=>?_) (by lia) h
 rw[hz]at hz'
 cases hz'
 rw[k0]at before
 exact before
theorem HR{out:Array NQ}{i j mg ca cb:Nat}{st st':NV}{Q:ForInStep GT->NV->Prop}(L:f6 M A E s kd rk S)(H:LoOk rk S a b)(hk:kindOf st=kd)(K:Keep st st')(I:HI rk a b out i j)
  (h:∀(d:Bool) (c:GT) (st2:NV),kq rk a b (i + j) st c.1 c.2.2.2.1 c.2.1 c.2.2.1 st2->(d=false->c.1=none)->Q (if d=true then NX c else N8 c) st2):wpS M A E s (k1 a b out i j mg ca cb) Q st':=by
 obtain⟨⟨y,hy⟩,⟨z,hz⟩⟩:=I.get
 have i0:=I.i0
 have j1:=I.j1
 have ia:=I.ia
 have jb:=I.jb
 unfold k1
 refine NU (mE (NU (bf hy ?_)))
 have K2:=K.g mg
 revert K2
 generalize Pj (kindOf st') (NS st') (N6 st') mg (Ou st')=st2
 intro K2
 refine NU (jd L (K2.k.trans hk) (by lia) (by lia) H.Sa (H.Sb _ _ hy) (fun p q x w h1 h2 h3 h4=>nM H.sa (i:=0 + p) (j:=0 + q) (by lia) (by rw[i'];exact h3) (by rw[i'];exact h4)) fun t t1 t2 t3=>?_)
 dsimp only
 have before:∀ u∈a.toList.take t,rk u<=rk y:=fun u hu=>by
  obtain⟨p,hp1,hp⟩:=j6 hu
  rw[i']at hp
  have:=t2 p u hp1 (by rw[Lx];exact hp)
  simpa using this
 by_cases pk:i - t > 0
 ·rw[if_pos pk]
  have m2:MHo rk a b (out++(a.extract t i).reverse) t j:=by
   refine MHo.Er I.m H (by omega) fun u hu w hw=>?_
   obtain⟨p,hp0,hp1,hp⟩:=tf hu
   rw[i']at hp
   have:=t3 p u hp0 hp1 (by rw[Lx];exact hp)
   simp at this
   exact n_ (jO H.sb hy w hw) (JI this)
  by_cases e2:t=0
  ·rw[if_pos (by rw[e2];rfl)]
   exact NZ (h true _ _ ⟨K2,H.sQ m2 (.inl e2)⟩ (fun z=>nomatch z))
  rw[if_neg (by simpa using e2)]
  refine DX L H hk K2 ⟨m2,by lia,j1,by lia,jb⟩ (fun y' hy'=>?_) (by lia) fun d c x1 x2=>h d c _ x1 x2
  rw[hy]at hy'
  cases hy'
  exact before
 rw[if_neg pk]
 have k0:t=i:=by lia
 rw[k0]at before
 refine DX L H hk K2 I (fun y' hy'=>?_) (c_ _) fun d c x1 x2=>h d c _ x1 x2
 rw[hy]at hy'
 cases hy'
 exact before
theorem EE{st:NV}{Q:Array NQ->NV->Prop}(L:f6 M A E s kd rk S)(H:LoOk rk S a b)(hk:kindOf st=kd)(h:∀ r st',Keep st st'->Res rk a.toList b.toList r.toList->Q r st')(hr:∀ x,NT M A (rule x) (fun _ s'=>s'=s) E s):wpS M A E s (mHi a b) Q st:=by
 rw[D8]
 have pa:=H.pa
 have pb:=H.pb
 obtain⟨y,hy⟩:∃ y,a[a.size - 1]?=some y:=⟨_,x_ (by lia)⟩
 have rl:∀ {x:String} {R:Unit->NV->Prop} {st':NV},R () st'->wpS M A E s (liftM (rule x):StateT NV Sem Unit) R st':=fun{x R st'} q=>QX (Oh (hr x) (fun _ _ z=>⟨z,q⟩) fun _ _ z=>z)
 refine NU (rl (NU (bf hy ?_)))
 have m0:MHo rk a b #[] a.size b.size:=⟨by simp,LG,fun x hx=>by simp at hx⟩
 have m1:MHo rk a b #[y] (a.size - 1) b.size:=m0.kS H pa hy fun z hz=>H.last y hy z (Ke hz)
 by_cases e1:a.size - 1=0
 ·rw[if_pos (by rw[e1];rfl)]
  exact NZ (h _ _ .d6 (H.sQ m1 (.inl e1)))
 rw[if_neg (by simpa using e1)]
 by_cases e2:b.size=1
 ·rw[if_pos (by rw[e2];rfl)]
  exact NZ (h _ _ .d6 (H.qd m1 e2))
 rw[if_neg (by simpa using e2)]
 refine NU (PQ ?_)
 refine NU (OO (Oq (I:=fun x (c:OT) st'=>c.1=none/\Keep st st'/\HI rk a b c.2.2.2.1 c.2.1 c.2.2.1/\c.2.1 + c.2.2.1 + x < a.size + b.size) (Q:=fun(c:OT) st'=>∃ q,c.1=some q/\Keep st st'/\Res rk a.toList b.toList q.toList) ?_ ?_ ⟨rfl,.d6,⟨m1,by dsimp only;lia,by dsimp only;lia,by dsimp only;lia,by dsimp only;lia⟩,by dsimp only;lia⟩) ?_)
 ·rintro x ⟨c1,i,j,out,mg⟩ st1 _ hx ⟨rfl,K1,I1,px⟩
  unfold oHi
  dsimp only at I1 px ⊢
  refine NU (OO (Oq (I:=fun x (c:FT) st'=>c.1=none/\Keep st st'/\HI rk a b c.2.2.2.1 c.2.1 c.2.2.1/\c.2.1 + c.2.2.1 + x<=i + j) (Q:=fun(c:FT) st'=>kq rk a b (i + j) st c.1 c.2.2.2.1 c.2.1 c.2.2.1 st') ?_ ?_ ⟨rfl,K1,I1,c_ _⟩) ?_)
  ·rintro x2 ⟨d1,i2,j2,out2,ca,cb⟩ st2 _ hx2 ⟨rfl,K2,I2,p2⟩
   dsimp only at I2 p2 ⊢
   refine Ir L H hk K2 I2 fun d c hs hn=>?_
   cases d with
   | true=>
    show kq _ _ _ _ _ _ _ _ _ _
    refine⟨hs.1,?_⟩
    have h2:=hs.2
    cases e:c.1 with
    | some q=>rw[e]at h2;exact h2
    | none=>rw[e]at h2;exact⟨h2.1,by have:=h2.2;lia⟩
   | false=>
    have h2:=hs.2
    rw[hn rfl]at h2
    exact⟨hn rfl,hs.1,h2.1,by have:=h2.2;lia⟩
  ·rintro⟨c1,i2,j2,out2,ca,cb⟩ st2 ⟨rfl,K2,I2,p2⟩
   dsimp only at I2 p2 ⊢
   have:=I2.i0
   have:=I2.j1
   lia
  rintro⟨c1,i2,j2,out2,ca,cb⟩ st2 ⟨K2,h2⟩
  cases c1 with
  | some q=>exact NZ ⟨q,rfl,K2,h2⟩
  | none=>
   obtain⟨I2,p2⟩:=h2
   dsimp only at I2 p2 ⊢
   refine NU (rl ?_)
   refine NU (OO (Oq (I:=fun _ (c:GT) st'=>c.1=none/\Keep st st'/\HI rk a b c.2.2.2.1 c.2.1 c.2.2.1/\c.2.1 + c.2.2.1 < i + j) (Q:=fun(c:GT) st'=>kq rk a b (i + j) st c.1 c.2.2.2.1 c.2.1 c.2.2.1 st') ?_ ?_ ⟨rfl,K2,I2,p2⟩) ?_)
   ·rintro x3 ⟨d1,i3,j3,out3,mg3,ca3,cb3⟩ st3 _ hx3 ⟨rfl,K3,I3,p3⟩
    dsimp only at I3 p3 ⊢
    have go:∀ mg',wpS M A E s (k1 a b out3 i3 j3 mg' ca3 cb3) (fun r st'=>match r with | .done c'=>kq rk a b (i + j) st c'.1 c'.2.2.2.1 c'.2.1 c'.2.2.1 st' | .yield c'=>c'.1=none/\Keep st st'/\HI rk a b c'.2.2.2.1 c'.2.1 c'.2.2.1/\c'.2.1 + c'.2.2.1 < i + j) st3:=fun mg'=>by
     refine HR L H hk K3 I3 fun d c st4 hs hn=>?_
     cases d with
     | true=>
      show kq _ _ _ _ _ _ _ _ _ _
      refine⟨hs.1,?_⟩
      have h2:=hs.2
      cases e:c.1 with
      | some q=>rw[e]at h2;exact h2
      | none=>rw[e]at h2;exact⟨h2.1,by have:=h2.2;lia⟩
     | false=>
      have h2:=hs.2
      rw[hn rfl]at h2
      exact⟨hn rfl,hs.1,h2.1,by have:=h2.2;lia⟩
    split
    ·exact OO (go _) fun r st' h=>by cases r <;> exact h
    exact OO (go _) fun r st' h=>by cases r <;> exact h
   ·rintro⟨c1,i3,j3,out3,mg3,ca3,cb3⟩ st3 ⟨rfl,K3,I3,p3⟩
    exact⟨K3,I3,p3⟩
   rintro⟨c1,i3,j3,out3,mg3,ca3,cb3⟩ st3 ⟨K3,h3⟩
   cases c1 with
   | some q=>exact NZ ⟨q,rfl,K3,h3⟩
   | none=>
    obtain⟨I3,p3⟩:=h3
    refine NU (mE (NZ ⟨rfl,K3.g _,I3,?_⟩))
    dsimp only at p3 ⊢
    lia
 ·rintro⟨c1,i,j,out,mg⟩ st1 ⟨rfl,K1,I1,px⟩
  dsimp only at px
  lia
 rintro⟨c1,i,j,out,mg⟩ st1 ⟨q,e,K1,r⟩
 dsimp only at e
 subst e
 exact NZ (h q st1 K1 r)
end
def R(rk:NQ->Nat)(xs:Array NQ)(i:Nat):Nat:=match xs[i]? with
 | some p=>rk p
 | none=>0
structure Kp2 (st st':NV):Prop where
 k:kindOf st'=kindOf st
 p:N6 st'=N6 st
 f:Ou st'=Ou st
 a:(NS st').Perm (NS st)
theorem Kp2.d6 {st:NV}:Kp2 st st:=⟨rfl,rfl,rfl,My _⟩
theorem Kp2.trans {s1 s2 s3:NV}(h:Kp2 s1 s2)(g:Kp2 s2 s3):Kp2 s1 s3:=⟨g.k.trans h.k,g.p.trans h.p,g.f.trans h.f,g.a.trans h.a⟩
theorem Kp2.size {st st':NV}(h:Kp2 st st'):(NS st').size=(NS st).size:=h.a.size_eq
section
variable{rk:NQ->Nat}
theorem fW{xs ys:Array NQ}{i j:Nat}(h:xs[i]?=ys[j]?):R rk xs i=R rk ys j:=by unfold R;rw[h]
theorem B7{xs:Array NQ}{i j:Nat}(hj:j<=xs.size)(k:Nat):R rk (mirror xs i j ((j - i) / 2)) k=if i<=k/\k < j then R rk xs (i + j - 1 - k)else R rk xs k:=by
 have:=Ss (i:=i) hj k
 split at this <;> rename_i h
 ·rw[if_pos h];exact fW this
 rw[if_neg h];exact fW this
theorem Az{xs:Array NQ}{src d:Nat}(hs:src < xs.size)(hd:d<=src)(k:Nat):R rk (Ts xs src d) k=if k=src - d then R rk xs src else if src - d < k/\k<=src then R rk xs (k - 1)else R rk xs k:=by
 have:=Tt hs d hd k
 split at this
 ·rename_i h;rw[if_pos h];exact fW this
 rename_i h
 rw[if_neg h]
 split at this
 ·rename_i h2;rw[if_pos h2];exact fW this
 rename_i h2;rw[if_neg h2];exact fW this
def eF(rk:NQ->Nat)(xs:Array NQ)(lo n:Nat):Prop:=∀ i j,i<=j->j < n->R rk xs (lo + i)<=R rk xs (lo + j)
def rX(rk:NQ->Nat)(xs:Array NQ)(lo n:Nat):Prop:=∀ i j,i<=j->j < n->R rk xs (lo + j)<=R rk xs (lo + i)
end
structure Within (st st':NV) (lo n:Nat):Prop where
 kp:Kp2 st st'
 out:∀ k,(k < lo\/lo + n<=k)->(NS st')[k]?=(NS st)[k]?
theorem Within.d6 {st:NV}{lo n:Nat}:Within st st lo n:=⟨.d6,fun _ _=>rfl⟩
theorem Within.trans {s1 s2 s3:NV}{lo n:Nat}(h:Within s1 s2 lo n)(g:Within s2 s3 lo n):Within s1 s3 lo n:=⟨h.kp.trans g.kp,fun k hk=>(g.out k hk).trans (h.out k hk)⟩
section
variable{M:Pz}{A:N_}{E:NK->NO->Prop}{s:NO}{kd:ON}{rk:NQ->Nat}{S:NQ->Prop}
def kH(S:NQ->Prop)(st:NV):Prop:=∀ p∈(NS st).toList,S p
theorem kH.at {st:NV}(h:kH S st){i:Nat}{p:NQ}(e:(NS st)[i]?=some p):S p:=h p (by rw[<-i']at e;exact JY e)
theorem kH.kp {st st':NV}(h:kH S st)(k:Kp2 st st'):kH S st':=fun p hp=>h p ((Kz.mp k.a).mem_iff.mp hp)
theorem ja{i j:Nat}{st:NV}{Q:Option Bool->NV->Prop}(L:f6 M A E s kd rk S)(hk:kindOf st=kd)(hS:kH S st)(hi:i < (NS st).size)(hj:j < (NS st).size)(q:Q (some (decide (R rk (NS st) i < R rk (NS st) j))) st):wpS M A E s (Tu i j) Q st:=by
 rw[ltAt'_eq]
 refine NU (PQ ?_)
 have e1:(NS st)[i]?=some (NS st)[i]:=x_ hi
 have e2:(NS st)[j]?=some (NS st)[j]:=x_ hj
 refine NU (bf e1 (NU (bf e2 (L _ _ st _ (hS.at e1) (hS.at e2) hk ?_))))
 unfold R at q
 rw[e1,e2]at q
 exact q
theorem As{i j lo n:Nat}{st:NV}{Q:Unit->NV->Prop}(hl:lo<=i)(hj:j<=lo + n)(hsz:j<=(NS st).size)(h:∀ st',Within st st' lo n->(∀ k,R rk (NS st') k=if i<=k/\k < j then R rk (NS st) (i + j - 1 - k)else R rk (NS st) k)->Q () st'):wpS M A E s (P4 i j) Q st:=by
 rw[reverseSlice'_eq]
 refine QK (h _ ⟨⟨rfl,rfl,rfl,mirror_perm _ _ _ _⟩,fun k hk=>?_⟩ fun k=>B7 hsz k)
 show(mirror (NS st) i j ((j - i) / 2))[k]?=_
 rw[Ss hsz,if_neg (by lia)]
theorem DI{lo n ok:Nat}{st:NV}{Q:Bool->NV->Prop}(L:f6 M A E s kd rk S)(hk:kindOf st=kd)(hS:kH S st)(hn:lo + n<=(NS st).size)(hok:ok<=n)(hs:eF rk (NS st) lo ok)
  (h:∀ st',Within st st' lo n->eF rk (NS st') lo n->Q true st'):wpS M A E s (U_ lo n ok) Q st:=by
 rw[binarySort'_eq]
 refine NU (OO (Oq (I:=fun k c st'=>c=(none,())/\Within st st' lo n/\eF rk (NS st') lo k) (Q:=fun c st'=>c=(none,())/\Within st st' lo n/\eF rk (NS st') lo (max (max ok 1) n)) ?_ (fun c st' z=>z) ⟨rfl,.d6,fun i j h1 h2=>?_⟩) ?_)
 ·rintro k c st1 hk1 hk2 ⟨rfl,W,s1⟩
  have sz1:=W.kp.size
  have hS1:=hS.kp W.kp
  refine NU (OO (Oq (I:=fun x c st'=>st'=st1/\∃ l r,c=(none,l,r)/\l<=r/\r<=k/\r - l<=k - x/\(∀ i,i < l->R rk (NS st1) (lo + i)<=R rk (NS st1) (lo + k))/\(∀ i,r<=i->i < k->R rk (NS st1) (lo + k) < R rk (NS st1) (lo + i)))
   (Q:=fun c st'=>st'=st1/\∃ l,c=(none,l,l)/\l<=k/\(∀ i,i < l->R rk (NS st1) (lo + i)<=R rk (NS st1) (lo + k))/\(∀ i,l<=i->i < k->R rk (NS st1) (lo + k) < R rk (NS st1) (lo + i))) ?_ ?_ ⟨rfl,0,k,rfl,z_ _,c_ _,by lia,fun i hi=>by lia,fun i h1 h2=>by lia⟩) ?_)
  ·rintro x c st2 _ hx ⟨rfl,l,r,rfl,g1,g2,g3,g4,g5⟩
   dsimp only
   by_cases z:l>=r
   ·rw[if_pos z]
    have e:l=r:=by lia
    subst e
    exact NZ ⟨rfl,l,rfl,g2,g4,g5⟩
   rw[if_neg z]
   have m1:l<=(l + r) / 2:=by omega
   have m2:(l + r) / 2 < r:=by omega
   generalize (l + r) / 2=m at m1 m2 ⊢
   have m3:=u_ m2 g2
   have sz:∀ {y},y<=k->lo + y < (NS st2).size:=fun h=>by lia
   refine NU (ja L (W.kp.k.trans hk) hS1 (sz (c_ _)) (sz (JI m3)) ?_)
   dsimp only
   by_cases w:R rk (NS st2) (lo + k) < R rk (NS st2) (lo + m)
   ·rw[decide_eq_true w,if_pos rfl]
    exact NZ ⟨rfl,l,m,rfl,m1,JI m3,by lia,g4,fun i h1 h2=>u_ w (s1 m i h1 h2)⟩
   rw[decide_eq_false w,if_neg (by simp)]
   exact NZ ⟨rfl,m + 1,r,rfl,m2,g2,by lia,fun i hi=>n_ (s1 i m (LH hi) m3) (JQ w),g5⟩
  ·rintro c st2 ⟨rfl,l,r,rfl,g1,g2,g3,g4,g5⟩
   have e:l=r:=by lia
   subst e
   exact⟨rfl,l,rfl,g2,g4,g5⟩
  rintro c st2 ⟨rfl,l,rfl,g2,g4,g5⟩
  dsimp only
  rw[moveDown'_eq]
  have hk1:lo + k < (NS st2).size:=by lia
  have e0:lo + k - (lo + k - (lo + l))=lo + l:=Nat.sub_sub_self (Ln g2 lo)
  have hb:∀ j,R rk (Ts (NS st2) (lo + k) (lo + k - (lo + l))) (lo + j)=if j=l then R rk (NS st2) (lo + k)else if l < j/\j<=k then R rk (NS st2) (lo + (j - 1))else R rk (NS st2) (lo + j):=fun j=>by
   rw[Az hk1 (Kk ..),e0]
   by_cases c1:j=l
   ·rw[if_pos c1,if_pos (congrArg (lo + ·) c1)]
   rw[if_neg c1,if_neg (fun z=>c1 (Nat.add_left_cancel z))]
   by_cases c2:l < j/\j<=k
   ·rw[if_pos c2,if_pos ⟨L3 c2.1 lo,Ln c2.2 lo⟩,M_ (Nat.one_le_of_lt c2.1)]
   rw[if_neg c2,if_neg (fun z=>c2 ⟨Nat.lt_of_add_lt_add_left z.1,Nat.le_of_add_le_add_left z.2⟩)]
  refine NU (QK (NZ ⟨rfl,W.trans ⟨⟨rfl,rfl,rfl,bubble_perm _ _ _⟩,fun j hj=>?_⟩,fun i j hij hj=>?_⟩))
  ·show(Ts (NS st2) (lo + k) (lo + k - (lo + l)))[j]?=_
   rw[Tt hk1 _ (Kk ..),e0,if_neg (by lia),if_neg (by lia)]
  show R rk (Ts (NS st2) (lo + k) (lo + k - (lo + l))) (lo + i)<=R rk (Ts (NS st2) (lo + k) (lo + k - (lo + l))) (lo + j)
  rw[hb,hb]
  have ss:∀ p q,p<=q->q < k->R rk (NS st2) (lo + p)<=R rk (NS st2) (lo + q):=s1
  have hj:j<=k:=LH hj
  have dn:∀ {x},l < x->x<=k->x - 1 < k:=fun a b=>u_ (Nat.sub_one_lt_of_lt a) b
  by_cases i1:i < l
  ·rw[if_neg (yp i1),if_neg (fun z=>Nat.lt_asymm z.1 i1)]
   by_cases j2:j=l
   ·rw[if_pos j2]
    exact g4 i i1
   rw[if_neg j2]
   by_cases j1:l < j
   ·rw[if_pos ⟨j1,hj⟩]
    exact ss i (j - 1) (LU (LR i1 j1)) (dn j1 hj)
   rw[if_neg (fun z=>j1 z.1)]
   exact ss i j hij (u_ (Ly (JQ j1) j2) g2)
  by_cases i2:i=l
  ·rw[if_pos i2]
   by_cases j2:j=l
   ·rw[if_pos j2]
    exact c_ _
   have j1:l < j:=Ly (i2 ▸ hij) (fun z=>j2 z.symm)
   rw[if_neg j2,if_pos ⟨j1,hj⟩]
   exact JI (g5 (j - 1) (LU j1) (dn j1 hj))
  have i3:l < i:=Ly (JQ i1) (fun z=>i2 z.symm)
  have j1:=u_ i3 hij
  rw[if_neg i2,if_pos ⟨i3,n_ hij hj⟩,if_neg (fun z=>Km _ (z ▸ j1)),if_pos ⟨j1,hj⟩]
  exact ss (i - 1) (j - 1) (MK hij 1) (dn j1 hj)
 ·by_cases z:1<=ok
  ·rw[Nat.max_eq_left z]at h2
   exact hs i j h1 h2
  have:i=j:=by lia
  subst this
  exact c_ _
 rintro c st1 ⟨rfl,W,s1⟩
 exact NZ (h st1 W fun i j h1 h2=>s1 i j h1 (by lia))
end
theorem yg{l x:Nat}(h:1<=x):l + (x - 1)=l + x - 1:=(M_ h l).symm
theorem F7{l k:Nat}(h:l<=k):l + (k - l)=k:=Lp h
theorem Iu{l a i:Nat}(h:i < a):l + (l + a) - 1 - (l + i)=l + (a - 1 - i):=by lia
theorem Eo{l x k:Nat}(h0:l<=k)(h:k < l + x):k - l < x:=Lu h0 h
noncomputable def By(l0 a0 q0:Nat):StateT NV Sem (Option Nat):=do
 let mut n:=a0
 for _ in [a0:q0]do
  let some sm <-Tu (l0 + n) (l0 + n - 1) | return none
  if sm then break
  n:=n + 1
 return some n
def pK(l0 a0 q0:Nat):StateT NV Sem (Option Nat):=do
 P4 l0 (l0 + a0)
 By l0 a0 q0
noncomputable def qW(l0 a0 q0:Nat):StateT NV Sem (Option Nat):=do
 rule "list.sort.descending-run"
 let mut n:=a0 + 1
 let mut eq:=0
 for _ in [n:q0]do
  let some sm <-Tu (l0 + n) (l0 + n - 1) | return none
  if sm then
   if eq > 0 then P4 (l0 + n - (eq + 1)) (l0 + n)
   eq:=0
  else
   let some la <-Tu (l0 + n - 1) (l0 + n) | return none
   if la then break
   eq:=eq + 1
  n:=n + 1
 if eq > 0 then
  P4 (l0 + n - (eq + 1)) (l0 + n)
  pK l0 n q0
 else pK l0 n q0
theorem Iw(l0 q0:Nat):T5 l0 q0=(do
 let mut n:=1
 for _ in [1:q0]do
  let some sm <-Tu (l0 + n) (l0 + n - 1) | return none
  if sm then break
  n:=n + 1
 if n == q0 then return some n
 if n > 1 then
  let some ro <-Tu l0 (l0 + n - 1) | return none
  if ro then return some n
  P4 l0 (l0 + n)
  qW l0 n q0
 else qW l0 n q0):=rfl
section
variable{M:Pz}{A:N_}{E:NK->NO->Prop}{s:NO}{kd:ON}{rk:NQ->Nat}{S:NQ->Prop}
theorem eF.snoc {xs:Array NQ}{lo n:Nat}(h:eF rk xs lo n)(h1:1<=n)(k:R rk xs (lo + n - 1)<=R rk xs (lo + n)):eF rk xs lo (n + 1):=fun i j hij hj=>by
 by_cases z:j < n
 ·exact h i j hij z
 have e:j=n:=by lia
 subst e
 by_cases w:i=j
 ·subst w;exact c_ _
 have:=h i (j - 1) (by lia) (by lia)
 rw[yg h1]at this
 exact n_ this k
theorem Bb{l0 a0 q0:Nat}{st:NV}{Q:Option Nat->NV->Prop}(L:f6 M A E s kd rk S)(hk:kindOf st=kd)(hS:kH S st)(hsz:l0 + q0<=(NS st).size)(h1:1<=a0)(h2:a0<=q0)(hs:eF rk (NS st) l0 a0)
  (h:∀ n,a0<=n->n<=q0->eF rk (NS st) l0 n->Q (some n) st):wpS M A E s (By l0 a0 q0) Q st:=by
 unfold By
 dsimp only
 refine NU (OO (Oq (I:=fun x c st'=>st'=st/\c=(none,x)/\eF rk (NS st) l0 x) (Q:=fun c st'=>st'=st/\∃ n,c=(none,n)/\a0<=n/\n<=q0/\eF rk (NS st) l0 n) ?_ ?_ ⟨rfl,rfl,hs⟩) ?_)
 ·rintro x c st1 hx1 hx2 ⟨rfl,rfl,s1⟩
  dsimp only
  refine NU (ja L hk hS (by lia) (by lia) ?_)
  dsimp only
  by_cases w:R rk (NS st1) (l0 + x) < R rk (NS st1) (l0 + x - 1)
  ·rw[decide_eq_true w,if_pos rfl]
   exact NZ ⟨rfl,x,rfl,hx1,by lia,s1⟩
  rw[decide_eq_false w,if_neg (by simp)]
  exact NZ ⟨rfl,rfl,s1.snoc (by lia) (by lia)⟩
 ·rintro c st1 ⟨rfl,rfl,s1⟩
  rw[Mr h2]at s1 ⊢
  exact⟨rfl,q0,rfl,h2,c_ _,s1⟩
 rintro c st1 ⟨rfl,n,rfl,g1,g2,g3⟩
 exact NZ (h n g1 g2 g3)
theorem oT{l0 a0 q0:Nat}{st:NV}{Q:Option Nat->NV->Prop}(L:f6 M A E s kd rk S)(hk:kindOf st=kd)(hS:kH S st)(hsz:l0 + q0<=(NS st).size)(h1:1<=a0)(h2:a0<=q0)(hs:rX rk (NS st) l0 a0)
  (h:∀ n st',a0<=n->n<=q0->Within st st' l0 q0->eF rk (NS st') l0 n->Q (some n) st'):wpS M A E s (pK l0 a0 q0) Q st:=by
 unfold pK
 refine NU (As (rk:=rk) (lo:=l0) (n:=q0) (c_ _) (by lia) (by lia) fun st1 W1 r1=>?_)
 refine Bb L (W1.kp.k.trans hk) (hS.kp W1.kp) (by rw[W1.kp.size];exact hsz) h1 h2 (fun i j hij hj=>?_) fun n g1 g2 g3=>h n st1 g1 g2 W1 g3
 have hi:=G' hij hj
 rw[r1,r1,if_pos ⟨Mn ..,L3 hi l0⟩,if_pos ⟨Mn ..,L3 hj l0⟩,Iu hi,Iu hj]
 exact hs (a0 - 1 - j) (a0 - 1 - i) (Nat.sub_le_sub_left hij _) (G' (Kk _ _) (Mf h1 K0))
theorem nO{i j lo n:Nat}{st:NV}{Q:Unit->NV->Prop}(hl:lo<=i)(hj:j<=lo + n)(hsz:j<=(NS st).size)(heq:∀ k,i<=k->k < j->R rk (NS st) k=R rk (NS st) (j - 1))(h:∀ st',Within st st' lo n->(∀ k,R rk (NS st') k=R rk (NS st) k)->Q () st'):wpS M A E s (P4 i j) Q st:=by
 refine As (rk:=rk) hl hj hsz fun st1 W r1=>h st1 W fun k=>?_
 rw[r1]
 split
 ·rename_i z
  rw[heq k z.1 z.2,heq (i + j - 1 - k) (by(clear r1 W h heq hsz hj hl;lia)) (by(clear r1 W h heq hsz hj hl;lia))]
 rfl
theorem rX.snoc {xs:Array NQ}{lo n:Nat}(h:rX rk xs lo n)(h1:1<=n)(k:R rk xs (lo + n)<=R rk xs (lo + n - 1)):rX rk xs lo (n + 1):=fun i j hij hj=>by
 by_cases z:j < n
 ·exact h i j hij z
 have e:j=n:=by lia
 subst e
 by_cases w:i=j
 ·subst w;exact c_ _
 have:=h i (j - 1) (by lia) (by lia)
 rw[show lo + (j - 1)=lo + j - 1 by lia]at this
 exact n_ k this
theorem pg{l0 a0 q0:Nat}{st:NV}{Q:Option Nat->NV->Prop}(L:f6 M A E s kd rk S)(hk:kindOf st=kd)(hS:kH S st)(hsz:l0 + q0<=(NS st).size)(h2:a0 + 1<=q0)(hs:rX rk (NS st) l0 (a0 + 1))(hr:∀ x,NT M A (rule x) (fun _ s'=>s'=s) E s)
  (h:∀ n st',1<=n->n<=q0->Within st st' l0 q0->eF rk (NS st') l0 n->Q (some n) st'):wpS M A E s (qW l0 a0 q0) Q st:=by
 unfold qW
 refine NU (QX (Oh (hr _) (fun _ _ z=>⟨z,?_⟩) fun _ _ z=>z))
 dsimp only
 refine NU (OO (Oq (I:=fun x c st'=>∃ eq,c=(none,x,eq)/\Within st st' l0 q0/\rX rk (NS st') l0 x/\eq + 1<=x/\∀ k,x - 1 - eq<=k->k < x->R rk (NS st') (l0 + k)=R rk (NS st') (l0 + (x - 1)))
  (Q:=fun c st'=>∃ n eq,c=(none,n,eq)/\a0 + 1<=n/\n<=q0/\Within st st' l0 q0/\rX rk (NS st') l0 n/\eq + 1<=n/\∀ k,n - 1 - eq<=k->k < n->R rk (NS st') (l0 + k)=R rk (NS st') (l0 + (n - 1))) ?_ ?_ ⟨0,rfl,.d6,hs,by lia,fun k h1 h2=>by rw[show k=a0 + 1 - 1 by lia]⟩) ?_)
 ·rintro x c st1 hx1 hx2 ⟨eq,rfl,W,d1,e1,ev⟩
  dsimp only
  have hk1:=W.kp.k.trans hk
  have hS1:=hS.kp W.kp
  have sz1:=W.kp.size
  have x1:1<=x:=n_ (Nt 1 eq) e1
  have b1:l0 + x < (NS st1).size:=by lia
  have b2:l0 + x - 1 < (NS st1).size:=G' (Kk ..) b1
  refine NU (ja L hk1 hS1 b1 b2 ?_)
  dsimp only
  by_cases w:R rk (NS st1) (l0 + x) < R rk (NS st1) (l0 + x - 1)
  ·rw[decide_eq_true w,if_pos rfl]
   have fin:∀ st2,Within st st2 l0 q0->(∀ k,R rk (NS st2) k=R rk (NS st1) k)->∃ eq',((none,x + 1,0):Option (Option Nat) × Nat × Nat)=(none,x + 1,eq')/\Within st st2 l0 q0/\rX rk (NS st2) l0 (x + 1)/\eq' + 1<=x + 1/\∀ k,x + 1 - 1 - eq'<=k->k < x + 1->R rk (NS st2) (l0 + k)=R rk (NS st2) (l0 + (x + 1 - 1)):=fun st2 W2 r2=>by
    refine⟨0,rfl,W2,fun i j hij hj=>?_,by lia,fun k h1 h2=>by rw[show k=x + 1 - 1 by lia]⟩
    rw[r2,r2]
    exact d1.snoc x1 (JI w) i j hij hj
   by_cases z:eq > 0
   ·rw[if_pos z]
    refine NU (nO (rk:=rk) (lo:=l0) (n:=q0) (by lia) (by lia) (by lia) (fun k h1 h2=>?_) fun st2 W2 r2=>NZ (fin st2 (W.trans W2) r2))
    have k0:l0<=k:=by lia
    have:=ev (k - l0) (by lia) (Eo k0 h2)
    rw[F7 k0,yg x1]at this
    exact this
   rw[if_neg z]
   exact NZ (fin st1 W fun _=>rfl)
  rw[decide_eq_false w,if_neg (by simp)]
  refine NU (ja L hk1 hS1 b2 b1 ?_)
  dsimp only
  by_cases v:R rk (NS st1) (l0 + x - 1) < R rk (NS st1) (l0 + x)
  ·rw[decide_eq_true v,if_pos rfl]
   exact NZ ⟨x,eq,rfl,hx1,by lia,W,d1,e1,ev⟩
  rw[decide_eq_false v,if_neg (by simp)]
  have ee:R rk (NS st1) (l0 + x)=R rk (NS st1) (l0 + x - 1):=Nu (JQ v) (JQ w)
  refine NZ ⟨eq + 1,rfl,W,d1.snoc x1 (Lv ee),by lia,fun k h1 h2=>?_⟩
  rw[show l0 + (x + 1 - 1)=l0 + x by lia]
  by_cases y:k=x
  ·rw[y]
  have:=ev k (by lia) (by lia)
  rw[yg x1]at this
  exact this.trans ee.symm
 ·rintro c st1 ⟨eq,rfl,W,d1,e1,ev⟩
  rw[Mr h2]at d1 e1 ev ⊢
  exact⟨q0,eq,rfl,h2,c_ _,W,d1,e1,ev⟩
 rintro c st1 ⟨n,eq,rfl,g1,g2,W,d1,e1,ev⟩
 have sz1:=W.kp.size
 dsimp only
 by_cases z:eq > 0
 ·rw[if_pos z]
  refine NU (nO (rk:=rk) (lo:=l0) (n:=q0) (by lia) (by lia) (by lia) (fun k h1 h2=>?_) fun st2 W2 r2=>?_)
  ·have k0:l0<=k:=by lia
   have:=ev (k - l0) (by lia) (Eo k0 h2)
   rw[F7 k0,yg (n_ (Nt 1 eq) e1)]at this
   exact this
  refine oT L ((W.trans W2).kp.k.trans hk) (hS.kp (W.trans W2).kp) (by rw[(W.trans W2).kp.size];exact hsz) (by lia) g2 (fun i j hij hj=>by rw[r2,r2];exact d1 i j hij hj) fun m st3 k1 k2 W3 s3=>h m st3 (by lia) k2 ((W.trans W2).trans W3) s3
 rw[if_neg z]
 exact oT L (W.kp.k.trans hk) (hS.kp W.kp) (by rw[sz1];exact hsz) (by lia) g2 d1 fun m st3 k1 k2 W3 s3=>h m st3 (by lia) k2 (W.trans W3) s3
theorem rj{l0 q0:Nat}{st:NV}{Q:Option Nat->NV->Prop}(L:f6 M A E s kd rk S)(hk:kindOf st=kd)(hS:kH S st)(hsz:l0 + q0<=(NS st).size)(h1:1<=q0)(hr:∀ x,NT M A (rule x) (fun _ s'=>s'=s) E s)
  (h:∀ n st',1<=n->n<=q0->Within st st' l0 q0->eF rk (NS st') l0 n->Q (some n) st'):wpS M A E s (T5 l0 q0) Q st:=by
 rw[Iw]
 dsimp only
 refine NU (OO (Oq (I:=fun x c st'=>st'=st/\c=(none,x)/\eF rk (NS st) l0 x) (Q:=fun c st'=>st'=st/\∃ n,c=(none,n)/\1<=n/\n<=q0/\eF rk (NS st) l0 n/\(n=q0\/R rk (NS st) (l0 + n) < R rk (NS st) (l0 + n - 1))) ?_ ?_ ⟨rfl,rfl,fun i j h1 h2=>by rw[show i=j by lia];exact c_ _⟩) ?_)
 ·rintro x c st1 hx1 hx2 ⟨rfl,rfl,s1⟩
  dsimp only
  refine NU (ja L hk hS (by lia) (by lia) ?_)
  dsimp only
  by_cases w:R rk (NS st1) (l0 + x) < R rk (NS st1) (l0 + x - 1)
  ·rw[decide_eq_true w,if_pos rfl]
   exact NZ ⟨rfl,x,rfl,hx1,by lia,s1,.inr w⟩
  rw[decide_eq_false w,if_neg (by simp)]
  exact NZ ⟨rfl,rfl,s1.snoc (by(clear w s1 h hsz hS hk hx2 hr h1 L;omega)) (by lia)⟩
 ·rintro c st1 ⟨rfl,rfl,s1⟩
  rw[Mr h1]at s1 ⊢
  exact⟨rfl,q0,rfl,h1,c_ _,s1,.inl rfl⟩
 rintro c st1 ⟨rfl,n,rfl,g1,g2,g3,g4⟩
 dsimp only
 by_cases e:n=q0
 ·rw[if_pos (by rw[e];exact beq_self_eq_true _)]
  exact NZ (h n st1 g1 g2 .d6 g3)
 rw[if_neg (by simpa using e)]
 have lt:=g4.resolve_left e
 by_cases z:n > 1
 ·rw[if_pos z]
  refine NU (ja L hk hS (by lia) (by(clear lt e g4 g3 g1 h hS hk hr h1 L;lia)) ?_)
  dsimp only
  by_cases w:R rk (NS st1) l0 < R rk (NS st1) (l0 + n - 1)
  ·rw[decide_eq_true w,if_pos rfl]
   exact NZ (h n st1 g1 g2 .d6 g3)
  rw[decide_eq_false w,if_neg (by simp)]
  have all:∀ k,l0<=k->k < l0 + n->R rk (NS st1) k=R rk (NS st1) (l0 + n - 1):=fun k h1 h2=>by
   have kn:=Eo h1 h2
   have a:=g3 0 (k - l0) (z_ _) kn
   have b:=g3 (k - l0) (n - 1) (LU kn) (Mf g1 K0)
   rw[F7 h1]at a b
   rw[yg g1]at b
   rw[Mt]at a
   exact Nu b (n_ (JQ w) a)
  refine NU (nO (rk:=rk) (lo:=l0) (n:=q0) (c_ _) (by(clear all w z lt e g4 g3 g1 h hsz hS hk hr h1 L;lia)) (by(clear all w z lt e g4 g3 g1 h hS hk hr h1 L;lia)) all fun st2 W2 r2=>?_)
  refine pg L (W2.kp.k.trans hk) (hS.kp W2.kp) (by rw[W2.kp.size];exact hsz) (by lia) (fun i j hij hj=>?_) hr fun m st3 k1 k2 W3 s3=>h m st3 k1 k2 (W2.trans W3) s3
  rw[r2,r2]
  by_cases y:j < n
  ·rw[all (l0 + i) (by lia) (by lia),all (l0 + j) (by lia) (by(clear hj hij r2 W2 all w z lt e g4 g3 g2 g1 h hsz hS hk hr h1 L;lia))]
   exact c_ _
  rw[show j=n by lia]
  by_cases y2:i < n
  ·rw[all (l0 + i) (by lia) (by(clear y hj hij r2 W2 all w z lt e g4 g3 g2 g1 h hsz hS hk hr h1 L;lia))];exact JI lt
  rw[show i=n by(clear y r2 W2 all w z lt e g4 g3 g2 g1 h hsz hS hk hr h1 L;lia)];exact c_ _
 rw[if_neg z]
 have n1:n=1:=by lia
 subst n1
 refine pg L hk hS hsz (by lia) (fun i j hij hj=>?_) hr fun m st3 k1 k2 W3 s3=>h m st3 k1 k2 W3 s3
 by_cases y:i=j
 ·rw[y];exact c_ _
 rw[show i=0 by lia,show j=1 by lia]
 exact JI lt
end
def wrote(xs:Array NQ)(q:Nat)(ys:Array NQ):Array NQ:=ys.toList.zipIdx.foldl (fun u (p,j)=>u.setIfInBounds (q + j) p) xs
theorem GH(i:Nat):Sg i=(do
 let st <-get
 let (some (s1,n1,pw),some (s2,n2,_)):=((N6 st)[i]?,(N6 st)[i + 1]?) | unsupported "internal:list.sort.pending"
 set (Pj (kindOf st) (NS st) (((N6 st).setIfInBounds i (s1,n1 + n2,pw)).eraseIdxIfInBounds (i + 1)) (RA st) (Ou st))
 let some k <-gal false (<-Ot (NS st) s2) (NS st) s1 n1 0 | return false
 let (s1,n1):=(s1 + k,n1 - k)
 if n1 == 0 then return true
 let some n2 <-gal true (<-Ot (NS st) (s1 + n1 - 1)) (NS st) s2 n2 (n2 - 1) | return false
 if n2 == 0 then return true
 let x:=(NS st).extract s1 s2
 let y:=(NS st).extract s2 (s2 + n2)
 let mm <-if n1<=n2 then mLo x y else mHi x y
 modify fun z=>setArr z (wrote (NS z) s1 mm)
 return (Ou (<-get)).isNone):=rfl
theorem oj(q:Nat):∀(l:List NQ) (n:Nat) (xs:Array NQ),q + n + l.length<=xs.size->((l.zipIdx n).foldl (fun u (p,j)=>u.setIfInBounds (q + j) p) xs).toList=xs.toList.take (q + n)++(l++xs.toList.drop (q + n + l.length))
 | [],n,xs,_=>by
  simp
 | p::t,n,xs,h=>by
  rw[j_]at h
  rw[Mk,Nv,oj q t (n + 1) _ (by rw[Mu];lia),Md]
  have hl:q + n < xs.toList.length:=by rw[g_];lia
  rw[show q + (n + 1)=q + n + 1 by lia,KA,List.take_set_of_le (c_ _),LK hl,List.drop_set_of_lt (by lia),j_,show q + n + 1 + t.length=q + n + (t.length + 1) by lia]
  simp
theorem uJ{xs ys:Array NQ}{q:Nat}(h:q + ys.size<=xs.size):(wrote xs q ys).toList=xs.toList.take q++(ys.toList++xs.toList.drop (q + ys.size)):=by
 have:=oj q ys.toList 0 xs (by rw[g_];exact h)
 rw[g_]at this
 exact this
theorem Bv{a b c:List NQ}{i:Nat}(h:a.length=b.length)(hi:a.length<=i):(a++c)[i]?=(b++c)[i]?:=by rw[Ki hi,Ki (by lia),h]
section
variable{rk:NQ->Nat}
theorem w9{xs:Array NQ}{i:Nat}{p:NQ}(h:xs.toList[i]?=some p):R rk xs i=rk p:=by
 unfold R
 rw[<-i',h]
theorem iK{xs:Array NQ}{lo n:Nat}(h:eF rk xs lo n):Srt rk ((xs.toList.drop lo).take n):=by
 refine Mg.mpr fun i j hi hj hij=>?_
 have hj':j < n:=by rw[A_]at hj;lia
 have ei:=b_ hi
 have ej:=b_ hj
 rw[KZ,if_pos (by lia),KY]at ei ej
 have:=h i j (by lia) hj'
 rw[w9 ei,w9 ej]at this
 exact this
theorem qP{l k n:Nat}(h:k<=n):l + k + (n - k)=l + n:=by rw[LL,Lp h]
theorem Aj{xs:Array NQ}{lo n:Nat}(hn:lo + n<=xs.size)(h:Srt rk ((xs.toList.drop lo).take n)):eF rk xs lo n:=by
 intro i j hij hj
 by_cases e:i=j
 ·rw[e];exact c_ _
 have len:((xs.toList.drop lo).take n).length=n:=by rw[A_,C',g_];lia
 have hi':i < ((xs.toList.drop lo).take n).length:=by lia
 have hj':j < ((xs.toList.drop lo).take n).length:=by lia
 have:=Mg.mp h i j hi' hj' (by lia)
 have ei:=b_ hi'
 have ej:=b_ hj'
 rw[KZ,if_pos (by lia),KY]at ei ej
 rw[w9 ei,w9 ej]
 exact this
theorem rJ{xs:Array NQ}{lo n m:Nat}(h1:eF rk xs lo n)(h2:eF rk xs (lo + n) m)(h:∀ i j,i < n->j < m->R rk xs (lo + i)<=R rk xs (lo + n + j)):eF rk xs lo (n + m):=by
 intro i j hij hj
 by_cases z:j < n
 ·exact h1 i j hij z
 by_cases w:i < n
 ·have:=h i (j - n) w (Lu (JQ z) hj)
  rw[qP (JQ z)]at this
  exact this
 have:=h2 (i - n) (j - n) (MK hij n) (Lu (JQ z) hj)
 rw[qP (JQ z),qP (JQ w)]at this
 exact this
theorem kh{T:List NQ}{lo k n:Nat}(h:k<=n):(T.drop lo).take n=(T.drop lo).take k++(T.drop (lo + k)).take (n - k):=by
 conv=>lhs;rw[show n=k + (n - k)from(Lp h).symm,Mb,LC]
theorem merged{xs r:Array NQ}{lo k n m c:Nat}(hk:k<=n)(hc:c<=m)(hsz:lo + n + m<=xs.size)(o1:eF rk xs lo n)(o2:eF rk xs (lo + n) m)
  (a1:∀ p∈(xs.toList.drop lo).take k,∀ q∈(xs.toList.drop (lo + n)).take m,rk p<=rk q) (a2:∀ p∈(xs.toList.drop lo).take n,∀ q∈(xs.toList.drop (lo + n + c)).take (m - c),rk p<=rk q)
  (hr:Res rk ((xs.toList.drop (lo + k)).take (n - k)) ((xs.toList.drop (lo + n)).take c) r.toList) :
  (wrote xs (lo + k) r).Perm xs/\(∀ i,(i < lo\/lo + n + m<=i)->(wrote xs (lo + k) r)[i]?=xs[i]?)/\eF rk (wrote xs (lo + k) r) lo (n + m):=by
 have lr:r.size=n - k + c:=by
  have:=hr.1.length_eq
  rw[h_,A_,A_,C',C',g_,g_]at this
  lia
 have wl:(wrote xs (lo + k) r).toList=xs.toList.take lo++((xs.toList.drop lo).take k++(r.toList++((xs.toList.drop (lo + n + c)).take (m - c)++xs.toList.drop (lo + n + m)))):=by
  rw[uJ (by lia),Mb,i_,lr,<-LL,qP hk]
  congr 3
  have:=(E_ (m - c) (xs.toList.drop (lo + n + c))).symm
  rw[LC,qP hc]at this
  exact this
 have xl:xs.toList=xs.toList.take lo++((xs.toList.drop lo).take k++((xs.toList.drop (lo + k)).take (n - k)++(xs.toList.drop (lo + n)).take c++((xs.toList.drop (lo + n + c)).take (m - c)++xs.toList.drop (lo + n + m)))):=by
  have e1:=(E_ lo xs.toList).symm
  have e2:=(E_ k (xs.toList.drop lo)).symm
  have e3:=(E_ (n - k) (xs.toList.drop (lo + k))).symm
  have e4:=(E_ c (xs.toList.drop (lo + n))).symm
  have e5:=(E_ (m - c) (xs.toList.drop (lo + n + c))).symm
  rw[LC]at e2 e3 e4 e5
  rw[qP hk]at e3
  rw[qP hc]at e5
  rw[i_,<-e5,<-e4,<-e3,<-e2,<-e1]
 have sz:(wrote xs (lo + k) r).size=xs.size:=by
  have:=congrArg L7 wl
  have h2:=congrArg L7 xl
  have h3:=hr.1.length_eq
  simp only[h_]at this h2 h3
  have e1:=@g_ _ (wrote xs (lo + k) r)
  have e2:=@g_ _ xs
  lia
 have X:(xs.toList.drop lo).take n=(xs.toList.drop lo).take k++(xs.toList.drop (lo + k)).take (n - k):=kh hk
 have Y:(xs.toList.drop (lo + n)).take m=(xs.toList.drop (lo + n)).take c++(xs.toList.drop (lo + n + c)).take (m - c):=kh hc
 have sX:=iK o1
 have sY:=iK o2
 rw[X]at sX
 rw[Y]at sY
 obtain⟨sx1,sx2,sx⟩:=B'.mp sX
 obtain⟨sy1,sy2,sy⟩:=B'.mp sY
 refine⟨Kz.mpr ?_,fun i hi=>?_,Aj (by lia) ?_⟩
 ·rw[wl]
  conv=>rhs;rw[xl]
  exact JM _ (JM _ (MB _ hr.1))
 ·rw[<-i',<-i',wl]
  conv=>rhs;rw[xl]
  have hl1:(xs.toList.take lo).length=lo:=by rw[A_,g_];lia
  rcases hi with hi | hi
  ·rw[KC (by lia),KC (by lia)]
  have hl2:((xs.toList.drop lo).take k).length=k:=by rw[A_,C',g_];lia
  have hl3:r.toList.length=n - k + c:=by rw[g_];exact lr
  have hl4:=hr.1.length_eq
  rw[<-i_,<-i_]
  conv=>rhs;rw[<-i_,<-i_]
  refine Bv ?_ ?_
  ·rw[h_,h_,h_,h_,hl4]
  rw[h_,h_,hl1,hl2,hl3];lia
 have hl1:(xs.toList.take lo).length=lo:=by rw[A_,g_];lia
 have e:((wrote xs (lo + k) r).toList.drop lo).take (n + m)=(xs.toList.drop lo).take k++(r.toList++(xs.toList.drop (lo + n + c)).take (m - c)):=by
  rw[wl,List.drop_left' hl1,<-i_,<-i_,List.take_left',i_]
  rw[h_,h_,A_,A_,C',C',g_,g_]
  lia
 rw[e]
 have mr:∀ q∈r.toList,q∈(xs.toList.drop (lo + k)).take (n - k)\/q∈(xs.toList.drop (lo + n)).take c:=fun q hq=>D_.mp (hr.1.mem_iff.mp hq)
 refine B'.mpr ⟨sx1,B'.mpr ⟨hr.2,sy2,fun p hp q hq=>?_⟩,fun p hp q hq=>?_⟩
 ·rcases mr p hp with hp | hp
  ·exact a2 p (by rw[X];exact q_ _ hp) q hq
  exact sy p hp q hq
 rcases D_.mp hq with hq | hq
 ·rcases mr q hq with hq | hq
  ·exact sx p hp q hq
  exact a1 p hp q (by rw[Y];exact JJ _ hq)
 exact a1 p hp q (by rw[Y];exact q_ _ hq)
end
theorem CV{α:Type}{ps:Array α}{pre post:List α}{x y:α}(h:ps.toList=pre++x::y::post):ps[pre.length]?=some x/\ps[pre.length + 1]?=some y:=by
 rw[<-i',<-i',h]
 constructor
 ·rw[Ki (c_ _),Mq];rfl
 rw[Ki (by lia),LD];rfl
theorem yA{α:Type}{ps:Array α}{pre post:List α}{x y z:α}(h:ps.toList=pre++x::y::post):((ps.setIfInBounds pre.length z).eraseIdxIfInBounds (pre.length + 1)).toList=pre++z::post:=by
 have hs:ps.size=pre.length + (post.length + 2):=by rw[<-g_,h,h_];rfl
 have hb:pre.length + 1 < (ps.setIfInBounds pre.length z).size:=by rw[Mu];lia
 unfold Array.eraseIdxIfInBounds
 rw[dif_pos hb,Array.toList_eraseIdx,Md,h]
 rw[List.set_append_right _ _ (c_ _),Mq,M0,List.eraseIdx_append_of_length_le (by lia),LD]
 rfl
section
variable{M:Pz}{A:N_}{E:NK->NO->Prop}{s:NO}{kd:ON}{rk:NQ->Nat}{S:NQ->Prop}
theorem FE{σ:Type}{v st:σ}{Q:PUnit->σ->Prop}(q:Q ⟨⟩ v):wpS M A E s (set v:StateT σ Sem PUnit) Q st:=by
 unfold wpS
 rw[StateT.run_set]
 exact NP ⟨rfl,q⟩
structure Mgd (rk:NQ->Nat) (st st':NV) (lo n:Nat) (ps:List (Nat × Nat × Nat)):Prop where
 k:kindOf st'=kindOf st
 f:Ou st'=none
 p:(N6 st').toList=ps
 a:(NS st').Perm (NS st)
 out:∀ i,(i < lo\/lo + n<=i)->(NS st')[i]?=(NS st)[i]?
 srt:eF rk (NS st') lo n
theorem F4{pre post:List (Nat × Nat × Nat)}{s1 n1 pw n2 p2:Nat}{st:NV}{Q:Bool->NV->Prop}(L:f6 M A E s kd rk S)(hk:kindOf st=kd)(hS:kH S st)(hf:Ou st=none)(hr:∀ x,NT M A (rule x) (fun _ s'=>s'=s) E s)
  (hp:(N6 st).toList=pre++(s1,n1,pw)::(s1 + n1,n2,p2)::post) (h1:1<=n1) (h2:1<=n2) (hsz:s1 + n1 + n2<=(NS st).size) (o1:eF rk (NS st) s1 n1) (o2:eF rk (NS st) (s1 + n1) n2)
  (h:∀ st',Mgd rk st st' s1 (n1 + n2) (pre++(s1,n1 + n2,pw)::post)->Q true st'):wpS M A E s (Sg pre.length) Q st:=by
 rw[GH]
 refine NU (PQ ?_)
 dsimp only
 obtain⟨e1,e2⟩:=CV hp
 rw[e1,e2]
 dsimp only
 refine NU (FE ?_)
 generalize hst1:Pj (kindOf st) (NS st) (((N6 st).setIfInBounds pre.length (s1,n1 + n2,pw)).eraseIdxIfInBounds (pre.length + 1)) (RA st) (Ou st)=st1
 have k1:kindOf st1=kd:=by rw[<-hst1];exact hk
 have a1:NS st1=NS st:=by rw[<-hst1]
 have f1:Ou st1=none:=by rw[<-hst1];exact hf
 have p1:(N6 st1).toList=pre++(s1,n1 + n2,pw)::post:=by rw[<-hst1];exact yA hp
 have SA:∀(i:Nat) p,(NS st)[i]?=some p->S p:=fun i p e=>hS.at e
 have gt:∀ i,i < (NS st).size->∃ p,(NS st)[i]?=some p:=fun i hi=>⟨_,x_ hi⟩
 have RR:∀ {i:Nat} {p:NQ},(NS st)[i]?=some p->R rk (NS st) i=rk p:=fun{i p} e=>by unfold R;rw[e]
 obtain⟨ky,hky⟩:=gt (s1 + n1) (by lia)
 have jK:eF rk (NS st) s1 (n1 + n2)->Q true st1:=fun z=>h st1 ⟨k1.trans hk.symm,f1,p1,by rw[a1],fun i _=>by rw[a1],by rw[a1];exact z⟩
 refine NU (bf hky (NU (jd L k1 (by lia) (by lia) SA (SA _ _ hky) (fun i j p q hij hj hp hq=>?_) fun k hk1 g1 g2=>?_)))
 ·have:=o1 i j hij hj
  rw[RR hp,RR hq]at this
  exact this
 dsimp only
 have below:∀ i,i < k->∀ j,j < n2->R rk (NS st) (s1 + i)<=R rk (NS st) (s1 + n1 + j):=fun i hi j hj=>by
  obtain⟨p,hp⟩:=gt (s1 + i) (by lia)
  have a:=g1 i p hi hp
  rw[if_neg (by simp)]at a
  have b:=o2 0 j (z_ _) hj
  rw[Mt,RR hky]at b
  rw[RR hp]
  exact n_ a b
 by_cases z:n1 - k=0
 ·rw[if_pos (by rw[z];rfl)]
  exact NZ (jK (rJ o1 o2 fun i j hi hj=>below i (by lia) j hj))
 rw[if_neg (by simpa using z)]
 obtain⟨la,hla⟩:=gt (s1 + n1 - 1) (by lia)
 rw[qP hk1]
 refine NU (bf hla (NU (jd L k1 (by lia) (by omega) SA (SA _ _ hla) (fun i j p q hij hj hp hq=>?_) fun c hc1 d1 d2=>?_)))
 ·have:=o2 i j hij hj
  rw[RR hp,RR hq]at this
  exact this
 dsimp only
 have above:∀ i,i < n1->∀ j,c<=j->j < n2->R rk (NS st) (s1 + i)<=R rk (NS st) (s1 + n1 + j):=fun i hi j hj hj2=>by
  obtain⟨p,hp⟩:=gt (s1 + n1 + j) (by lia)
  have a:=d2 j p hj hj2 hp
  rw[if_pos rfl]at a
  have hn1:1<=n1:=by lia
  have b:=o1 i (n1 - 1) (by lia) (Mf hn1 K0)
  rw[yg hn1,RR hla]at b
  rw[RR hp]
  exact n_ b a
 by_cases w:c=0
 ·rw[if_pos (by rw[w];rfl)]
  exact NZ (jK (rJ o1 o2 fun i j hi hj=>above i hi j (by lia) hj))
 rw[if_neg (by simpa using w)]
 have ex:((NS st).extract (s1 + k) (s1 + n1)).toList=((NS st).toList.drop (s1 + k)).take (n1 - k):=by
  have:=kg (NS st) (s1 + k) (n1 - k)
  rw[qP hk1]at this
  exact this
 have ey:=kg (NS st) (s1 + n1) c
 have zx:((NS st).extract (s1 + k) (s1 + n1)).size=n1 - k:=by rw[M3];lia
 have zy:((NS st).extract (s1 + n1) (s1 + n1 + c)).size=c:=by rw[M3];lia
 have T2:∀ {i:Nat} {p:NQ},(NS st).toList[i]?=some p->(NS st)[i]?=some p:=fun{i p} e=>by rw[i']at e;exact e
 have sX:=iK o1
 have sY:=iK o2
 rw[kh hk1]at sX
 rw[kh hc1]at sY
 have H:LoOk rk S ((NS st).extract (s1 + k) (s1 + n1)) ((NS st).extract (s1 + n1) (s1 + n1 + c)):=by
  refine⟨by rw[ex];exact(B'.mp sX).2.1,by rw[ey];exact(B'.mp sY).1,fun i p e=>?_,fun i p e=>?_,by lia,by lia,fun p e u hu=>?_,fun p e u hu=>?_⟩
  ·rw[K4]at e
   split at e
   ·exact SA _ _ e
   cases e
  ·rw[K4]at e
   split at e
   ·exact SA _ _ e
   cases e
  ·rw[K4,if_pos (by lia),Mt,hky]at e
   cases e
   rw[ex]at hu
   obtain⟨j,hj,ej⟩:=fJ hu
   have:=g2 (k + j) u (by lia) (by lia) (by rw[<-LL];exact T2 ej)
   rw[if_neg (by simp)]at this
   exact JI this
  rw[zx,K4,if_pos (by lia),show s1 + k + (n1 - k - 1)=s1 + n1 - 1 by lia,hla]at e
  cases e
  rw[ey]at hu
  obtain⟨j,hj,ej⟩:=fJ hu
  have:=d1 j u hj (T2 ej)
  rw[if_pos rfl]at this
  exact JI this
 have fin:∀ r st2,Keep st1 st2->Res rk ((NS st).extract (s1 + k) (s1 + n1)).toList ((NS st).extract (s1 + n1) (s1 + n1 + c)).toList r.toList->wpS M A E s (do
   modify fun z=>setArr z (wrote (NS z) (s1 + k) r)
   let g <-get
   pure (Ou g).isNone:StateT NV Sem Bool) Q st2:=fun r st2 K hres=>by
  rw[ex,ey]at hres
  refine NU (QK (NU (PQ (NZ ?_))))
  have hf2:Ou st2=none:=K.f.trans f1
  have aa:NS st2=NS st:=K.a.trans a1
  have q1:∀ p∈((NS st).toList.drop s1).take k,∀ q∈((NS st).toList.drop (s1 + n1)).take n2,rk p<=rk q:=fun p hp q hq=>by
   obtain⟨i,hi,ei⟩:=fJ hp
   obtain⟨j,hj,ej⟩:=fJ hq
   have:=below i hi j hj
   rw[RR (T2 ei),RR (T2 ej)]at this
   exact this
  have q2:∀ p∈((NS st).toList.drop s1).take n1,∀ q∈((NS st).toList.drop (s1 + n1 + c)).take (n2 - c),rk p<=rk q:=fun p hp q hq=>by
   obtain⟨i,hi,ei⟩:=fJ hp
   obtain⟨j,hj,ej⟩:=fJ hq
   have:=above i hi (c + j) (by lia) (by lia)
   rw[<-LL,RR (T2 ei),RR (T2 ej)]at this
   exact this
  obtain⟨m1,m2,m3⟩:=merged (rk:=rk) (xs:=NS st) (r:=r) (lo:=s1) (k:=k) (n:=n1) (m:=n2) (c:=c) hk1 hc1 (by omega) o1 o2 q1 q2 hres
  rw[show(Ou (setArr st2 (wrote (NS st2) (s1 + k) r))).isNone=true by show(Ou st2).isNone=true;rw[hf2];rfl]
  refine h _ ⟨K.k.trans (k1.trans hk.symm),hf2,?_,?_,fun i hi=>?_,?_⟩
  ·show(N6 st2).toList=_
   rw[K.p]
   exact p1
  ·show(wrote (NS st2) (s1 + k) r).Perm _
   rw[aa]
   exact m1
  ·show(wrote (NS st2) (s1 + k) r)[i]?=_
   rw[aa]
   exact m2 i (by lia)
  show eF rk (wrote (NS st2) (s1 + k) r) _ _
  rw[aa]
  exact m3
 by_cases v:n1 - k<=c
 ·rw[if_pos v]
  exact NU (Fs L H k1 fin hr)
 rw[if_neg v]
 exact NU (EE L H k1 fin hr)
end
abbrev CS:=Option Unit × Unit
abbrev LS:=Option Unit × Nat
noncomputable def mH(w0:Nat):StateT NV Sem (ForInStep CS):=do
 let g <-get
 match(if(N6 g).size > 1 then(N6 g)[(N6 g).size - 2]? else none)with
 | some (_,_,old)=>
  if old<=w0 then pure (NX (none,()))
  else do
   let b <-Sg ((N6 g).size - 2)
   if(!b)=true then pure (NX (some (),()))else pure (N8 (none,()))
 | _=>pure (NX (none,()))
noncomputable def pP(q0 n:Nat):StateT NV Sem (ForInStep LS):=do
 modify fun z=>setPending z ((N6 z).push (q0,n,0))
 pure (N8 (none,q0 + n))
noncomputable def tl(sz q0 n:Nat):StateT NV Sem (ForInStep LS):=do
 let g <-get
 match(N6 g).back? with
 | some (s1,n1,_)=>do
  let c <-forIn [0:sz] ((none,()):CS) fun _ _=>mH (power' sz (2 * s1 + n1) (2 * s1 + n1 + n1 + n) sz)
  match c.1 with
  | some r=>pure (NX (some r,q0))
  | none=>do
   modify fun z=>setPending z ((N6 z).modify ((N6 z).size - 1) fun x=>(x.1,x.2.1,power' sz (2 * s1 + n1) (2 * s1 + n1 + n1 + n) sz))
   pP q0 n
 | _=>pP q0 n
noncomputable def jX(sz q0:Nat):StateT NV Sem (ForInStep LS):=
 if q0>=sz then pure (NX (none,q0))else do
  let f <-T5 q0 (sz - q0)
  match f with
  | some n=>
   if n < SH sz sz 0 then do
    rule "list.sort.binary-insertion"
    let b <-U_ q0 (min (sz - q0) (SH sz sz 0)) n
    if(!b)=true then pure (NX (some (),q0))else tl sz q0 (min (sz - q0) (SH sz sz 0))
   else tl sz q0 n
  | _=>pure (NX (some (),q0))
noncomputable def pick(ps:Array (Nat × Nat × Nat)):Nat:=
 if NI (fun x=>decide (x < ps[ps.size - 2 + 1]?.elim 0 fun y=>y.2.1)) (if ps.size - 2 > 0 then Nw (fun y=>y.2.1) ps[ps.size - 2 - 1]? else none)=true then ps.size - 2 - 1 else ps.size - 2
noncomputable def xk:StateT NV Sem (ForInStep CS):=do
 let g <-get
 if(N6 g).size<=1 then pure (NX (none,()))
 else do
  let b <-Sg (pick (N6 g))
  if(!b)=true then pure (NX (some (),()))else pure (N8 (none,()))
theorem Ib:sortRuns'=(do
 let g <-get
 let c <-forIn [0:(NS g).size] ((none,0):LS) fun _ c=>jX (NS g).size c.2
 match c.1 with
 | some r=>pure r
 | none=>do
  let d <-forIn [0:(NS g).size] ((none,()):CS) fun _ _=>xk
  match d.1 with
  | some r=>pure r
  | none=>pure ()):=by
 rw[sortRuns'_eq]
 dsimp only
 refine congrArg (bind get) (funext fun g=>?_)
 refine congr (congrArg bind ?_) (funext fun c=>?_)
 ·refine congrArg (forIn _ _) (funext fun _=>funext fun c=>?_)
  unfold jX
  refine ite_congr rfl (fun _=>rfl) (fun _=>?_)
  refine congrArg (bind _) (funext fun f=>?_)
  cases f with
  | none=>rfl
  | some n=>
   dsimp only
   refine ite_congr rfl (fun _=>congrArg (bind _) (funext fun _=>congrArg (bind _) (funext fun b=>ite_congr rfl (fun _=>rfl) (fun _=>?_)))) (fun _=>?_)
   all_goals
    unfold tl
    refine congrArg (bind _) (funext fun g=>?_)
    generalize (N6 g).back?=bk
    rcases bk with _ | ⟨s1,n1,z⟩
    ·rfl
    dsimp only
    refine congr (congrArg bind ?_) (funext fun c=>?_)
    ·refine congrArg (forIn _ _) (funext fun _=>funext fun c=>?_)
     unfold mH
     refine congrArg (bind _) (funext fun g=>?_)
     generalize (if(N6 g).size > 1 then(N6 g)[(N6 g).size - 2]? else none)=o
     rcases o with _ | ⟨_,_,_⟩ <;> rfl
    rcases c with⟨_ | _,_⟩ <;> rfl
 rcases c with⟨_ | _,_⟩
 ·dsimp only
  refine congr (congrArg bind ?_) (funext fun c=>?_)
  ·rfl
  rcases c with⟨_ | _,_⟩ <;> rfl
 rfl
def Pd(rk:NQ->Nat)(xs:Array NQ):List (Nat × Nat × Nat)->Nat->Nat->Prop
 | [],a,b=>a=b
 | (c,n,_)::t,a,b=>c=a/\1<=n/\eF rk xs c n/\Pd rk xs t (a + n) b
section
variable{rk:NQ->Nat}
theorem Pd.le {xs:Array NQ}:∀ {l:List (Nat × Nat × Nat)} {a b:Nat},Pd rk xs l a b->a + l.length<=b
 | [],_,_,h=>Lv h
 | (c,n,_)::t,a,b,h=>by
  have:=h.2.2.2.le
  have:=h.2.1
  rw[j_]
  lia
theorem Pd.congr {xs ys:Array NQ}:∀ {l:List (Nat × Nat × Nat)} {a b:Nat},Pd rk xs l a b->(∀ i,a<=i->i < b->R rk ys i=R rk xs i)->Pd rk ys l a b
 | [],_,_,h,_=>h
 | (c,n,_)::t,a,b,h,e=>by
  have le:=h.2.2.2.le
  have ca:=h.1
  refine⟨h.1,h.2.1,fun i j hij hj=>?_,h.2.2.2.congr fun i h1 h2=>e i (by lia) h2⟩
  rw[e _ (by lia) (by lia),e _ (by lia) (by lia)]
  exact h.2.2.1 i j hij hj
theorem gI{xs:Array NQ}:∀ {l m:List (Nat × Nat × Nat)} {a b:Nat},Pd rk xs (l++m) a b↔∃ c,Pd rk xs l a c/\Pd rk xs m c b
 | [],m,a,b=>⟨fun h=>⟨a,rfl,h⟩,fun⟨c,e,h⟩=>by cases (show a=c from e);exact h⟩
 | (c,n,_)::t,m,a,b=>⟨fun h=>by
   obtain⟨d,h1,h2⟩:=gI.mp h.2.2.2
   exact⟨d,⟨h.1,h.2.1,h.2.2.1,h1⟩,h2⟩,fun⟨d,h,h2⟩=>⟨h.1,h.2.1,h.2.2.1,gI.mpr ⟨d,h.2.2.2,h2⟩⟩⟩
theorem Pd.modify {xs:Array NQ}{w0:Nat}:∀ {l:List (Nat × Nat × Nat)} {i a b:Nat},Pd rk xs l a b->Pd rk xs (l.modify i fun x=>(x.1,x.2.1,w0)) a b
 | [],i,_,_,h=>by cases i <;> exact h
 | (c,n,_)::t,0,a,b,h=>⟨h.1,h.2.1,h.2.2.1,h.2.2.2⟩
 | (c,n,_)::t,i + 1,a,b,h=>⟨h.1,h.2.1,h.2.2.1,h.2.2.2.modify⟩
theorem pY{α:Type}:∀ {l:List α} {i:Nat},i + 1 < l.length->∃ pre x y post,l=pre++x::y::post/\pre.length=i
 | x::y::t,0,_=>⟨[],x,y,t,rfl,rfl⟩
 | [_],0,h=>absurd h (by simp)
 | x::t,i + 1,h=>by
  obtain⟨p,a,b,q,e,f⟩:=pY (l:=t) (i:=i) (by rw[j_]at h;lia)
  exact⟨x::p,a,b,q,by rw[e];rfl,by rw[j_,f]⟩
 | [],_,h=>absurd h (by simp)
end
section
variable{M:Pz}{A:N_}{E:NK->NO->Prop}{s:NO}{kd:ON}{rk:NQ->Nat}{S:NQ->Prop}{a0:Array NQ}
structure Iv (kd:ON) (rk:NQ->Nat) (a0:Array NQ) (q0:Nat) (st:NV):Prop where
 k:kindOf st=kd
 f:Ou st=none
 a:(NS st).Perm a0
 pd:Pd rk (NS st) (N6 st).toList 0 q0
theorem Iv.all {q0:Nat}{st:NV}(h:Iv kd rk a0 q0 st)(hS:∀ p∈a0.toList,S p):kH S st:=fun p hp=>hS p ((Kz.mp h.a).mem_iff.mp hp)
theorem tM{q0 i:Nat}{st:NV}{Q:Bool->NV->Prop}(L:f6 M A E s kd rk S)(hS:∀ p∈a0.toList,S p)(hr:∀ x,NT M A (rule x) (fun _ s'=>s'=s) E s)(I:Iv kd rk a0 q0 st)(hq:q0<=a0.size)(hi:i + 1 < (N6 st).size)
  (h:∀ st',Iv kd rk a0 q0 st'->(N6 st').size + 1=(N6 st).size->(∀ j,q0<=j->(NS st')[j]?=(NS st)[j]?)->Q true st'):wpS M A E s (Sg i) Q st:=by
 obtain⟨pre,⟨s1,n1,pw⟩,⟨s2,n2,p2⟩,post,e,el⟩:=pY (l:=(N6 st).toList) (i:=i) (by rw[g_];exact hi)
 subst el
 have P:=I.pd
 rw[e]at P
 obtain⟨c,P1,e1,k1,o1,e2,k2,o2,P3⟩:=gI.mp P
 subst e1
 subst e2
 have le:=P3.le
 have sz:=I.a.size_eq
 refine F4 L I.k (I.all hS) I.f hr e k1 k2 (by lia) o1 o2 fun st' m=>?_
 have same:∀ j,(j < s1\/s1 + n1 + n2<=j)->R rk (NS st') j=R rk (NS st) j:=fun j hj=>fW (m.out j (by lia))
 refine h st' ⟨m.k.trans I.k,m.f,m.a.trans I.a,?_⟩ ?_ fun j hj=>m.out j (by lia)
 ·rw[m.p]
  refine gI.mpr ⟨s1,P1.congr fun j _ hj=>same j (by lia),rfl,by lia,m.srt,?_⟩
  rw[<-LL]
  exact P3.congr fun j hj _=>same j (by lia)
 rw[<-g_,<-g_,m.p,e]
 simp only[h_,j_]
 lia
theorem vm{q0 w0:Nat}{st:NV}{Q:ForInStep CS->NV->Prop}(L:f6 M A E s kd rk S)(hS:∀ p∈a0.toList,S p)(hr:∀ x,NT M A (rule x) (fun _ s'=>s'=s) E s)(I:Iv kd rk a0 q0 st)(hq:q0<=a0.size)
  (h:∀ st' (d:Bool),Iv kd rk a0 q0 st'->(∀ j,q0<=j->(NS st')[j]?=(NS st)[j]?)->Q (if d=true then NX (none,())else N8 (none,())) st'):wpS M A E s (mH w0) Q st:=by
 unfold mH
 refine NU (PQ ?_)
 generalize ho:(if(N6 st).size > 1 then(N6 st)[(N6 st).size - 2]? else none)=o
 rcases o with _ | ⟨x,y,old⟩
 ·exact NZ (h st true I fun _ _=>rfl)
 dsimp only
 have h1:(N6 st).size > 1:=by
  by_cases z:(N6 st).size > 1
  ·exact z
  rw[if_neg z]at ho;cases ho
 by_cases w:old<=w0
 ·rw[if_pos w]
  exact NZ (h st true I fun _ _=>rfl)
 rw[if_neg w]
 refine NU (tM L hS hr I hq (by lia) fun st' I' _ e=>?_)
 rw[if_neg (by simp)]
 exact NZ (h st' false I' e)
theorem pJ{q0 n:Nat}{st:NV}{Q:ForInStep LS->NV->Prop}(I:Iv kd rk a0 q0 st)(hn:1<=n)(o:eF rk (NS st) q0 n)(h:∀ st',Iv kd rk a0 (q0 + n) st'->Q (N8 (none,q0 + n)) st'):wpS M A E s (pP q0 n) Q st:=by
 unfold pP
 refine NU (QK (NZ (h _ ⟨I.k,I.f,I.a,?_⟩)))
 show Pd rk (NS st) ((N6 st).push (q0,n,0)).toList 0 (q0 + n)
 rw[K']
 exact gI.mpr ⟨q0,I.pd,rfl,hn,o,rfl⟩
theorem E7{q0 n:Nat}{st:NV}{Q:ForInStep LS->NV->Prop}(L:f6 M A E s kd rk S)(hS:∀ p∈a0.toList,S p)(hr:∀ x,NT M A (rule x) (fun _ s'=>s'=s) E s)(I:Iv kd rk a0 q0 st)(hq:q0<=a0.size)(hn:1<=n)(o:eF rk (NS st) q0 n)
  (h:∀ st',Iv kd rk a0 (q0 + n) st'->Q (N8 (none,q0 + n)) st'):wpS M A E s (tl a0.size q0 n) Q st:=by
 unfold tl
 refine NU (PQ ?_)
 generalize (N6 st).back?=bk
 rcases bk with _ | ⟨s1,n1,z⟩
 ·exact pJ I hn o h
 dsimp only
 generalize power' a0.size (2 * s1 + n1) (2 * s1 + n1 + n1 + n) a0.size=w0
 refine NU (OO (Oq (I:=fun _ c st'=>c=(none,())/\Iv kd rk a0 q0 st'/\∀ j,q0<=j->(NS st')[j]?=(NS st)[j]?) (Q:=fun c st'=>c=(none,())/\Iv kd rk a0 q0 st'/\∀ j,q0<=j->(NS st')[j]?=(NS st)[j]?) ?_ (fun _ _ z=>z) ⟨rfl,I,fun _ _=>rfl⟩) ?_)
 ·rintro x c st1 _ _ ⟨rfl,I1,e1⟩
  refine vm L hS hr I1 hq fun st2 d I2 e2=>?_
  cases d
  ·exact⟨rfl,I2,fun j hj=>(e2 j hj).trans (e1 j hj)⟩
  exact⟨rfl,I2,fun j hj=>(e2 j hj).trans (e1 j hj)⟩
 rintro c st1 ⟨rfl,I1,e1⟩
 dsimp only
 refine NU (QK ?_)
 refine pJ ⟨I1.k,I1.f,I1.a,?_⟩ hn (fun i j hij hj=>?_) h
 ·show Pd rk (NS st1) ((N6 st1).modify ((N6 st1).size - 1) fun x=>(x.1,x.2.1,w0)).toList 0 q0
  rw[Array.toList_modify]
  exact I1.pd.modify
 show R rk (NS st1) (q0 + i)<=R rk (NS st1) (q0 + j)
 rw[fW (rk:=rk) (e1 (q0 + i) (by lia)),fW (rk:=rk) (e1 (q0 + j) (by lia))]
 exact o i j hij hj
theorem Iv.within {q0 n:Nat}{st st':NV}(I:Iv kd rk a0 q0 st)(W:Within st st' q0 n):Iv kd rk a0 q0 st':=⟨W.kp.k.trans I.k,W.kp.f.trans I.f,W.kp.a.trans I.a,by
 rw[W.kp.p]
 exact I.pd.congr fun i _ hi=>fW (W.out i (.inl hi))⟩
theorem sJ{q0:Nat}{st:NV}{Q:ForInStep LS->NV->Prop}(L:f6 M A E s kd rk S)(hS:∀ p∈a0.toList,S p)(hr:∀ x,NT M A (rule x) (fun _ s'=>s'=s) E s)(I:Iv kd rk a0 q0 st)(hq:q0<=a0.size)
  (h1:q0=a0.size->Q (NX (none,q0)) st) (h2:∀ n st',1<=n->q0 + n<=a0.size->Iv kd rk a0 (q0 + n) st'->Q (N8 (none,q0 + n)) st'):wpS M A E s (jX a0.size q0) Q st:=by
 unfold jX
 by_cases z:q0>=a0.size
 ·rw[if_pos z]
  exact NZ (h1 (by lia))
 rw[if_neg z]
 have qz:=JI (Nk z)
 have sz:=I.a.size_eq
 refine NU (rj L I.k (I.all hS) (by lia) (by lia) hr fun n st1 g1 g2 W1 o1=>?_)
 dsimp only
 have I1:=I.within W1
 by_cases w:n < SH a0.size a0.size 0
 ·rw[if_pos w]
  generalize SH a0.size a0.size 0=mr at w ⊢
  refine NU (QX (Oh (hr _) (fun _ _ z=>⟨z,?_⟩) fun _ _ z=>z))
  have sz1:=I1.a.size_eq
  have f1:n<=min (a0.size - q0) mr:=Nat.le_min.mpr ⟨g2,JI w⟩
  have f4:q0 + min (a0.size - q0) mr<=a0.size:=n_ (Ln (Nat.min_le_left ..) q0) (Lv (Lp qz))
  have f5:=n_ g1 f1
  generalize min (a0.size - q0) mr=fr at f1 f4 f5 ⊢
  refine NU (DI L I1.k (I1.all hS) (by rw[sz1];exact f4) f1 o1 fun st2 W2 o2=>?_)
  rw[if_neg (by simp)]
  exact E7 L hS hr (I1.within W2) hq f5 o2 fun st3 I3=>h2 _ st3 f5 f4 I3
 rw[if_neg w]
 exact E7 L hS hr I1 hq g1 o1 fun st3 I3=>h2 _ st3 g1 (by lia) I3
theorem Cr{ps:Array (Nat × Nat × Nat)}(h:1 < ps.size):pick ps + 1 < ps.size:=by
 unfold pick
 generalize NI (fun x=>decide (x < ps[ps.size - 2 + 1]?.elim 0 fun y=>y.2.1)) (if ps.size - 2 > 0 then Nw (fun y=>y.2.1) ps[ps.size - 2 - 1]? else none)=b
 cases b
 ·rw[if_neg (by simp)];lia
 rw[if_pos rfl];lia
theorem rh{st:NV}{Q:Unit->NV->Prop}(L:f6 M A E s kd rk S)(hS:∀ p∈(NS st).toList,S p)(hr:∀ x,NT M A (rule x) (fun _ s'=>s'=s) E s)(hk:kindOf st=kd)(hf:Ou st=none)(hp:N6 st=#[])
  (h:∀ st',(NS st').Perm (NS st)->Ou st'=none->Srt rk (NS st').toList->Q () st'):wpS M A E s sortRuns' Q st:=by
 rw[Ib]
 refine NU (PQ ?_)
 have I0:Iv kd rk (NS st) 0 st:=⟨hk,hf,My _,by rw[hp];exact rfl⟩
 revert I0 hS h
 generalize NS st=a0
 intro hS h I0
 refine NU (OO (Oq (I:=fun x c st'=>∃ q0,c=(none,q0)/\x<=q0/\q0<=a0.size/\Iv kd rk a0 q0 st') (Q:=fun c st'=>c=(none,a0.size)/\Iv kd rk a0 a0.size st') ?_ ?_ ⟨0,rfl,c_ _,z_ _,I0⟩) ?_)
 ·rintro x c st1 _ _ ⟨q0,rfl,g1,g2,I⟩
  exact sJ L hS hr I g2 (fun e=>by subst e;exact⟨rfl,I⟩) fun n st2 k1 k2 I2=>⟨q0 + n,rfl,by lia,k2,I2⟩
 ·rintro c st1 ⟨q0,rfl,g1,g2,I⟩
  have e:q0=a0.size:=by lia
  subst e
  exact⟨rfl,I⟩
 rintro c st1 ⟨rfl,I1⟩
 dsimp only
 refine NU (OO (Oq (I:=fun x c st'=>c=(none,())/\Iv kd rk a0 a0.size st'/\((N6 st').size<=1\/(N6 st').size + x<=a0.size)) (Q:=fun c st'=>c=(none,())/\Iv kd rk a0 a0.size st'/\(N6 st').size<=1) ?_ ?_ ⟨rfl,I1,.inr ?_⟩) ?_)
 ·rintro x c st2 _ _ ⟨rfl,I2,g⟩
  unfold xk
  refine NU (PQ ?_)
  by_cases z:(N6 st2).size<=1
  ·rw[if_pos z]
   exact NZ ⟨rfl,I2,z⟩
  rw[if_neg z]
  refine NU (tM L hS hr I2 (c_ _) (Cr (by lia)) fun st3 I3 e _=>?_)
  rw[if_neg (by simp)]
  exact NZ ⟨rfl,I3,.inr (by lia)⟩
 ·rintro c st2 ⟨rfl,I2,g⟩
  exact⟨rfl,I2,by lia⟩
 ·have:=I1.pd.le
  rw[g_]at this
  lia
 rintro c st2 ⟨rfl,I2,g⟩
 refine NZ (h st2 I2.a I2.f ?_)
 have P:=I2.pd
 have sz:=I2.a.size_eq
 have lp:(N6 st2).toList.length<=1:=by rw[g_];exact g
 have o:eF rk (NS st2) 0 a0.size:=by
  generalize (N6 st2).toList=l at P lp
  match l,P,lp with
  | [],P,_=>
   have e:0=a0.size:=P
   intro i j _ hj
   lia
  | [(c,n,_)],P,_=>
   obtain⟨e1,_,o,e2⟩:=P
   have e2:0 + n=a0.size:=e2
   subst e1
   rw[<-e2,Lx]
   exact o
  | _::_::_,_,lp=>simp at lp
 have:=iK o
 rw[KN,J' (by rw[g_];lia)]at this
 exact this
end
section
variable{κ:Type}{lt:κ->κ->Bool}
def rnk(lt:κ->κ->Bool)(ks:List κ)(k:κ):Nat:=ks.countP fun y=>lt y k
theorem count_le{p q:κ->Bool}:∀ {l:List κ},(∀ x∈l,p x=true->q x=true)->l.countP p<=l.countP q
 | [],_=>c_ _
 | x::t,h=>by
  have ih:=count_le (l:=t) fun y hy=>h y (.tail _ hy)
  have hx:=h x (.head _)
  rw[LN,LN]
  cases e:p x
  ·rw[if_neg (by simp)];lia
  rw[hx e,if_pos rfl];lia
theorem tH{p q:κ->Bool}:∀ {l:List κ} {z:κ},(∀ x∈l,p x=true->q x=true)->z∈l->p z=false->q z=true->l.countP p < l.countP q
 | x::t,z,h,hz,h1,h2=>by
  have ih:=count_le (l:=t) fun y hy=>h y (.tail _ hy)
  have hx:=h x (.head _)
  rw[LN,LN]
  rcases t_.mp hz with e | e
  ·subst e
   rw[h1,h2,if_neg (by simp),if_pos rfl];lia
  have:=tH (l:=t) (fun y hy=>h y (.tail _ hy)) e h1 h2
  cases e:p x
  ·rw[if_neg (by simp)];lia
  rw[hx e,if_pos rfl];lia
structure Tot (lt:κ->κ->Bool):Prop where
 irr:∀ a,lt a a=false
 tr:∀ a b c,lt a b=true->lt b c=true->lt a c=true
 tot:∀ a b,lt a b=false->lt b a=false->a=b
theorem Gz(T:Tot lt){ks:List κ}{a b:κ}(h:lt b a=false):rnk lt ks a<=rnk lt ks b:=by
 refine count_le fun y _ hy=>?_
 cases e:lt a b
 ·rw[<-T.tot a b e h];exact hy
 exact T.tr _ _ _ hy e
theorem nH(T:Tot lt){ks:List κ}{a b:κ}(ha:a∈ks)(h:lt a b=true):rnk lt ks a < rnk lt ks b:=tH (fun y _ hy=>T.tr _ _ _ hy h) ha (T.irr a) h
theorem qL(T:Tot lt){ks:List κ}{a b:κ}(ha:a∈ks):decide (rnk lt ks a < rnk lt ks b)=lt a b:=by
 cases e:lt a b
 ·exact decide_eq_false (Mh.mpr (Gz T e))
 exact decide_eq_true (nH T ha e)
end
def ltL:List Int->List Int->Bool
 | _,[]=>false
 | [],_::_=>true
 | a::x,b::y=>if a=b then ltL x y else decide (a < b)
theorem vO:∀ x,ltL x x=false
 | []=>rfl
 | a::x=>by rw[ltL,if_pos rfl];exact vO x
theorem zW:∀ a b c,ltL a b=true->ltL b c=true->ltL a c=true
 | _,[],_,h,_=>by simp[ltL]at h
 | _,_::_,[],_,h=>by simp[ltL]at h
 | [],_::_,_::_,_,_=>rfl
 | a::x,b::y,c::z,h,g=>by
  rw[ltL]at h g ⊢
  by_cases e1:a=b
  ·subst e1
   rw[if_pos rfl]at h
   by_cases e2:a=c
   ·subst e2
    rw[if_pos rfl]at g ⊢
    exact zW x y z h g
   rw[if_neg e2]at g ⊢
   exact g
  rw[if_neg e1]at h
  have h:=of_decide_eq_true h
  by_cases e2:b=c
  ·subst e2
   rw[if_neg e1]
   exact decide_eq_true h
  rw[if_neg e2]at g
  have g:=of_decide_eq_true g
  rw[if_neg (by lia)]
  exact decide_eq_true (by lia)
theorem wu:∀ a b,ltL a b=false->ltL b a=false->a=b
 | [],[],_,_=>rfl
 | [],_::_,h,_=>by simp[ltL]at h
 | _::_,[],_,h=>by simp[ltL]at h
 | a::x,b::y,h,g=>by
  rw[ltL]at h g
  by_cases e:a=b
  ·subst e
   rw[if_pos rfl]at h g
   rw[wu x y h g]
  rw[if_neg e]at h
  rw[if_neg (fun z=>e z.symm)]at g
  have h:=of_decide_eq_false h
  have g:=of_decide_eq_false g
  lia
theorem qi:Tot ltL:=⟨vO,zW,wu⟩
def d9:NK->Int
 | .int i _=>i
 | _=>0
def fP(h:N5):NK->List Int
 | .ref a=>match h.get? a with
  | some o=>match o.data with
   | .seq xs _=>xs.toList.map d9
   | _=>[]
  | none=>[]
 | _=>[]
def AllInt(l:List NK):Prop:=∀ v∈l,∃ i t,v=.int i t
noncomputable def D3(h:N5)(v:NK):Prop:=∃ a o xs n,v=.ref a/\h.get? a=some o/\o.cls=.type "tuple"/\o.data=.seq xs n/\AllInt xs.toList/\0 < xs.size
theorem m8{h:N5}{a:NN}{o:Obj}{xs:Array NK}{n:Nat}(e:h.get? a=some o)(d:o.data=.seq xs n):fP h (.ref a)=xs.toList.map d9:=by
 unfold fP
 dsimp only
 rw[e]
 dsimp only
 rw[d]
section
variable{prog:NW}{w:N3}{A:N_}{E:NK->NO->Prop}{s:NO}
theorem xc{Q:Bool->NO->Prop}{fin:Bool}:∀(xs ys:List NK) (i:Nat),AllInt xs->AllInt ys->fin=decide (xs.length < ys.length)->Q (ltL (xs.map d9) (ys.map d9)) s->PySem.W.KatLex prog w A true fin Q (xs.zip ys) i s
 | [],[],i,_,_,e,q=>by
  subst e
  exact RK q
 | [],b::y,i,_,_,e,q=>by
  subst e
  exact RK q
 | a::x,[],i,_,_,e,q=>by
  subst e
  exact RK q
 | a::x,b::y,i,ha,hb,e,q=>by
  obtain⟨n,t,rfl⟩:=ha a (.head _)
  obtain⟨m,u,rfl⟩:=hb b (.head _)
  rw[d_,d_,ltL]at q
  refine PySem.W.kat_cons (Rt ?_)
  by_cases z:n=m
  ·have q:Q (ltL (x.map d9) (y.map d9)) s:=by
    rw[if_pos (show d9 (.int n t)=d9 (.int m u)from z)]at q
    exact q
   rw[show(n == m)=true by simpa using z]
   refine PySem.W.kat_yes (xc x y (i + 1) (fun v hv=>ha v (.tail _ hv)) (fun v hv=>hb v (.tail _ hv)) ?_ q)
   rw[e,j_,j_]
   exact decide_eq_decide.mpr (by lia)
  have q:Q (decide (n < m)) s:=by
   rw[if_neg (show ¬ d9 (.int n t)=d9 (.int m u)from z)]at q
   exact q
  rw[show(n == m)=false by simpa using z]
  refine PySem.W.kat_no ?_
  cases (true && i == 0)
  ·exact PySem.W.kat_one _ _ (lt_int q)
  exact oneLt_int q
theorem tq{h0:N5}{ks:List (List Int)}{S:NQ->Prop}(hS:∀ x,S x->D3 h0 x.1/\fP h0 x.1∈ks)(hk:∀ b o,h0.get? b=some o->(∃ x n,o.cls=.type "tuple"/\o.data=.seq x n)->s.heap.get? b=some o) :
  f6 (N1 prog w) A E s (TV true) (fun x=>rnk ltL ks (fP h0 x.1)) S:=by
 intro x y st Q sx sy kd q
 obtain⟨⟨a,oa,xs,na,ea,ga,ca,da,ia,_⟩,ma⟩:=hS x sx
 obtain⟨⟨b,ob,ys,nb,eb,gb,cb,db,ib,_⟩,mb⟩:=hS y sy
 rw[lt'_eq]
 refine NU (PQ ?_)
 rw[kd,ea,eb]
 refine NU (QX (O5 (PySem.W.kat_lt (hk _ _ ga ⟨_,_,ca,da⟩) da (hk _ _ gb ⟨_,_,cb,db⟩) db (xc _ _ 0 ia ib (by rw[g_,g_]) ⟨rfl,?_⟩))))
 refine NZ ?_
 dsimp only at q
 rw[qL qi ma,ea,eb,m8 ga da,m8 gb db]at q
 exact q
theorem u6{M:Pz}{h0:N5}{vs:List NK}{Q:ON->NO->Prop}(hv:∀ v∈vs,D3 h0 v)(hk:∀ b o,h0.get? b=some o->(∃ x n,o.cls=.type "tuple"/\o.data=.seq x n)->s.heap.get? b=some o)(hne:vs≠[])(q:Q (TV true) s):NT M A (QY vs.toArray) Q E s:=by
 have mk:∀(l:List NK),(∀ v∈l,D3 h0 v)->∃ fs,PySem.W.KatTups s.heap l fs/\AllInt fs/\fs.length=l.length:=by
  intro l
  induction l with
  | nil=>exact fun _=>⟨[],Vp,fun v hv=>(nomatch hv),rfl⟩
  | cons v r ih=>
   intro hl
   obtain⟨fs,k1,k2,k3⟩:=ih fun v hv=>hl v (.tail _ hv)
   obtain⟨a,o,xs,n,rfl,g,c,d,i,z⟩:=hl v (.head _)
   obtain⟨f,hf⟩:∃ f,xs[0]?=some f:=⟨_,x_ z⟩
   refine⟨f::fs,Vl (hk _ _ g ⟨_,_,c,d⟩) c d hf k1,fun v hv=>?_,by rw[j_,j_,k3]⟩
   rcases t_.mp hv with e | e
   ·subst e
    rw[<-i']at hf
    exact i _ (JY hf)
   exact k2 v e
 obtain⟨fs,k1,k2,k3⟩:=mk vs hv
 refine PySem.W.kat_kind (T:=.type "int") k1 ?_ (fun v hv=>?_) rfl q
 ·rw[k3]
  exact Lq.mpr hne
 obtain⟨i,t,rfl⟩:=k2 v hv
 exact .now
end
section
variable{prog:NW}{w:N3}{A:N_}{E:NK->NO->Prop}{s:NO}
theorem nk(vs:List NK):(vs.toArray.zip vs.toArray).toList=vs.map fun v=>(v,v):=by
 rw[Array.toList_zip]
 induction vs with
 | nil=>rfl
 | cons v r ih=>exact congrArg ((v,v)::·) ih
theorem om{a:NN}{vs:List NK}{n:Nat}{kd:ON}{rk:NQ->Nat}{S:NQ->Prop}{P:PySem.Fin->NO->Prop}(ho:s.heap.get? a=some (OB "list" vs.toArray n))(hz:vs.length<=sizeLine)(hS:∀ v∈vs,S (v,v))
  (kind:∀ h',(∀ b o,b≠a->s.heap.get? b=some o->h'.get? b=some o)->∀ {Q:ON->NO->Prop},vs≠[]->Q kd { s with heap:=h' }->NT (N1 prog w) A (QY vs.toArray) Q E { s with heap:=h' })
  (lt:∀ h',(∀ b o,b≠a->s.heap.get? b=some o->h'.get? b=some o)->f6 (N1 prog w) A E { s with heap:=h' } kd rk S)
  (h:∀(o:List NK) c h',o.Perm vs->o.Pairwise (fun x y=>rk (x,x)<=rk (y,y))->(∀ b u,b≠a->s.heap.get? b=some u->h'.get? b=some u)->h'.get? a=some (OB "list" o.toArray c)->P (.done (.ret .none)) { s with heap:=h' }) :
  NT (N1 prog w) A (OY.«list.sort» ⟨[.ref a],[]⟩) P E s:=by
 rw[list_sort_plain]
 have ha:a < s.heap.objs.size:=NY ho
 refine NL (listItems_at ho rfl ?_)
 refine NL (Ue ho rfl ?_ (by rw[m_];exact hz) (z_ _))
 obtain⟨e1,ho1⟩:∃ e1,(s.heap.update a (OD fun _=>(#[]:Array NK))).get? a=some (OB "list" #[] e1):=⟨_,Tv ho fun _=>#[]⟩
 refine NL (U' ho1 rfl ?_)
 refine NL (TM ?_ hz)
 refine NL (Qv ?_ (z_ _))
 refine Oj ?_
 have k2:∀ b u,(s.heap.update a (OD fun _=>(#[]:Array NK))).get? b=some u->(((s.heap.update a (OD fun _=>(#[]:Array NK))).push (OB "tuple" vs.toArray 0)).push (OB "list" #[] 0)).get? b=some u:=fun b u e=>NR _ (NR _ e)
 have k3:∀ b u,b≠a->s.heap.get? b=some u->(((s.heap.update a (OD fun _=>(#[]:Array NK))).push (OB "tuple" vs.toArray 0)).push (OB "list" #[] 0)).get? b=some u:=fun b u hb e=>k2 b u (by rw[QO _ _ _ _ hb];exact e)
 have ho6:=k2 _ _ ho1
 show NT (N1 prog w) A _ P E { s with heap:=((s.heap.update a (OD fun _=>(#[]:Array NK))).push (OB "tuple" vs.toArray 0)).push (OB "list" #[] 0) }
 generalize ((s.heap.update a (OD fun _=>(#[]:Array NK))).push (OB "tuple" vs.toArray 0)).push (OB "list" #[] 0)=h1 at k3 ho6 ⊢
 dsimp only
 have fin:∀ st':NV,(NS st').Perm (vs.toArray.zip vs.toArray)->Srt rk (NS st').toList->Ou st'=none->NT (N1 prog w) A (do
   let touched:=(<-seqEpoch a) != e1
   UZ (.ref a) fun _=>(NS st').map (·.2)
   if let some e:=Ou st' then rule "list.sort.comparison-raised";throw e
   if touched then rule "list.sort.modified";raiseError "ValueError" "list modified during sort"
   ret .none) P E { s with heap:=h1 }:=fun st' hp hs hf=>by
  have lp:(NS st').toList.Perm (vs.map fun v=>(v,v)):=by
   have:=Kz.mp hp
   rw[nk]at this
   exact this
  have op:((NS st').toList.map (·.2)).Perm vs:=by
   have:=lp.map (·.2)
   rw[H_,show((fun x:NQ=>x.2) ∘ fun v:NK=>(v,v))=id from rfl,Nd]at this
   exact this
  have tw:∀ p∈(NS st').toList,p=(p.2,p.2):=fun p hp=>by
   obtain⟨v,_,e⟩:=y_.mp (lp.mem_iff.mp hp)
   rw[<-e]
  have osr:((NS st').toList.map (·.2)).Pairwise (fun x y=>rk (x,x)<=rk (y,y)):=by
   rw[JW]
   refine Kl (fun{p q} hp hq hr=>?_) hs
   rw[<-tw p hp,<-tw q hq]
   exact hr
  have os:((NS st').map (·.2)).size<=sizeLine + 1:=by
   rw[<-g_,Nl,op.length_eq]
   lia
  refine NL (U' ho6 rfl ?_)
  refine NL (Ue ho6 rfl ?_ (z_ _) os)
  rw[hf]
  simp only[bne_self_eq_false,B_,if_false]
  obtain⟨c,hc⟩:∃ c,(h1.update a (OD fun _=>(NS st').map (·.2))).get? a=some (OB "list" ((NS st').toList.map (·.2)).toArray c):=by
   have:=Tv ho6 fun _=>(NS st').map (·.2)
   rw[show((NS st').toList.map (·.2)).toArray=(NS st').map (·.2) by rw[<-Nl]]
   exact⟨_,this⟩
  refine NP (h _ c _ op osr (fun b u hb e=>?_) hc)
  rw[QO _ _ _ _ hb]
  exact k3 b u hb e
 by_cases h2:vs.toArray.size < 2
 ·rw[if_pos h2,if_pos h2]
  refine NL (NP ?_)
  rw[StateT.run_pure]
  refine NL (NP ?_)
  refine fin (Pj general' (vs.toArray.zip vs.toArray) #[] 7 none) (My _) ?_ rfl
  show Srt rk (vs.toArray.zip vs.toArray).toList
  rw[nk]
  have h3:vs.length < 2:=h2
  clear fin h lt kind hS ho
  match vs,h3 with
  | [],_=>exact .nil
  | [v],_=>exact LF _ _
  | _::_::_,h3=>exact absurd h3 (by rw[j_,j_];lia)
 rw[if_neg h2,if_neg h2]
 refine NL (kind h1 k3 (fun z=>by rw[z]at h2;simp at h2) ?_)
 refine NL (Oh (rh (st:=Pj kd (vs.toArray.zip vs.toArray) #[] 7 none) (Q:=fun _ st'=>(NS st').Perm (vs.toArray.zip vs.toArray)/\Ou st'=none/\Srt rk (NS st').toList) (lt h1 k3) (fun p hp=>?_) (fun x=>PD rfl) rfl rfl rfl fun st' a1 a2 a3=>⟨a1,a2,a3⟩) ?_ fun _ _ e=>e)
 ·rw[show(NS (Pj kd (vs.toArray.zip vs.toArray) #[] 7 none))=vs.toArray.zip vs.toArray from rfl,nk]at hp
  obtain⟨v,hv,e⟩:=y_.mp hp
  rw[<-e]
  exact hS v hv
 rintro⟨⟨⟩,st'⟩ s' ⟨rfl,hp,hf,hs⟩
 exact fin st' hp hs hf
theorem jn{l:NN}{vs:List NK}{kd:ON}{rk:NQ->Nat}{S:NQ->Prop}{Q:NK->NO->Prop}(hl:s.heap.IsList l vs.toArray)(hz:vs.length<=sizeLine)(hS:∀ v∈vs,S (v,v))
  (kind:∀ h',(∀ b o,s.heap.get? b=some o->h'.get? b=some o)->∀ {Q:ON->NO->Prop} {E:NK->NO->Prop},vs≠[]->Q kd { s with heap:=h' }->NT (N1 prog w) A.in1.in1 (QY vs.toArray) Q E { s with heap:=h' })
  (lt:∀ h' E,(∀ b o,s.heap.get? b=some o->h'.get? b=some o)->f6 (N1 prog w) A.in1.in1 E { s with heap:=h' } kd rk S)
  (h:∀(o:List NK) a c h',o.Perm vs->o.Pairwise (fun x y=>rk (x,x)<=rk (y,y))->s.heap.objs.size<=a->(∀ b u,s.heap.get? b=some u->h'.get? b=some u)->h'.get? a=some (OB "list" o.toArray c)->Q (.ref a) { s with heap:=h' }) :
  NT (N1 prog w) A (call (.builtin "sorted") [.ref l]) Q E s:=by
 refine P8 Va US UT (UU _) ?_
 unfold OY.«sorted»
 refine NL (m:=checkCount "sorted" 1 1 _) (NP ?_)
 refine NL (collect_list hl ?_ hz)
 refine NL (Qv ?_ hz)
 have hsz:((s.heap.push (OB "list" #[] 0)).update s.heap.objs.size (OD (·++vs.toArray))).objs.size=s.heap.objs.size + 1:=by
  rw[Heap.size_update,size_push']
 have hoL:(((s.heap.push (OB "list" #[] 0)).update s.heap.objs.size (OD (·++vs.toArray))).push (OB "list" vs.toArray 0)).get? (s.heap.objs.size + 1)=some (OB "list" vs.toArray 0):=by
  rw[<-hsz];exact N0 _ rfl
 have keep:∀ b o,s.heap.get? b=some o->(((s.heap.push (OB "list" #[] 0)).update s.heap.objs.size (OD (·++vs.toArray))).push (OB "list" vs.toArray 0)).get? b=some o:=fun b o q=>by
  have hlt:b < s.heap.objs.size:=NY q
  rw[SQ _ _ _ (by rw[hsz];exact yp (M' hlt)),QO _ _ _ _ (yp hlt),SQ _ _ _ (yp hlt)]
  exact q
 show NT _ _ _ _ _ { s with heap:=((s.heap.push (OB "list" #[] 0)).update s.heap.objs.size (OD (·++vs.toArray))).push (OB "list" vs.toArray 0) }
 rw[hsz]
 generalize ((s.heap.push (OB "list" #[] 0)).update s.heap.objs.size (OD (·++vs.toArray))).push (OB "list" vs.toArray 0)=h1 at hoL keep ⊢
 have ne:∀ b o,s.heap.get? b=some o->b≠s.heap.objs.size + 1:=fun b o e=>yp (M' (NY e))
 refine NL (Oj (OI TY ⟨_,hoL,rfl⟩ Tw ?body (TZ _)))
 case body=>
  refine om (s:={ s with heap:=h1 }) (kd:=kd) (rk:=rk) (S:=S) hoL hz hS (fun h' k {Q} hne q=>kind h' (fun b o e=>k b o (ne b o e) (keep b o e)) hne q) (fun h' k=>lt h' _ fun b o e=>k b o (ne b o e) (keep b o e)) fun o c h' g1 g2 g3 g4=>?_
  exact⟨_,rfl,NP ⟨_,rfl,h o _ c h' g1 g2 (Nat.le_succ _) (fun b u e=>g3 b u (ne b u e) (keep b u e)) g4⟩⟩
end
end ZS
namespace L2
open PySem PySem.Spec PyProof.Rows
mutual
def toPy:Dt->PyData
 | .int i=>.int i
 | .bl b=>.bool b
 | .str x=>.str x
 | .non=>.none
 | .lst ds=>.list (eI ds)
 | .tup ds=>.tuple (eI ds)
def eI:List Dt->List PyData
 | []=>[]
 | d::r=>toPy d::eI r
end
mutual
def shD:Dt->Bool
 | .int i=>decide (i.natAbs < 10 ^ 12)
 | .str x=>x.cps.toList.all fun c=>decide (c < 16 ^ 8)
 | .bl _=>true
 | .non=>true
 | .lst ds=>shL ds
 | .tup ds=>shL ds
def shL:List Dt->Bool
 | []=>true
 | d::r=>shD d && shL r
end
mutual
theorem lO:∀ d:Dt,shD d=true->(toPy d).showable=true
 | .int i,h=>by
  have h:i.natAbs < 10 ^ 12:=by simpa[shD]using h
  rw[toPy,PJ.eq_def]
  refine decide_eq_true ?_
  by_cases z:i.natAbs=0
  ·rw[z];decide
  ·exact(Nat.log2_lt z).mpr (u_ (LR h (by decide:10 ^ 12 < 2 ^ 40)) (Nat.pow_le_pow_right (by decide) (by decide)))
 | .str _,_=>by rw[toPy,PJ.eq_def]
 | .bl b,_=>by rw[toPy,PJ.eq_def]
 | .non,_=>by rw[toPy,PJ.eq_def]
 | .lst ds,h=>by
  rw[shD]at h
  rw[toPy,PJ.eq_def]
  exact hX ds h
 | .tup ds,h=>by
  rw[shD]at h
  rw[toPy,PJ.eq_def]
  exact hX ds h
theorem hX:∀ ds:List Dt,shL ds=true->Q7 (eI ds)=true
 | [],_=>by rw[eI,Q7.eq_def]
 | d::r,h=>by
  rw[shL,F_]at h
  rw[eI,Q7.eq_def]
  show(_ && _)=true
  rw[lO d h.1,hX r h.2]
  rfl
end
mutual
theorem tK:∀ d:Dt,shD d=true->OZ 13 (toPy d)=true
 | .int i,h=>by
  have h:i.natAbs < 10 ^ 12:=by simpa[shD]using h
  rw[toPy,OZ.eq_def]
  exact decide_eq_true (PyData.shown_int_le h)
 | .str _,h=>by
  rw[shD]at h
  rw[toPy,OZ.eq_def]
  exact h
 | .bl b,_=>by rw[toPy,OZ.eq_def]
 | .non,_=>by rw[toPy,OZ.eq_def]
 | .lst ds,h=>by
  rw[shD]at h
  rw[toPy,OZ.eq_def]
  exact lj ds h
 | .tup ds,h=>by
  rw[shD]at h
  rw[toPy,OZ.eq_def]
  exact lj ds h
theorem lj:∀ ds:List Dt,shL ds=true->QB 13 (eI ds)=true
 | [],_=>by rw[eI,QB.eq_def]
 | d::r,h=>by
  rw[shL,F_]at h
  rw[eI,QB.eq_def]
  show(_ && _)=true
  rw[tK d h.1,lj r h.2]
  rfl
end
mutual
theorem pf:∀ d:Dt,(toPy d).hasDict=false
 | .int i=>by rw[toPy,PR.eq_def]
 | .str _=>by rw[toPy,PR.eq_def]
 | .bl b=>by rw[toPy,PR.eq_def]
 | .non=>by rw[toPy,PR.eq_def]
 | .lst ds=>by
  rw[toPy,PR.eq_def]
  exact jm ds
 | .tup ds=>by
  rw[toPy,PR.eq_def]
  exact jm ds
theorem jm:∀ ds:List Dt,Rl (eI ds)=false
 | []=>by rw[eI,Rl.eq_def]
 | d::r=>by
  rw[eI,Rl.eq_def]
  show(_ || _)=false
  rw[pf d,jm r]
  rfl
end
mutual
theorem tZ:∀ d:Dt,(toPy d).depth<=dpt d
 | .int i=>by rw[toPy,Qi.eq_def];exact z_ _
 | .str _=>by rw[toPy,Qi.eq_def];exact z_ _
 | .bl b=>by rw[toPy,Qi.eq_def];exact z_ _
 | .non=>by rw[toPy,Qi.eq_def];exact z_ _
 | .lst ds=>by
  rw[toPy,Qi.eq_def,dpt]
  exact ML (l7 ds) 1
 | .tup ds=>by
  rw[toPy,Qi.eq_def,dpt]
  exact ML (l7 ds) 1
theorem l7:∀ ds:List Dt,RL (eI ds)<=cN ds
 | []=>by rw[eI,RL.eq_def];exact z_ _
 | d::r=>by
  rw[eI,RL.eq_def,cN]
  have h1:=tZ d
  have h2:=l7 r
  show max _ _<=_
  omega
end
section
variable{X:Cx}
mutual
theorem sU{pins:List (NN × Obj)}{σ:St}{H:Hp}{s:NO}(I:Inv X pins σ H s):∀(d:Dt) {x:V} {u:NK},Has X.K H d x->RelV x u->∃ as,Reads s.heap u (toPy d) as
 | .int i,x,u,h,r=>by
  rw[Has]at h
  subst h
  obtain⟨t,rfl⟩:=r
  rw[toPy]
  exact⟨[],.int i t⟩
 | .bl b,x,u,h,r=>by
  rw[Has]at h
  subst h
  have e:u=R7 b:=r
  subst e
  rw[toPy]
  exact⟨[],.bool b⟩
 | .str z,x,u,h,r=>by
  rw[Has]at h
  subst h
  obtain⟨t,rfl⟩:=r
  rw[toPy]
  exact⟨[],.str z t⟩
 | .non,x,u,h,r=>by
  rw[Has]at h
  subst h
  have e:u=Om:=r
  subst e
  rw[toPy]
  exact⟨[],.none⟩
 | .lst ds,x,u,h,r=>by
  rw[Has]at h
  obtain⟨a,xs,rfl,hs,hl⟩:=h
  have e:u=Oa a:=r
  subst e
  obtain⟨its,rv,⟨o,n,e,c1,c2,c3⟩,_⟩:=I.list hs
  obtain⟨as,ha⟩:=l9 I ds hl rv
  rw[toPy]
  exact⟨_,.list e (by assumption) (by assumption) (by simpa using ha)⟩
 | .tup ds,x,u,h,r=>by
  rw[Has]at h
  obtain⟨a,xs,rfl,hs,hl⟩:=h
  have e:u=Oa a:=r
  subst e
  obtain⟨its,rv,⟨o,e,c1,n,c2⟩,_⟩:=I.tuple hs
  obtain⟨as,ha⟩:=l9 I ds hl rv
  rw[toPy]
  exact⟨_,.tuple e (by assumption) (by assumption) (by simpa using ha)⟩
theorem l9{pins:List (NN × Obj)}{σ:St}{H:Hp}{s:NO}(I:Inv X pins σ H s):∀(ds:List Dt) {xs:List V} {us:List NK},aO X.K H ds xs->Vals xs us->∃ as,ReadsAll s.heap us (eI ds) as
 | [],xs,us,h,r=>by
  rw[aO]at h
  subst h
  cases r
  rw[eI]
  exact⟨[],.nil⟩
 | d::ds,xs,us,h,r=>by
  rw[aO]at h
  obtain⟨x,t,rfl,h1,h2⟩:=h
  cases r with
  | cons r1 r2=>
   obtain⟨a1,q1⟩:=sU I d h1 r1
   obtain⟨a2,q2⟩:=l9 I ds h2 r2
   rw[eI]
   exact⟨_,.cons q1 q2⟩
end
theorem oB(hg:X.A.guards=some []):bG X (.type "str") (fun xs H Q=>∃ a d,xs=[.ref a]/\Has X.K H d (.ref a)/\shD d=true/\X.A.units + (dpt d + 3) < cLine/\(toPy d).bulk<=2 ^ 20/\Q (.str (toPy d).shown) H):=by
 intro pins s σ H xs us Q I r h
 obtain⟨a,d,rfl,hd,hs,hu,hb,q⟩:=h
 obtain⟨u,rfl,ru⟩:=vals1 r
 cases ru
 obtain⟨as,ha⟩:=sU I d hd rfl
 have:=tZ d
 refine str_of_reads ha (lO d hs) (fun z=>by rw[pf]at z;cases z) hg (by omega) (fun b o e=>e) (fun h' u tk kp=>?_) (PyData.shown_fits_bulk (B:=13) (by decide) (by decide) (tK d hs) hb)
 exact⟨.str _,H,I.kept (t':=tk) kp,⟨u,rfl⟩,q⟩
end
end L2
namespace PL
open PySem L2
inductive T where
 | any | hole (w:V) | bare | kp (G:Hp)
 | non | bl (b:Bool) | int (i:Int) | str (x:Str) | ty (n:String)
 | tup (ts:List T) | cst (ts:List T)
 | lst (o:Bool) (ts:List T)
 | dK (o:Bool) (kvs:List (Key × T))
 | dT (o:Bool) (kvs:List (List Key × T))
mutual
def er:T->T
 | .tup ts=>.tup (erL ts)
 | .cst ts=>.cst (erL ts)
 | .lst _ ts=>.lst false (erL ts)
 | .dK _ kvs=>.dK false (erK kvs)
 | .dT _ kvs=>.dT false (erT kvs)
 | .bare=>.any
 | t=>t
def erL:List T->List T
 | []=>[]
 | t::r=>er t::erL r
def erK:List (Key × T)->List (Key × T)
 | []=>[]
 | (k,t)::r=>(k,er t)::erK r
def erT:List (List Key × T)->List (List Key × T)
 | []=>[]
 | (k,t)::r=>(k,er t)::erT r
end
mutual
def aU:T->Bool
 | .tup ts=>ba ts
 | .cst ts=>ba ts
 | .lst o ts=>!o && ba ts
 | .dK o kvs=>!o && qM kvs
 | .dT o kvs=>!o && kR kvs
 | .bare=>false
 | _=>true
def ba:List T->Bool
 | []=>true
 | t::r=>aU t && ba r
def qM:List (Key × T)->Bool
 | []=>true
 | (_,t)::r=>aU t && qM r
def kR:List (List Key × T)->Bool
 | []=>true
 | (_,t)::r=>aU t && kR r
end
mutual
def cD:T->Bool
 | .tup ts=>cM ts
 | .cst ts=>cM ts
 | .lst o ts=>o && cM ts
 | .dK o kvs=>o && nv kvs
 | .dT o kvs=>o && lF kvs
 | .kp _=>false
 | _=>true
def cM:List T->Bool
 | []=>true
 | t::r=>cD t && cM r
def nv:List (Key × T)->Bool
 | []=>true
 | (_,t)::r=>cD t && nv r
def lF:List (List Key × T)->Bool
 | []=>true
 | (_,t)::r=>cD t && lF r
end
theorem j4{α:Type}(g:α->T):∀ l:List α,erL (l.map g)=l.map fun x=>er (g x)
 | []=>rfl
 | x::r=>by rw[d_,erL,j4 g r,d_]
theorem mV:∀ l:List T,erL l=l.map er
 | []=>rfl
 | x::r=>by rw[erL,mV r,d_]
theorem md(l:List T):(erL l).length=l.length:=by rw[mV,a_]
theorem BN(l m:List T):erL (l++m)=erL l++erL m:=by rw[mV,mV,mV,r_]
theorem ju:∀ l:List T,ba l=l.all aU
 | []=>rfl
 | x::r=>by rw[ba,ju r,Ma]
theorem gH:∀ l:List T,cM l=l.all cD
 | []=>rfl
 | x::r=>by rw[cM,gH r,Ma]
mutual
theorem cW:∀ t:T,aU (er t)=true
 | .tup ts=>by rw[er,aU,iQ ts]
 | .cst ts=>by rw[er,aU,iQ ts]
 | .lst _ ts=>by rw[er,aU,iQ ts];rfl
 | .dK _ ts=>by rw[er,aU,oV ts];rfl
 | .dT _ ts=>by rw[er,aU,oS ts];rfl
 | .bare=>rfl
 | .any=>rfl
 | .hole _=>rfl
 | .kp _=>rfl
 | .non=>rfl
 | .bl _=>rfl
 | .int _=>rfl
 | .str _=>rfl
 | .ty _=>rfl
theorem iQ:∀ t:List T,ba (erL t)=true
 | []=>rfl
 | t::r=>by rw[erL,ba,cW t,iQ r];rfl
theorem oV:∀ t:List (Key × T),qM (erK t)=true
 | []=>rfl
 | (_,t)::r=>by rw[erK,qM,cW t,oV r];rfl
theorem oS:∀ t:List (List Key × T),kR (erT t)=true
 | []=>rfl
 | (_,t)::r=>by rw[erT,kR,cW t,oS r];rfl
end
def Gr(G H:Hp):Prop:=∀ b u,Rd G b u->Rd H b u
theorem Gr.d6 {H:Hp}:Gr H H:=fun _ _ h=>h
theorem Gr.trans {G H J:Hp}(a:Gr G H)(b:Gr H J):Gr G J:=fun c u h=>b c u (a c u h)
theorem Gr.of {G H:Hp}(h:bo G H):Gr G H:=fun b u r=>by
 rcases r with r | ⟨o,r⟩
 ·exact .inl (h _ _ r)
 exact .inr ⟨o,h _ _ r⟩
theorem Rd.some {H:Hp}{a:NN}{u:HO}(h:Rd H a u):∃ w,H a=some w:=by
 rcases h with h | ⟨o,h⟩
 ·exact⟨_,h⟩
 exact⟨_,h⟩
theorem Gr.none {G H:Hp}(h:Gr G H){a:NN}(e:H a=none):G a=none:=by
 cases q:G a with
 | none=>rfl
 | some u=>
  obtain⟨w,z⟩:=Rd.some (h a u (.inl q))
  rw[e]at z;cases z
def TK(H H':Hp):Prop:=∀ b xs,H b=some (.tup xs)->H' b=some (.tup xs)
theorem bo.tk {G H:Hp}(h:bo G H):TK G H:=fun b xs r=>h _ _ r
theorem Put.tk {H H':Hp}{a:NN}{o:HO}(p:Put H a o H')(ht:∀ xs,H a≠some (.tup xs)):TK H H':=fun b xs r=>by
 have hb:b≠a:=fun z=>ht xs (z ▸ r)
 rw[p.else_ b hb];exact r
section
variable(K:NM)(Hz H:Hp)
mutual
inductive RepT:T->V->List NN->Prop
 | any {v:V}:RepT .any v []
 | hole {w:V}:RepT (.hole w) w []
 | bare {a:NN} {u:HO} (h:H a=some u) (ht:∀ xs,H a≠some (.tup xs)):RepT .bare (.ref a) [a]
 | kp {G:Hp} {v:V} (h:Gr G Hz):RepT (.kp G) v []
 | non:RepT .non .non []
 | bl {b:Bool}:RepT (.bl b) (.bl b) []
 | int {i:Int}:RepT (.int i) (.int i) []
 | str {x:Str}:RepT (.str x) (.str x) []
 | ty {n:String}:RepT (.ty n) (.ty n) []
 | tup {a:NN} {ts:List T} {vs:List V} {L:List NN} (h:H a=some (.tup vs)) (c:RepTs ts vs L):RepT (.tup ts) (.ref a) L
 | cst {a:NN} {ts:List T} {vs:List V} (h:SqT K (fun _=>none) a vs) (c:RepTs ts vs []):RepT (.cst ts) (.ref a) []
 | lstO {a:NN} {ts:List T} {vs:List V} {L:List NN} (h:H a=some (.lst vs)) (c:RepTs ts vs L):RepT (.lst true ts) (.ref a) (a::L)
 | lstZ {a:NN} {ts:List T} {vs:List V} (h:Rd Hz a (.lst vs)) (c:RepTs ts vs []):RepT (.lst false ts) (.ref a) []
 | dKO {a:NN} {ts:List (Key × T)} {vs:List (Key × V)} {L:List NN} (h:H a=some (.dK vs)) (c:RepKs ts vs L):RepT (.dK true ts) (.ref a) (a::L)
 | dKZ {a:NN} {ts:List (Key × T)} {vs:List (Key × V)} (h:Rd Hz a (.dK vs)) (c:RepKs ts vs []):RepT (.dK false ts) (.ref a) []
 | dTO {a:NN} {ts:List (List Key × T)} {vs:List (List Key × V)} {L:List NN} (h:H a=some (.dT vs)) (c:RepXs ts vs L):RepT (.dT true ts) (.ref a) (a::L)
 | dTZ {a:NN} {ts:List (List Key × T)} {vs:List (List Key × V)} (h:Rd Hz a (.dT vs)) (c:RepXs ts vs []):RepT (.dT false ts) (.ref a) []
inductive RepTs:List T->List V->List NN->Prop
 | nil:RepTs [] [] []
 | cons {t:T} {v:V} {L M N:List NN} {ts:List T} {vs:List V} (e:N=L++M) (h:RepT t v L) (c:RepTs ts vs M):RepTs (t::ts) (v::vs) N
inductive RepKs:List (Key × T)->List (Key × V)->List NN->Prop
 | nil:RepKs [] [] []
 | cons {k:Key} {t:T} {v:V} {L M N:List NN} {ts:List (Key × T)} {vs:List (Key × V)} (e:N=L++M) (h:RepT t v L) (c:RepKs ts vs M):RepKs ((k,t)::ts) ((k,v)::vs) N
inductive RepXs:List (List Key × T)->List (List Key × V)->List NN->Prop
 | nil:RepXs [] [] []
 | cons {k:List Key} {t:T} {v:V} {L M N:List NN} {ts:List (List Key × T)} {vs:List (List Key × V)} (e:N=L++M) (h:RepT t v L) (c:RepXs ts vs M):RepXs ((k,t)::ts) ((k,v)::vs) N
end
end
section
variable{K:NM}
theorem j8{Hz H:Hp}{P:T->V->List NN->Prop}{Ps:List T->List V->List NN->Prop}{Pk:List (Key × T)->List (Key × V)->List NN->Prop}{Px:List (List Key × T)->List (List Key × V)->List NN->Prop}
  (c1:∀ {v},P .any v []) (c2:∀ {w},P (.hole w) w []) (c3:∀ {a u},H a=some u->(∀ xs,H a≠some (.tup xs))->P .bare (.ref a) [a]) (c4:∀ {G v},Gr G Hz->P (.kp G) v [])
  (c5:P .non .non []) (c6:∀ {b},P (.bl b) (.bl b) []) (c7:∀ {i},P (.int i) (.int i) []) (c8:∀ {x},P (.str x) (.str x) []) (c9:∀ {n},P (.ty n) (.ty n) [])
  (c10:∀ {a ts vs L},H a=some (.tup vs)->Ps ts vs L->P (.tup ts) (.ref a) L) (c11:∀ {a ts vs},SqT K (fun _=>none) a vs->Ps ts vs []->P (.cst ts) (.ref a) [])
  (c12:∀ {a ts vs L},H a=some (.lst vs)->Ps ts vs L->P (.lst true ts) (.ref a) (a::L)) (c13:∀ {a ts vs},Rd Hz a (.lst vs)->Ps ts vs []->P (.lst false ts) (.ref a) [])
  (c14:∀ {a ts vs L},H a=some (.dK vs)->Pk ts vs L->P (.dK true ts) (.ref a) (a::L)) (c15:∀ {a ts vs},Rd Hz a (.dK vs)->Pk ts vs []->P (.dK false ts) (.ref a) [])
  (c16:∀ {a ts vs L},H a=some (.dT vs)->Px ts vs L->P (.dT true ts) (.ref a) (a::L)) (c17:∀ {a ts vs},Rd Hz a (.dT vs)->Px ts vs []->P (.dT false ts) (.ref a) [])
  (s0:Ps [] [] []) (s1:∀ {t v L M ts vs},P t v L->Ps ts vs M->Ps (t::ts) (v::vs) (L++M))
  (k0:Pk [] [] []) (k1:∀ {k t v L M ts vs},P t v L->Pk ts vs M->Pk ((k,t)::ts) ((k,v)::vs) (L++M))
  (x0:Px [] [] []) (x1:∀ {k t v L M ts vs},P t v L->Px ts vs M->Px ((k,t)::ts) ((k,v)::vs) (L++M)) :
  (∀ {t v L},RepT K Hz H t v L->P t v L)/\(∀ {t v L},RepTs K Hz H t v L->Ps t v L)/\(∀ {t v L},RepKs K Hz H t v L->Pk t v L)/\(∀ {t v L},RepXs K Hz H t v L->Px t v L):=by
 have m1:∀ {t v L},RepT K Hz H t v L->P t v L:=fun h=>RepT.rec (motive_1:=fun t v L _=>P t v L) (motive_2:=fun t v L _=>Ps t v L) (motive_3:=fun t v L _=>Pk t v L) (motive_4:=fun t v L _=>Px t v L)
  c1 c2 c3 c4 c5 c6 c7 c8 c9 (fun h _ i=>c10 h i) (fun h _ i=>c11 h i) (fun h _ i=>c12 h i) (fun h _ i=>c13 h i) (fun h _ i=>c14 h i) (fun h _ i=>c15 h i) (fun h _ i=>c16 h i) (fun h _ i=>c17 h i)
  s0 (fun e _ _ i j=>e ▸ s1 i j) k0 (fun e _ _ i j=>e ▸ k1 i j) x0 (fun e _ _ i j=>e ▸ x1 i j) h
 refine⟨m1,fun h=>?_,fun h=>?_,fun h=>?_⟩
 ·exact RepTs.rec (motive_1:=fun t v L _=>True) (motive_2:=fun t v L _=>Ps t v L) (motive_3:=fun t v L _=>True) (motive_4:=fun t v L _=>True)
   trivial trivial (fun _ _=>trivial) (fun _=>trivial) trivial trivial trivial trivial trivial (fun _ _ _=>trivial) (fun _ _ _=>trivial) (fun _ _ _=>trivial) (fun _ _ _=>trivial) (fun _ _ _=>trivial) (fun _ _ _=>trivial) (fun _ _ _=>trivial) (fun _ _ _=>trivial)
   s0 (fun e h _ _ j=>e ▸ s1 (m1 h) j) trivial (fun _ _ _ _ _=>trivial) trivial (fun _ _ _ _ _=>trivial) h
 ·exact RepKs.rec (motive_1:=fun t v L _=>True) (motive_2:=fun t v L _=>True) (motive_3:=fun t v L _=>Pk t v L) (motive_4:=fun t v L _=>True)
   trivial trivial (fun _ _=>trivial) (fun _=>trivial) trivial trivial trivial trivial trivial (fun _ _ _=>trivial) (fun _ _ _=>trivial) (fun _ _ _=>trivial) (fun _ _ _=>trivial) (fun _ _ _=>trivial) (fun _ _ _=>trivial) (fun _ _ _=>trivial) (fun _ _ _=>trivial)
   trivial (fun _ _ _ _ _=>trivial) k0 (fun e h _ _ j=>e ▸ k1 (m1 h) j) trivial (fun _ _ _ _ _=>trivial) h
 exact RepXs.rec (motive_1:=fun t v L _=>True) (motive_2:=fun t v L _=>True) (motive_3:=fun t v L _=>True) (motive_4:=fun t v L _=>Px t v L)
  trivial trivial (fun _ _=>trivial) (fun _=>trivial) trivial trivial trivial trivial trivial (fun _ _ _=>trivial) (fun _ _ _=>trivial) (fun _ _ _=>trivial) (fun _ _ _=>trivial) (fun _ _ _=>trivial) (fun _ _ _=>trivial) (fun _ _ _=>trivial) (fun _ _ _=>trivial)
  trivial (fun _ _ _ _ _=>trivial) trivial (fun _ _ _ _ _=>trivial) x0 (fun e h _ _ j=>e ▸ x1 (m1 h) j) h
def Kps(H H':Hp)(L:List NN):Prop:=∀ a∈L,∀ u,H a=some u->H' a=some u/\((∀ xs,H a≠some (.tup xs))->∀ xs,H' a≠some (.tup xs))
theorem Kps.hd {H H':Hp}{a:NN}{L:List NN}(h:Kps H H' (a::L)){u:HO}(e:H a=some u):H' a=some u/\((∀ xs,H a≠some (.tup xs))->∀ xs,H' a≠some (.tup xs)):=h _ v_ _ e
theorem Kps.tl {H H':Hp}{a:NN}{L:List NN}(h:Kps H H' (a::L)):Kps H H' L:=fun a m=>h a (l_ _ m)
theorem Kps.l {H H':Hp}{L M:List NN}(h:Kps H H' (L++M)):Kps H H' L:=fun a m=>h a (JJ _ m)
theorem Kps.r {H H':Hp}{L M:List NN}(h:Kps H H' (L++M)):Kps H H' M:=fun a m=>h a (q_ _ m)
theorem zZ{Hz H Hz' H':Hp}(ht:TK H H')(hz:Gr Hz Hz'):(∀ {t v L},RepT K Hz H t v L->Kps H H' L->RepT K Hz' H' t v L)/\(∀ {t v L},RepTs K Hz H t v L->Kps H H' L->RepTs K Hz' H' t v L)/\(∀ {t v L},RepKs K Hz H t v L->Kps H H' L->RepKs K Hz' H' t v L)/\(∀ {t v L},RepXs K Hz H t v L->Kps H H' L->RepXs K Hz' H' t v L):=
 j8 (P:=fun t v L=>Kps H H' L->RepT K Hz' H' t v L) (Ps:=fun t v L=>Kps H H' L->RepTs K Hz' H' t v L) (Pk:=fun t v L=>Kps H H' L->RepKs K Hz' H' t v L) (Px:=fun t v L=>Kps H H' L->RepXs K Hz' H' t v L)
  (fun _=>.any) (fun _=>.hole) (fun h t o=>.bare (o.hd h).1 ((o.hd h).2 t)) (fun h _=>.kp (h.trans hz)) (fun _=>.non) (fun _=>.bl) (fun _=>.int) (fun _=>.str) (fun _=>.ty)
  (fun h c o=>.tup (ht _ _ h) (c o)) (fun h c o=>.cst h (c o)) (fun h c o=>.lstO (o.hd h).1 (c o.tl)) (fun h c o=>.lstZ (hz _ _ h) (c o)) (fun h c o=>.dKO (o.hd h).1 (c o.tl)) (fun h c o=>.dKZ (hz _ _ h) (c o)) (fun h c o=>.dTO (o.hd h).1 (c o.tl)) (fun h c o=>.dTZ (hz _ _ h) (c o))
  (fun _=>.nil) (fun i j o=>.cons rfl (i o.l) (j o.r)) (fun _=>.nil) (fun i j o=>.cons rfl (i o.l) (j o.r)) (fun _=>.nil) (fun i j o=>.cons rfl (i o.l) (j o.r))
theorem RepT.move {Hz H Hz' H':Hp}(ht:TK H H')(hz:Gr Hz Hz'){t:T}{v:V}{L:List NN}(o:Kps H H' L)(h:RepT K Hz H t v L):RepT K Hz' H' t v L:=(zZ ht hz).1 h o
def Thr(H:Hp)(L:List NN):Prop:=∀ a∈L,(∃ u,H a=some u)/\∀ xs,H a≠some (.tup xs)
theorem Thr.nil {H:Hp}:Thr H []:=fun a m=>nomatch m
theorem Thr.cons {H:Hp}{a:NN}{u:HO}{L:List NN}(h:H a=some u)(t:∀ xs,H a≠some (.tup xs))(c:Thr H L):Thr H (a::L):=fun b m=>by
 rcases t_.mp m with rfl | m
 ·exact⟨⟨_,h⟩,t⟩
 exact c b m
theorem Thr.app {H:Hp}{L M:List NN}(c:Thr H L)(d:Thr H M):Thr H (L++M):=fun b m=>(D_.mp m).elim (c b) (d b)
theorem yf{Hz H:Hp}:(∀ {t v L},RepT K Hz H t v L->Thr H L)/\(∀ {t v L},RepTs K Hz H t v L->Thr H L)/\(∀ {t v L},RepKs K Hz H t v L->Thr H L)/\(∀ {t v L},RepXs K Hz H t v L->Thr H L):=
 j8 (P:=fun t v L=>Thr H L) (Ps:=fun t v L=>Thr H L) (Pk:=fun t v L=>Thr H L) (Px:=fun t v L=>Thr H L)
  .nil .nil (fun h t=>.cons h t .nil) (fun _=>.nil) .nil .nil .nil .nil .nil (fun _ c=>c) (fun _ c=>c) (fun h c=>.cons h (fun xs r=>by rw[h]at r;cases r) c) (fun _ c=>c) (fun h c=>.cons h (fun xs r=>by rw[h]at r;cases r) c) (fun _ c=>c) (fun h c=>.cons h (fun xs r=>by rw[h]at r;cases r) c) (fun _ c=>c)
  .nil (fun c d=>c.app d) .nil (fun c d=>c.app d) .nil (fun c d=>c.app d)
theorem RepT.there {Hz H:Hp}{t:T}{v:V}{L:List NN}(h:RepT K Hz H t v L):Thr H L:=yf.1 h
def Fzn(H Z:Hp)(L:List NN):Prop:=∀ a∈L,Z a=H a
theorem Fzn.hd {H Z:Hp}{a:NN}{L:List NN}(h:Fzn H Z (a::L)){u:HO}(e:H a=some u):Rd Z a u:=.inl (by rw[h _ v_];exact e)
theorem Fzn.tl {H Z:Hp}{a:NN}{L:List NN}(h:Fzn H Z (a::L)):Fzn H Z L:=fun a m=>h a (l_ _ m)
theorem Fzn.l {H Z:Hp}{L M:List NN}(h:Fzn H Z (L++M)):Fzn H Z L:=fun a m=>h a (JJ _ m)
theorem Fzn.r {H Z:Hp}{L M:List NN}(h:Fzn H Z (L++M)):Fzn H Z M:=fun a m=>h a (q_ _ m)
theorem DG{Hz H Z:Hp}(hz:Gr Hz Z):(∀ {t v L},RepT K Hz H t v L->Fzn H Z L->RepT K Z H (er t) v [])/\(∀ {t v L},RepTs K Hz H t v L->Fzn H Z L->RepTs K Z H (erL t) v [])/\(∀ {t v L},RepKs K Hz H t v L->Fzn H Z L->RepKs K Z H (erK t) v [])/\(∀ {t v L},RepXs K Hz H t v L->Fzn H Z L->RepXs K Z H (erT t) v []):=
 j8 (P:=fun t v L=>Fzn H Z L->RepT K Z H (er t) v []) (Ps:=fun t v L=>Fzn H Z L->RepTs K Z H (erL t) v []) (Pk:=fun t v L=>Fzn H Z L->RepKs K Z H (erK t) v []) (Px:=fun t v L=>Fzn H Z L->RepXs K Z H (erT t) v [])
  (fun _=>.any) (fun _=>.hole) (fun _ _ _=>.any) (fun h _=>.kp (h.trans hz)) (fun _=>.non) (fun _=>.bl) (fun _=>.int) (fun _=>.str) (fun _=>.ty)
  (fun h c o=>.tup h (c o)) (fun h c o=>.cst h (c o)) (fun h c o=>.lstZ (o.hd h) (c o.tl)) (fun h c o=>.lstZ (hz _ _ h) (c o)) (fun h c o=>.dKZ (o.hd h) (c o.tl)) (fun h c o=>.dKZ (hz _ _ h) (c o)) (fun h c o=>.dTZ (o.hd h) (c o.tl)) (fun h c o=>.dTZ (hz _ _ h) (c o))
  (fun _=>.nil) (fun i j o=>.cons rfl (i o.l) (j o.r)) (fun _=>.nil) (fun i j o=>.cons rfl (i o.l) (j o.r)) (fun _=>.nil) (fun i j o=>.cons rfl (i o.l) (j o.r))
theorem RepT.frz {Hz H Z:Hp}(hz:Gr Hz Z){t:T}{v:V}{L:List NN}(o:Fzn H Z L)(h:RepT K Hz H t v L):RepT K Z H (er t) v []:=(DG hz).1 h o
theorem CG{Hz H:Hp}:(∀ {t v L},RepT K Hz H t v L->aU t=true->L=[])/\(∀ {t v L},RepTs K Hz H t v L->ba t=true->L=[])/\(∀ {t v L},RepKs K Hz H t v L->True)/\(∀ {t v L},RepXs K Hz H t v L->True):=
 j8 (P:=fun t v L=>aU t=true->L=[]) (Ps:=fun t v L=>ba t=true->L=[]) (Pk:=fun t v L=>True) (Px:=fun t v L=>True)
  (fun _=>rfl) (fun _=>rfl) (fun _ _ n=>nomatch n) (fun _ _=>rfl) (fun _=>rfl) (fun _=>rfl) (fun _=>rfl) (fun _=>rfl) (fun _=>rfl)
  (fun _ c n=>c (by rw[aU]at n;exact n)) (fun _ _ _=>rfl) (fun _ _ n=>nomatch n) (fun _ _ _=>rfl) (fun _ _ n=>nomatch n) (fun _ _ _=>rfl) (fun _ _ n=>nomatch n) (fun _ _ _=>rfl)
  (fun _=>rfl) (fun i j n=>by
   rw[ba,F_]at n
   rw[i n.1,j n.2]
   rfl) trivial (fun _ _=>trivial) trivial (fun _ _=>trivial)
theorem RepT.nil_of {Hz H:Hp}{t:T}{v:V}{L:List NN}(n:aU t=true)(h:RepT K Hz H t v L):L=[]:=CG.1 h n
theorem yZ{Hz H Z H':Hp}(ht:TK H H'):(∀ {t v L},RepT K Hz H t v L->cD t=true->Kps H H' L->RepT K Z H' t v L)/\(∀ {t v L},RepTs K Hz H t v L->cM t=true->Kps H H' L->RepTs K Z H' t v L)/\(∀ {t v L},RepKs K Hz H t v L->nv t=true->Kps H H' L->RepKs K Z H' t v L)/\(∀ {t v L},RepXs K Hz H t v L->lF t=true->Kps H H' L->RepXs K Z H' t v L):=
 j8 (P:=fun t v L=>cD t=true->Kps H H' L->RepT K Z H' t v L) (Ps:=fun t v L=>cM t=true->Kps H H' L->RepTs K Z H' t v L) (Pk:=fun t v L=>nv t=true->Kps H H' L->RepKs K Z H' t v L) (Px:=fun t v L=>lF t=true->Kps H H' L->RepXs K Z H' t v L)
  (fun _ _=>.any) (fun _ _=>.hole) (fun h t _ o=>.bare (o.hd h).1 ((o.hd h).2 t)) (fun _ n=>nomatch n) (fun _ _=>.non) (fun _ _=>.bl) (fun _ _=>.int) (fun _ _=>.str) (fun _ _=>.ty)
  (fun h c n o=>.tup (ht _ _ h) (c (by rw[cD]at n;exact n) o)) (fun h c n o=>.cst h (c (by rw[cD]at n;exact n) o)) (fun h c n o=>.lstO (o.hd h).1 (c (by rw[cD,LM]at n;exact n) o.tl)) (fun _ _ n=>nomatch n) (fun h c n o=>.dKO (o.hd h).1 (c (by rw[cD,LM]at n;exact n) o.tl)) (fun _ _ n=>nomatch n) (fun h c n o=>.dTO (o.hd h).1 (c (by rw[cD,LM]at n;exact n) o.tl)) (fun _ _ n=>nomatch n)
  (fun _ _=>.nil) (fun i j n o=>.cons rfl (i (by rw[cM,F_]at n;exact n.1) o.l) (j (by rw[cM,F_]at n;exact n.2) o.r)) (fun _ _=>.nil) (fun i j n o=>.cons rfl (i (by rw[nv,F_]at n;exact n.1) o.l) (j (by rw[nv,F_]at n;exact n.2) o.r)) (fun _ _=>.nil) (fun i j n o=>.cons rfl (i (by rw[lF,F_]at n;exact n.1) o.l) (j (by rw[lF,F_]at n;exact n.2) o.r))
theorem RepT.EG {Hz H Z H':Hp}(ht:TK H H'){t:T}{v:V}{L:List NN}(n:cD t=true)(o:Kps H H' L)(h:RepT K Hz H t v L):RepT K Z H' t v L:=(yZ ht).1 h n o
abbrev Ev:=List T
abbrev Fm:=List (T × Option V)
def o7(K:NM)(Hz H:Hp)(t:T)(x:Option V)(L:List NN):Prop:=(t=.any/\L=[])\/∃ v,x=some v/\RepT K Hz H t v L
inductive RepL (K:NM) (Hz H:Hp):Fm->List NN->Prop
 | nil:RepL K Hz H [] []
 | cons {t:T} {x:Option V} {L M N:List NN} {r:Fm} (e:N=L++M) (h:o7 K Hz H t x L) (c:RepL K Hz H r M):RepL K Hz H ((t,x)::r) N
def Rp(K:NM)(H:Hp)(Γ:Fm):Prop:=∃ Hz L,RepL K Hz H Γ L/\L.Nodup/\Gr Hz H/\∀ b∈L,Hz b=none
theorem o7.move {Hz H Hz' H':Hp}(ht:TK H H')(hz:Gr Hz Hz'){t:T}{x:Option V}{L:List NN}(ho:∀ a∈L,∀ u,H a=some u->H' a=some u/\((∀ xs,H a≠some (.tup xs))->∀ xs,H' a≠some (.tup xs)))(h:o7 K Hz H t x L):o7 K Hz' H' t x L:=by
 rcases h with⟨rfl,rfl⟩ | ⟨v,rfl,h⟩
 ·exact .inl ⟨rfl,rfl⟩
 exact .inr ⟨v,rfl,h.move ht hz ho⟩
theorem o7.there {Hz H:Hp}{t:T}{x:Option V}{L:List NN}(h:o7 K Hz H t x L):∀ a∈L,(∃ u,H a=some u)/\∀ xs,H a≠some (.tup xs):=by
 rcases h with⟨rfl,rfl⟩ | ⟨v,rfl,h⟩
 ·intro a m;cases m
 exact h.there
theorem RepL.move {Hz H Hz' H':Hp}(ht:TK H H')(hz:Gr Hz Hz'):∀ {Γ:Fm} {L:List NN},(∀ a∈L,∀ u,H a=some u->H' a=some u/\((∀ xs,H a≠some (.tup xs))->∀ xs,H' a≠some (.tup xs)))->RepL K Hz H Γ L->RepL K Hz' H' Γ L
 | _,_,_,.nil=>.nil
 | _,_,ho,.cons e h c=>.cons e (h.move ht hz fun a m=>ho a (by rw[e];exact JJ _ m)) (c.move ht hz fun a m=>ho a (by rw[e];exact q_ _ m))
theorem RepL.there {Hz H:Hp}:∀ {Γ:Fm} {L:List NN},RepL K Hz H Γ L->∀ a∈L,(∃ u,H a=some u)/\∀ xs,H a≠some (.tup xs)
 | _,_,.nil,a,m=>by cases m
 | _,_,.cons e h c,a,m=>by
  rw[e]at m
  rcases D_.mp m with m | m
  ·exact h.there a m
  exact c.there a m
theorem RepL.app {Hz H:Hp}:∀ {Γ Δ:Fm} {L M:List NN},RepL K Hz H Γ L->RepL K Hz H Δ M->RepL K Hz H (Γ++Δ) (L++M)
 | _,_,_,_,.nil,d=>d
 | _,_,_,_,.cons e h c,d=>.cons (by rw[e,i_]) h (c.app d)
theorem RepL.split {Hz H:Hp}:∀ {Γ Δ:Fm} {N:List NN},RepL K Hz H (Γ++Δ) N->∃ L M,N=L++M/\RepL K Hz H Γ L/\RepL K Hz H Δ M
 | [],_,N,h=>⟨[],N,rfl,.nil,h⟩
 | (t,x)::r,_,N,.cons e h c=>by
  obtain⟨L,M,rfl,h1,h2⟩:=c.split
  exact⟨_,M,by rw[e,i_],.cons rfl h h1,h2⟩
theorem RepL.perm {Hz H:Hp}{Γ Δ:Fm}(p:Γ.Perm Δ):∀ {L:List NN},RepL K Hz H Γ L->∃ M,L.Perm M/\RepL K Hz H Δ M:=by
 induction p with
 | nil=>intro L h;exact⟨L,.refl _,h⟩
 | cons x q ih=>
  intro L h
  cases h with
  | cons e h c=>
   obtain⟨M,p1,h1⟩:=ih c
   exact⟨_,by rw[e];exact p1.append_left _,.cons rfl h h1⟩
 | swap x y l=>
  intro L h
  cases h with
  | cons e h c=>
   cases c with
   | cons e' h' c'=>
    refine⟨_,?_,.cons rfl h' (.cons rfl h c')⟩
    rw[e,e',<-i_,<-i_]
    exact JX.append_right _
 | trans p q ih1 ih2=>
  intro L h
  obtain⟨M,p1,h1⟩:=ih1 h
  obtain⟨N,p2,h2⟩:=ih2 h1
  exact⟨N,p1.trans p2,h2⟩
theorem Rp.perm {H:Hp}{Γ Δ:Fm}(h:Rp K H Γ)(p:Γ.Perm Δ):Rp K H Δ:=by
 obtain⟨Hz,L,h,nd,g,d⟩:=h
 obtain⟨M,q,h'⟩:=h.perm p
 exact⟨Hz,M,h',q.nodup_iff.mp nd,g,fun b m=>d b (q.mem_iff.mpr m)⟩
theorem Rp.part {H:Hp}{Γ Δ:Fm}(h:Rp K H (Γ++Δ)):Rp K H Δ:=by
 obtain⟨Hz,L,h,nd,g,d⟩:=h
 obtain⟨L1,L2,rfl,_,h2⟩:=h.split
 exact⟨Hz,L2,h2,(La.mp nd).2.1,g,fun b m=>d b (q_ _ m)⟩
theorem Rp.tail {H:Hp}{x:T × Option V}{Γ:Fm}(h:Rp K H (x::Γ)):Rp K H Γ:=Rp.part (Γ:=[x]) h
theorem j7{H H':Hp}(s:bo H H')(a:NN)(u:HO)(e:H a=some u):H' a=some u/\((∀ xs,H a≠some (.tup xs))->∀ xs,H' a≠some (.tup xs)):=
 ⟨s _ _ e,fun n xs r=>n xs (by rw[s _ _ e]at r;exact e.trans r)⟩
theorem Rp.same {H H':Hp}{Γ:Fm}(h:Rp K H Γ)(s:bo H H'):Rp K H' Γ:=by
 obtain⟨Hz,L,h,nd,g,d⟩:=h
 exact⟨Hz,L,h.move (bo.tk s) .d6 (fun a m u e=>j7 s a u e),nd,g.trans (.of s),d⟩
end
section
variable{K:NM}
theorem rW{H H':Hp}{p:NN}{o:HO}(s:Put H p o H')(a:NN)(n:a≠p)(u:HO)(e:H a=some u):H' a=some u/\((∀ xs,H a≠some (.tup xs))->∀ xs,H' a≠some (.tup xs)):=
 ⟨by rw[s.else_ a n];exact e,fun m xs r=>m xs (by rw[s.else_ a n]at r;exact r)⟩
theorem RepTs.len {Hz H:Hp}:∀ {ts:List T} {vs:List V} {L:List NN},RepTs K Hz H ts vs L->ts.length=vs.length
 | _,_,_,.nil=>rfl
 | _,_,_,.cons _ _ c=>by rw[j_,j_,c.len]
abbrev zz(ts:List T)(vs:List V):Fm:=ts.zip (vs.map some)
theorem RepTs.toL {Hz H:Hp}:∀ {ts:List T} {vs:List V} {L:List NN},RepTs K Hz H ts vs L->RepL K Hz H (zz ts vs) L
 | _,_,_,.nil=>.nil
 | _,_,_,.cons e h c=>.cons e (.inr ⟨_,rfl,h⟩) c.toL
theorem RepL.uX {Hz H:Hp}:∀ {ts:List T} {vs:List V} {L:List NN},ts.length=vs.length->RepL K Hz H (zz ts vs) L->RepTs K Hz H ts vs L
 | [],[],_,_,.nil=>.nil
 | [],v::vs,_,l,_=>by simp at l
 | t::ts,[],_,l,_=>by simp at l
 | t::ts,v::vs,L,l,h=>by
  have h:RepL K Hz H ((t,some v)::zz ts vs) L:=h
  cases h with
  | cons e h c=>
   refine .cons e ?_ (c.uX (by simpa using l))
   rcases h with⟨rfl,rfl⟩ | ⟨w,e2,h⟩
   ·exact .any
   cases e2;exact h
theorem RepKs.toL {Hz H:Hp}:∀ {ts:List (Key × T)} {vs:List (Key × V)} {L:List NN},RepKs K Hz H ts vs L->ts.map (·.1)=vs.map (·.1)/\RepTs K Hz H (ts.map (·.2)) (vs.map (·.2)) L
 | _,_,_,.nil=>⟨rfl,.nil⟩
 | _,_,_,.cons e h c=>by
  obtain⟨e1,c1⟩:=c.toL
  exact⟨by rw[d_,d_,e1],.cons e h c1⟩
theorem RepKs.ofL {Hz H:Hp}:∀ {ts:List (Key × T)} {vs:List (Key × V)} {L:List NN},ts.map (·.1)=vs.map (·.1)->RepTs K Hz H (ts.map (·.2)) (vs.map (·.2)) L->RepKs K Hz H ts vs L
 | [],[],_,_,.nil=>.nil
 | [],_::_,_,e,_=>by simp at e
 | _::_,[],_,e,_=>by simp at e
 | (k,t)::ts,(k',v)::vs,L,e,.cons e2 h c=>by
  rw[d_,d_,Kg]at e
  have e0:k=k':=e.1
  subst e0
  exact .cons e2 h (RepKs.ofL e.2 c)
theorem RepXs.toL {Hz H:Hp}:∀ {ts:List (List Key × T)} {vs:List (List Key × V)} {L:List NN},RepXs K Hz H ts vs L->ts.map (·.1)=vs.map (·.1)/\RepTs K Hz H (ts.map (·.2)) (vs.map (·.2)) L
 | _,_,_,.nil=>⟨rfl,.nil⟩
 | _,_,_,.cons e h c=>by
  obtain⟨e1,c1⟩:=c.toL
  exact⟨by rw[d_,d_,e1],.cons e h c1⟩
theorem RepXs.ofL {Hz H:Hp}:∀ {ts:List (List Key × T)} {vs:List (List Key × V)} {L:List NN},ts.map (·.1)=vs.map (·.1)->RepTs K Hz H (ts.map (·.2)) (vs.map (·.2)) L->RepXs K Hz H ts vs L
 | [],[],_,_,.nil=>.nil
 | [],_::_,_,e,_=>by simp at e
 | _::_,[],_,e,_=>by simp at e
 | (k,t)::ts,(k',v)::vs,L,e,.cons e2 h c=>by
  rw[d_,d_,Kg]at e
  have e0:k=k':=e.1
  subst e0
  exact .cons e2 h (RepXs.ofL e.2 c)
theorem AK{H H':Hp}{p:NN}{o:HO}{t:T}{Γ Δ:Fm}(h:Rp K H (Γ++Δ))(hp:H p=none)(s:bo H H')(hn:H' p=some o)
  (mk:∀ Hz L,RepL K Hz H' Γ L->RepT K Hz H' t (.ref p) (p::L)):Rp K H' ((t,some (.ref p))::Δ):=by
 obtain⟨Hz,N,h,nd,g,d⟩:=h
 obtain⟨L,M,rfl,h1,h2⟩:=h.split
 have mv:∀ a∈L++M,∀ u,H a=some u->H' a=some u/\((∀ xs,H a≠some (.tup xs))->∀ xs,H' a≠some (.tup xs)):=fun a _ u e=>j7 s a u e
 have h1':=h1.move (bo.tk s) .d6 fun a m=>mv a (JJ _ m)
 have h2':=h2.move (bo.tk s) .d6 fun a m=>mv a (q_ _ m)
 refine⟨Hz,(p::L)++M,.cons rfl (.inr ⟨_,rfl,mk Hz L h1'⟩) h2',?_,g.trans (.of s),?_⟩
 ·rw[JR,JK]
  refine⟨fun m=>?_,nd⟩
  obtain⟨⟨u,e⟩,_⟩:=h.there p m
  rw[hp]at e;cases e
 intro b m
 rcases t_.mp m with rfl | m
 ·exact g.none hp
 exact d b m
theorem fO{H H':Hp}{p:NN}{ts:List T}{vs:List V}{Δ:Fm}(h:Rp K H (zz ts vs++Δ))(l:ts.length=vs.length)(hp:H p=none)(s:bo H H')(hn:H' p=some (.lst vs)):Rp K H' ((.lst true ts,some (.ref p))::Δ):=
 AK h hp s hn fun _ _ q=>.lstO hn (q.uX l)
theorem gB{H H':Hp}{p:NN}{ts:List T}{vs:List V}{Δ:Fm}(h:Rp K H (zz ts vs++Δ))(l:ts.length=vs.length)(s:bo H H')(hn:H' p=some (.tup vs)):Rp K H' ((.tup ts,some (.ref p))::Δ):=by
 obtain⟨Hz,N,h,nd,g,d⟩:=h.same s
 obtain⟨L,M,rfl,h1,h2⟩:=h.split
 exact⟨Hz,L++M,.cons rfl (.inr ⟨_,rfl,.tup hn (h1.uX l)⟩) h2,nd,g,d⟩
theorem hU{H:Hp}{ts:List T}{x:Option V}{Γ:Fm}(h:Rp K H ((.lst true ts,x)::Γ)):∃ a vs,x=some (.ref a)/\H a=some (.lst vs)/\ts.length=vs.length/\Rp K H ((.bare,some (.ref a))::(zz ts vs++Γ)):=by
 obtain⟨Hz,N,h,nd,g,d⟩:=h
 cases h with
 | cons e h c=>
  rcases h with⟨h,_⟩ | ⟨v,rfl,h⟩
  ·cases h
  cases h with
  | lstO h1 c1=>
   refine⟨_,_,rfl,h1,c1.len,Hz,N,.cons (L:=[_]) (M:=_++_) (by rw[e];rfl) (.inr ⟨_,rfl,.bare h1 fun xs r=>?_⟩) (c1.toL.app c),nd,g,d⟩
   rw[h1]at r;cases r
theorem qQ{H H':Hp}{a:NN}{o:HO}{t:T}{Γ Δ:Fm}(h:Rp K H ((.bare,some (.ref a))::(Γ++Δ)))(p:Put H a o H')
  (mk:∀ Hz L,RepL K Hz H' Γ L->RepT K Hz H' t (.ref a) (a::L)):Rp K H' ((t,some (.ref a))::Δ):=by
 obtain⟨Hz,N,h,nd,g,d⟩:=h
 cases h with
 | cons e h c=>
  rcases h with⟨h,_⟩ | ⟨v,ev,h⟩
  ·cases h
  cases ev
  cases h with
  | bare h1 nt=>
   obtain⟨L,M,e2,h2,h3⟩:=c.split
   subst e;subst e2
   rw[MF,JK]at nd
   have tk:TK H H':=Put.tk p nt
   have ne:∀ b∈L++M,b≠a:=fun b m z=>nd.1 (z ▸ m)
   have g':Gr Hz H':=fun b u r=>by
    have hb:b≠a:=fun z=>by
     obtain⟨w,q⟩:=Rd.some r
     rw[z,d a (by rw[MF];exact v_)]at q
     cases q
    rcases g b u r with r | ⟨o,r⟩
    ·exact .inl (by rw[p.else_ b hb];exact r)
    exact .inr ⟨o,by rw[p.else_ b hb];exact r⟩
   refine⟨Hz,(a::L)++M,.cons rfl (.inr ⟨_,rfl,mk Hz L ?_⟩) ?_,?_,g',?_⟩
   ·exact h2.move tk .d6 fun b m=>rW p b (ne b (JJ _ m))
   ·exact h3.move tk .d6 fun b m=>rW p b (ne b (q_ _ m))
   ·rw[JR,JK];exact nd
   exact d
theorem gM{H H':Hp}{a:NN}{ts:List T}{vs:List V}{Γ:Fm}(h:Rp K H ((.bare,some (.ref a))::(zz ts vs++Γ)))(l:ts.length=vs.length)(p:Put H a (.lst vs) H'):Rp K H' ((.lst true ts,some (.ref a))::Γ):=
 qQ h p fun _ _ q=>.lstO p.at_ (q.uX l)
theorem sS{H:Hp}{ts:List (Key × T)}{x:Option V}{Γ:Fm}(h:Rp K H ((.dK true ts,x)::Γ)):∃ a vs,x=some (.ref a)/\H a=some (.dK vs)/\ts.map (·.1)=vs.map (·.1)/\Rp K H ((.bare,some (.ref a))::(zz (ts.map (·.2)) (vs.map (·.2))++Γ)):=by
 obtain⟨Hz,N,h,nd,g,d⟩:=h
 cases h with
 | cons e h c=>
  rcases h with⟨h,_⟩ | ⟨v,rfl,h⟩
  ·cases h
  cases h with
  | dKO h1 c1=>
   obtain⟨e1,c2⟩:=c1.toL
   refine⟨_,_,rfl,h1,e1,Hz,N,.cons (L:=[_]) (M:=_++_) (by rw[e];rfl) (.inr ⟨_,rfl,.bare h1 fun xs r=>?_⟩) (c2.toL.app c),nd,g,d⟩
   rw[h1]at r;cases r
theorem mO{H:Hp}{ts:List (List Key × T)}{x:Option V}{Γ:Fm}(h:Rp K H ((.dT true ts,x)::Γ)):∃ a vs,x=some (.ref a)/\H a=some (.dT vs)/\ts.map (·.1)=vs.map (·.1)/\Rp K H ((.bare,some (.ref a))::(zz (ts.map (·.2)) (vs.map (·.2))++Γ)):=by
 obtain⟨Hz,N,h,nd,g,d⟩:=h
 cases h with
 | cons e h c=>
  rcases h with⟨h,_⟩ | ⟨v,rfl,h⟩
  ·cases h
  cases h with
  | dTO h1 c1=>
   obtain⟨e1,c2⟩:=c1.toL
   refine⟨_,_,rfl,h1,e1,Hz,N,.cons (L:=[_]) (M:=_++_) (by rw[e];rfl) (.inr ⟨_,rfl,.bare h1 fun xs r=>?_⟩) (c2.toL.app c),nd,g,d⟩
   rw[h1]at r;cases r
theorem d8{κ α β:Type}{ts:List (κ × α)}{vs:List (κ × β)}(e:ts.map (·.1)=vs.map (·.1)):ts.length=vs.length:=by
 have:=congrArg L7 e
 rwa[a_,a_]at this
theorem oJ{H H':Hp}{a:NN}{ts:List (Key × T)}{vs:List (Key × V)}{Γ:Fm}(h:Rp K H ((.bare,some (.ref a))::(zz (ts.map (·.2)) (vs.map (·.2))++Γ)))(l:ts.map (·.1)=vs.map (·.1))(p:Put H a (.dK vs) H'):Rp K H' ((.dK true ts,some (.ref a))::Γ):=
 qQ h p fun _ _ q=>.dKO p.at_ (RepKs.ofL l (q.uX (by rw[a_,a_];exact d8 l)))
theorem oR{H H':Hp}{a:NN}{ts:List (List Key × T)}{vs:List (List Key × V)}{Γ:Fm}(h:Rp K H ((.bare,some (.ref a))::(zz (ts.map (·.2)) (vs.map (·.2))++Γ)))(l:ts.map (·.1)=vs.map (·.1))(p:Put H a (.dT vs) H'):Rp K H' ((.dT true ts,some (.ref a))::Γ):=
 qQ h p fun _ _ q=>.dTO p.at_ (RepXs.ofL l (q.uX (by rw[a_,a_];exact d8 l)))
theorem BG{H H':Hp}{p:NN}{Δ:Fm}(h:Rp K H Δ)(hp:H p=none)(s:bo H H')(hn:H' p=some (.dT [])):Rp K H' ((.dT true [],some (.ref p))::Δ):=
 AK (Γ:=[]) h hp s hn fun _ _ q=>by cases q;exact .dTO hn .nil
theorem lC{H:Hp}{t:T}{x:Option V}{Γ:Fm}(h:Rp K H ((t,x)::Γ)):Rp K H ((er t,x)::Γ):=by
 obtain⟨Hz,N,h,nd,g,d⟩:=h
 cases h with
 | @cons _ _ L M _ _ e h c=>
  rcases h with⟨rfl,rfl⟩ | ⟨v,rfl,h⟩
  ·exact⟨Hz,N,.cons e (.inl ⟨rfl,rfl⟩) c,nd,g,d⟩
  subst e
  have dz:∀ b∈L,Hz b=none:=fun b m=>d b (JJ _ m)
  let Z:Hp:=fun b=>if b∈L then H b else Hz b
  have hz:Gr Hz Z:=fun b u r=>by
   have nb:b ∉ L:=fun m=>by
    obtain⟨w,q⟩:=Rd.some r
    rw[dz b m]at q;cases q
   rcases r with r | ⟨o,r⟩
   ·exact .inl (by show(if b∈L then H b else Hz b)=_;rw[if_neg nb];exact r)
   exact .inr ⟨o,by show(if b∈L then H b else Hz b)=_;rw[if_neg nb];exact r⟩
  have zh:Gr Z H:=fun b u r=>by
   by_cases nb:b∈L
   ·rcases r with r | ⟨o,r⟩
    ·exact .inl (by have r:(if b∈L then H b else Hz b)=_:=r;rw[if_pos nb]at r;exact r)
    exact .inr ⟨o,by have r:(if b∈L then H b else Hz b)=_:=r;rw[if_pos nb]at r;exact r⟩
   refine g b u ?_
   rcases r with r | ⟨o,r⟩
   ·exact .inl (by have r:(if b∈L then H b else Hz b)=_:=r;rw[if_neg nb]at r;exact r)
   exact .inr ⟨o,by have r:(if b∈L then H b else Hz b)=_:=r;rw[if_neg nb]at r;exact r⟩
  have nd2:=La.mp nd
  refine⟨Z,[]++M,.cons rfl (.inr ⟨v,rfl,h.frz hz fun b m=>?_⟩) (c.move (fun _ _ r=>r) hz fun b m u e=>⟨e,fun n=>n⟩),nd2.2.1,zh,fun b m=>?_⟩
  ·show(if b∈L then H b else Hz b)=_
   rw[if_pos m]
  show(if b∈L then H b else Hz b)=_
  rw[if_neg (fun z=>nd2.2.2 b z b m rfl)]
  exact d b (q_ _ m)
theorem iu{H:Hp}{t:T}{x:Option V}{Γ:Fm}(h:Rp K H ((t,x)::Γ))(n:aU t=true):Rp K H ((t,x)::(t,x)::Γ):=by
 obtain⟨Hz,N,h,nd,g,d⟩:=h
 cases h with
 | @cons _ _ L M _ _ e h c=>
  have hL:L=[]:=by
   rcases h with⟨_,rfl⟩ | ⟨v,_,h⟩
   ·rfl
   exact h.nil_of n
  subst hL
  exact⟨Hz,N,.cons (L:=[]) (M:=N) rfl h (.cons e h c),nd,g,d⟩
theorem o7.view {Hz H:Hp}(g:Gr Hz H){t:T}{x:Option V}{L:List NN}(h:o7 K Hz H t x L):o7 K H H (er t) x []:=by
 rcases h with⟨rfl,rfl⟩ | ⟨v,rfl,h⟩
 ·exact .inl ⟨rfl,rfl⟩
 exact .inr ⟨v,rfl,h.frz g fun _ _=>rfl⟩
theorem RepL.view {Hz H:Hp}(g:Gr Hz H):∀ {Γ:Fm} {L:List NN},RepL K Hz H Γ L->RepL K H H (Γ.map fun p=>(er p.1,p.2)) []
 | _,_,.nil=>.nil
 | _,_,.cons e h c=>.cons rfl (h.view g) (c.view g)
theorem pU{H:Hp}{Γ:Fm}(h:Rp K H Γ):Rp K H ((Γ.map fun p=>(er p.1,p.2))++[(.kp H,some .non)]):=by
 obtain⟨Hz,N,h,nd,g,d⟩:=h
 refine⟨H,[]++[],(h.view g).app (.cons rfl (.inr ⟨_,rfl,.kp .d6⟩) .nil),MD,.d6,fun b m=>by cases m⟩
def over(H H':Hp):Hp:=fun b=>match H b with
 | some u=>some u
 | none=>H' b
theorem gU{H H':Hp}{b:NN}{u:HO}(e:H b=some u):over H H' b=some u:=by unfold over;rw[e]
theorem kX{H H':Hp}{b:NN}(e:H b=none):over H H' b=H' b:=by unfold over;rw[e]
theorem yq(H H':Hp):bo H (over H H'):=fun b u e=>gU e
theorem qe{H H':Hp}(g:Gr H H'){b:NN}:over H H' b=H' b\/∃ o u,H' b=some (.frz o u)/\over H H' b=some u:=by
 cases q:H b with
 | none=>exact .inl (kX q)
 | some u=>
  rw[gU q]
  rcases g b u (.inl q)with r | ⟨o,r⟩
  ·exact .inl r.symm
  exact .inr ⟨o,u,r,rfl⟩
theorem sL{H H':Hp}(g:Gr H H'){b:NN}{xs:List V}(r:H' b=some (.tup xs)):over H H' b=some (.tup xs):=by
 rcases qe g (b:=b)with e | ⟨o,u,e,_⟩
 ·rw[e];exact r
 rw[r]at e;cases e
theorem qh{H H':Hp}{t:T}{x:Option V}{Γ Δ:Fm}(h:Rp K H Γ)(q:Rp K H' ((t,x)::(Δ++[(.kp H,some .non)])))(n:cD t=true):Gr H H'/\Rp K (over H H') ((t,x)::Γ):=by
 obtain⟨Hy,N',q,nd',g',d'⟩:=q
 cases q with
 | @cons _ _ L M _ _ e h1 c=>
  have hkp:Gr H Hy:=by
   obtain⟨_,_,_,_,c2⟩:=c.split
   cases c2 with
   | cons _ h2 _=>
    rcases h2 with⟨z,_⟩ | ⟨_,_,h2⟩
    ·cases z
    cases h2 with
    | kp z=>exact z
  have gr:=hkp.trans g'
  refine⟨gr,?_⟩
  subst e
  have nd2:=La.mp nd'
  have hL:∀ b∈L,H b=none:=fun b m=>hkp.none (d' b (JJ _ m))
  obtain⟨Hz,N,h,nd,g,d⟩:=h
  have so:=yq H H'
  have tk:TK H' (over H H'):=fun b xs r=>sL gr r
  have h1':o7 K Hz (over H H') t x L:=by
   rcases h1 with⟨rfl,rfl⟩ | ⟨v,rfl,h1⟩
   ·exact .inl ⟨rfl,rfl⟩
   refine .inr ⟨v,rfl,h1.EG tk n fun b m u e=>?_⟩
   have eo:=kX (H':=H') (hL b m)
   exact⟨eo.trans e,fun nt xs r=>nt xs (by rw[<-eo];exact r)⟩
  refine⟨Hz,L++N,.cons rfl h1' (h.move (bo.tk so) .d6 fun b m u e=>j7 so b u e),?_,g.trans (.of so),?_⟩
  ·rw[La]
   refine⟨nd2.1,nd,fun b m b' m' z=>?_⟩
   subst z
   obtain⟨⟨u,e⟩,_⟩:=h.there b m'
   rw[hL b m]at e;cases e
  intro b m
  rcases D_.mp m with m | m
  ·exact g.none (hL b m)
  exact d b m
theorem nL:∀ {ts:List T} {vs:List V} {i:Nat} {t:T},ts.length=vs.length->ts[i]?=some t->∃ w,vs[i]?=some w
 | ts,vs,i,t,l,e=>by
  have h:i < ts.length:=(f_.mp e).1
  exact⟨vs[i]'(by omega),b_ (by omega)⟩
theorem nG{α:Type}:∀ {l:List α} {i:Nat} {x y:α},l[i]?=some y->(l.set i x).set i y=l
 | [],i,x,y,e=>by simp at e
 | a::l,0,x,y,e=>by simp at e;subst e;rfl
 | a::l,i + 1,x,y,e=>by
  simp only[Kn]at e
  rw[L8,L8,nG e]
end
theorem mD{α β:Type}:∀ {l:List α} {m:List β} {i:Nat} {a:α} {b:β} (t:α) (y:β),l[i]?=some a->m[i]?=some b->((a,b)::(l.set i t).zip (m.set i y)).Perm ((t,y)::l.zip m)
 | [],m,i,a,b,t,y,h,_=>by simp at h
 | x::l,[],i,a,b,t,y,_,h=>by simp at h
 | x::l,z::m,0,a,b,t,y,h,g=>by
  simp only[KU,Me]at h g
  subst h;subst g
  exact .swap _ _ _
 | x::l,z::m,i + 1,a,b,t,y,h,g=>by
  simp only[Kn]at h g
  have p:=mD t y h g
  show NC ((a,b)::(x,z)::(l.set i t).zip (m.set i y)) ((t,y)::(x,z)::l.zip m)
  exact(KO _ _ _).trans ((p.cons _).trans (.swap _ _ _))
theorem set_same{α:Type}{l:List α}{i:Nat}{x:α}(h:l[i]?=some x):l.set i x=l:=by
 have:=nG (x:=x) h
 rw[Lz]at this
 exact this
section
variable{K:NM}
def Rs(K:NM)(H:Hp)(env:Ev)(σ:St)(Fr:Fm):Prop:=env.length=σ.length/\Rp K H (env.zip σ++Fr)
theorem iN{H:Hp}{x:Option V}{Γ:Fm}(h:Rp K H Γ):Rp K H ((.any,x)::Γ):=by
 obtain⟨Hz,N,h,nd,g,d⟩:=h
 exact⟨Hz,N,.cons (L:=[]) rfl (.inl ⟨rfl,rfl⟩) h,nd,g,d⟩
theorem Rs.perm {H:Hp}{env:Ev}{σ:St}{Fr Gr:Fm}(h:Rs K H env σ Fr)(p:Fr.Perm Gr):Rs K H env σ Gr:=⟨h.1,h.2.perm (p.append_left _)⟩
theorem Rs.drop {H:Hp}{env:Ev}{σ:St}{x:T × Option V}{Fr:Fm}(h:Rs K H env σ (x::Fr)):Rs K H env σ Fr:=⟨h.1,(h.2.perm gV).tail⟩
theorem Rs.head {H:Hp}{env:Ev}{σ:St}{x:T × Option V}{Fr:Fm}(h:Rs K H env σ (x::Fr)):Rp K H (x::(env.zip σ++Fr)):=h.2.perm gV
theorem Rs.of {H:Hp}{env:Ev}{σ:St}{x:T × Option V}{Fr:Fm}(l:env.length=σ.length)(h:Rp K H (x::(env.zip σ++Fr))):Rs K H env σ (x::Fr):=⟨l,h.perm gV.symm⟩
theorem Rs.chg {H H':Hp}{env:Ev}{σ:St}{Δ Δ' Fr:Fm}(h:Rs K H env σ (Δ++Fr))(f:∀ Γ,Rp K H (Δ++Γ)->Rp K H' (Δ'++Γ)):Rs K H' env σ (Δ'++Fr):=by
 refine⟨h.1,?_⟩
 have p:∀ A:Fm,(A++(env.zip σ++Fr)).Perm (env.zip σ++(A++Fr)):=fun A=>by
  rw[<-i_,<-i_]
  exact JX.append_right _
 exact(f _ (h.2.perm (p Δ).symm)).perm (p Δ')
theorem Rs.slot {H:Hp}{env:Ev}{σ:St}{Fr:Fm}{i:Nat}{t:T}(h:Rs K H env σ Fr)(e:env[i]?=some t):∃ x,σ[i]?=some x/\Rs K H (env.set i .any) σ ((t,x)::Fr):=by
 have hi:i < env.length:=(f_.mp e).1
 have hs:i < σ.length:=by rw[<-h.1];exact hi
 have ex:σ[i]?=some σ[i]:=b_ hs
 refine⟨σ[i],ex,by rw[JL];exact h.1,?_⟩
 have p:=mD (T.any) σ[i] e ex
 rw[set_same ex]at p
 refine(iN (x:=σ[i]) h.2).perm ?_
 refine w_ ?_ gV.symm
 exact(p.symm.append_right Fr)
theorem Rs.jw {H:Hp}{env:Ev}{σ:St}{Fr:Fm}{i:Nat}{t:T}{x:Option V}(h:Rs K H env σ ((t,x)::Fr))(hi:i < env.length)(ex:σ[i]?=some x):Rs K H (env.set i t) σ Fr:=by
 have e:env[i]?=some env[i]:=b_ hi
 refine⟨by rw[JL];exact h.1,?_⟩
 have p:=mD t x e ex
 rw[set_same ex]at p
 refine Rp.tail (x:=(env[i],x)) (h.2.perm ?_)
 refine gV.trans ?_
 exact(p.symm.append_right Fr)
theorem Rs.store {H:Hp}{env:Ev}{σ:St}{Fr:Fm}{i:Nat}{t:T}{v:V}(h:Rs K H env σ ((t,some v)::Fr))(hi:i < env.length):Rs K H (env.set i t) (σ.set i (some v)) Fr:=by
 have e:env[i]?=some env[i]:=b_ hi
 have hs:i < σ.length:=by rw[<-h.1];exact hi
 have ex:σ[i]?=some σ[i]:=b_ hs
 refine⟨by rw[JL,JL];exact h.1,?_⟩
 have p:=mD t (some v) e ex
 refine Rp.tail (x:=(env[i],σ[i])) (h.2.perm ?_)
 refine gV.trans ?_
 exact(p.symm.append_right Fr)
end
theorem mY{X:Cx}{pins:List (NN × Obj)}{σ σ':St}{H H':Hp}{s s':NO}(I:Inv X pins σ H s)(J:Inv X pins σ' H' s')(g:Gr H H'):Inv X pins σ' (over H H') s':=by
 have nn:∀ b,H' b=none->over H H' b=none:=fun b e=>by rw[kX (g.none e)];exact e
 refine⟨J.ok,J.os,J.bare,⟨J.base.keep,J.base.slot,?_,J.base.there,?_,?_,?_⟩,J.loc,J.cell,nn _ J.free,fun x c e=>nn _ (J.freeC x c e),fun p hp=>?_,?_,J.len⟩
 ·exact fun b o e1 e2 e3=>nn _ (J.base.free b o e1 e2 e3)
 ·exact fun b xs e=>gU (I.base.tups b xs e)
 ·exact fun b o u e=>gU (I.base.frzs b o u e)
 ·exact fun b ps e=>by
   obtain⟨m,em⟩:=I.base.tbls b ps e
   exact⟨m,gU em⟩
 ·obtain⟨h1,h2,h3⟩:=J.pin p hp
  exact⟨h1,nn _ h2,h3⟩
 intro b u e
 have ho:∀ c y,H' c=some (.own y)->over H H' c=some (.own y):=fun c y q=>by
  rcases qe g (b:=c)with z | ⟨o,w,z,_⟩
  ·rw[z];exact q
  rw[q]at z;cases z
 have ht:∀ c xs,H' c=some (.tup xs)->over H H' c=some (.tup xs):=fun c xs q=>sL g q
 have key:bg X.prog X.w H' s'.heap b u:=by
  rcases qe g (b:=b)with z | ⟨o,w,z,zw⟩
  ·rw[z]at e;exact J.hok b u e
  rw[zw]at e
  cases e
  exact(J.hok b _ z).2
 exact key.jK (fun c v _ q=>q) (fun c=>ho c b) ht
theorem BP{X:Cx}{e:N2}{t:TE}(h:PE X e t):PE X e (fun σ H Q=>t σ H fun v H'=>Gr H H'/\Q v (over H H')):=fun pins s σ H Q I q=>
 thn (h pins s σ H _ I q) fun u s' ⟨v,H',I',r,g,q'⟩=>⟨v,over H H',mY I I' g,r,q'⟩
theorem Cs{X:Cx}{e:N2}{t:TT}(h:PT X e t):PT X e (fun σ H Q=>t σ H fun b H'=>Gr H H'/\Q b (over H H')):=fun pins s σ H Q I q=>
 thn (h pins s σ H _ I q) fun b s' ⟨H',I',g,q'⟩=>⟨over H H',mY I I' g,q'⟩
abbrev PF:=Ev->(T->Ev->Prop)->Prop
abbrev PB:=Ev->(Bool->Ev->Prop)->Prop
abbrev PFs:=Ev->(List T->Ev->Prop)->Prop
def wE(K:NM)(f:PF):TE:=fun σ H Q=>∃ env Fr k,Rs K H env σ Fr/\f env k/\∀ t env' v H',k t env'->Rs K H' env' σ ((t,some v)::Fr)->Q v H'
def wB(K:NM)(f:PB):TT:=fun σ H Q=>∃ env Fr k,Rs K H env σ Fr/\f env k/\∀ b env' H',k b env'->Rs K H' env' σ Fr->Q b H'
noncomputable def wA(K:NM)(f:PFs):TA:=fun σ H Q=>∃ env Fr k,Rs K H env σ Fr/\f env k/\∀ ts env' vs H',k ts env'->ts.length=vs.length->Rs K H' env' σ (zz ts vs++Fr)->Q vs H'
def GE(X:Cx)(e:N2)(f:PF):Prop:=PE X e (wE X.K f)
def GT(X:Cx)(e:N2)(f:PB):Prop:=PT X e (wB X.K f)
def GW(X:Cx)(e:N2)(f:PB):Prop:=PW X e (wB X.K f)
def GA(X:Cx)(es:List N2)(f:PFs):Prop:=PA X es (wA X.K f)
theorem PE.imp {X:Cx}{e:N2}{t t':TE}(h:PE X e t)(k:∀ σ H Q,t' σ H Q->t σ H Q):PE X e t':=fun pins s σ H Q I q=>h pins s σ H Q I (k _ _ _ q)
theorem PT.imp {X:Cx}{e:N2}{t t':TT}(h:PT X e t)(k:∀ σ H Q,t' σ H Q->t σ H Q):PT X e t':=fun pins s σ H Q I q=>h pins s σ H Q I (k _ _ _ q)
theorem PW.imp {X:Cx}{e:N2}{t t':TT}(h:PW X e t)(k:∀ σ H Q,t' σ H Q->t σ H Q):PW X e t':=fun wh pins s σ H Q I q=>h wh pins s σ H Q I (k _ _ _ q)
theorem PA.imp {X:Cx}{es:List N2}{t t':TA}(h:PA X es t)(k:∀ σ H Q,t' σ H Q->t σ H Q):PA X es t':=fun pos pins s σ H Q I q=>h pos pins s σ H Q I (k _ _ _ q)
def fQ(f:PF):PF:=fun env k=>f (erL env) fun t _=>cD t=true/\k t env
def fQT(f:PB):PB:=fun env k=>f (erL env) fun b _=>k b env
theorem mJ:∀(env:Ev) (σ:St),(env.zip σ).map (fun p=>(er p.1,p.2))=(erL env).zip σ
 | [],σ=>by simp[erL]
 | t::env,[]=>by simp
 | t::env,x::σ=>by
  rw[erL,Kt,d_,Kt,mJ env σ]
theorem aD{X:Cx}{e:N2}{f:PF}(h:GE X e f):GE X e (fQ f):=by
 refine PE.imp (BP h) ?_
 rintro σ H Q ⟨env,Fr,k,rs,q,c⟩
 have rv:Rs X.K H (erL env) σ ((Fr.map fun p=>(er p.1,p.2))++[(.kp H,some .non)]):=by
  refine⟨by rw[md];exact rs.1,?_⟩
  have:=pU rs.2
  rw[r_,mJ,i_]at this
  exact this
 refine⟨erL env,_,_,rv,q,?_⟩
 rintro t env' v H' ⟨n,kt⟩ rs'
 obtain⟨g,r2⟩:=qh rs.2 (Δ:=env'.zip σ++(Fr.map fun p=>(er p.1,p.2))) (by rw[i_];exact rs'.head) n
 exact⟨g,c t env v _ kt (.of rs.1 r2)⟩
theorem zB{K:NM}{H H':Hp}{Γ Δ:Fm}(h:Rp K H Γ)(q:Rp K H' (Δ++[(.kp H,some .non)])):Gr H H'/\Rp K (over H H') Γ:=by
 obtain⟨g,r⟩:=qh (t:=.any) (x:=none) h (iN q) rfl
 exact⟨g,r.tail⟩
theorem gp{X:Cx}{e:N2}{f:PB}(h:GT X e f):GT X e (fQT f):=by
 refine PT.imp (Cs h) ?_
 rintro σ H Q ⟨env,Fr,k,rs,q,c⟩
 have rv:Rs X.K H (erL env) σ ((Fr.map fun p=>(er p.1,p.2))++[(.kp H,some .non)]):=by
  refine⟨by rw[md];exact rs.1,?_⟩
  have:=pU rs.2
  rw[r_,mJ,i_]at this
  exact this
 refine⟨erL env,_,_,rv,q,?_⟩
 rintro b env' H' kt rs'
 obtain⟨g,r2⟩:=zB rs.2 (Δ:=env'.zip σ++(Fr.map fun p=>(er p.1,p.2))) (by rw[i_];exact rs'.2)
 exact⟨g,c b env _ kt ⟨rs.1,r2⟩⟩
def fK(t:T):PF:=fun env k=>k t env
section
variable{X:Cx}{pos:Pos}
theorem iL{K:NM}{H:Hp}{env:Ev}{σ:St}{Fr:Fm}{t:T}{v:V}(h:Rs K H env σ Fr)(r:∀ Hz,RepT K Hz H t v []):Rs K H env σ ((t,some v)::Fr):=by
 refine .of h.1 ?_
 obtain⟨Hz,N,q,nd,g,d⟩:=h.2
 exact⟨Hz,N,.cons (L:=[]) rfl (.inr ⟨v,rfl,r Hz⟩) q,nd,g,d⟩
theorem ge_int{i:Int}{j:Nat}:GE X (.Constant (.int i) j pos) (fK (.int i)):=PE.imp d7 fun σ H Q ⟨env,Fr,k,rs,q,c⟩=>c _ _ _ _ q (iL rs fun _=>.int)
theorem mZ{b:Bool}{j:Nat}:GE X (.Constant (.bool b) j pos) (fK (.bl b)):=PE.imp zV fun σ H Q ⟨env,Fr,k,rs,q,c⟩=>c _ _ _ _ q (iL rs fun _=>.bl)
theorem i8{j:Nat}:GE X (.Constant .none j pos) (fK .non):=PE.imp Gs fun σ H Q ⟨env,Fr,k,rs,q,c⟩=>c _ _ _ _ q (iL rs fun _=>.non)
theorem Cz{x:Str}{t:T}{v:V}{u:NK}(hg:Gl X x)(hm:X.mg x=some u)(r:RelV v u)(ht:∀ Hz H,RepT X.K Hz H t v [])(hd:(x ==("__debug__":Str))=false:=by decide):GE X (.Name x pos) (fK t):=
 PE.imp (C5 hg hm r hd) fun σ H Q ⟨env,Fr,k,rs,q,c⟩=>c _ _ _ _ q (iL rs fun Hz=>ht Hz H)
def isAny:T->Bool
 | .any=>true
 | _=>false
def BX(i:Nat):PF:=fun env k=>match env[i]? with
 | some t=>isAny t=false/\aU t=true/\k t env
 | none=>False
def fFz(i:Nat):PF:=fun env k=>match env[i]? with
 | some t=>isAny t=false/\k (er t) (env.set i (er t))
 | none=>False
def fMv(i:Nat):PF:=fun env k=>match env[i]? with
 | some t=>isAny t=false/\k t (env.set i .any)
 | none=>False
theorem fL{K:NM}{H:Hp}{env:Ev}{σ:St}{Fr:Fm}{t:T}{x:Option V}(h:Rs K H env σ ((t,x)::Fr))(n:isAny t=false):∃ v,x=some v:=by
 obtain⟨Hz,N,q,_⟩:=h.head
 cases q with
 | cons e h c=>
  rcases h with⟨rfl,_⟩ | ⟨v,e,_⟩
  ·cases n
  exact⟨v,e⟩
theorem af(i:Nat){x:Str}(hN:X.N[i]?=some x:=by rfl)(hv:Vis X.env.scope x:=by first | exact e_ rfl | exact k_ (e_ rfl) | exact k_ (k_ rfl))(hd:(x ==("__debug__":Str))=false:=by decide)(hcd:(x ==("__classdict__":Str))=false:=by decide):GE X (.Name x pos) (BX i):=by
 refine PE.imp (gA hN hv hd hcd) ?_
 rintro σ H Q ⟨env,Fr,k,rs,q,c⟩
 unfold BX at q
 split at q
 ·rename_i t e
  obtain⟨na,no,q⟩:=q
  obtain⟨y,ey,rs2⟩:=rs.slot e
  obtain⟨v,rfl⟩:=fL rs2 na
  refine⟨v,ey,c _ _ _ _ q ?_⟩
  have hi:i < env.length:=(f_.mp e).1
  have r3:Rs X.K H (env.set i .any) σ ((t,some v)::(t,some v)::Fr):=.of rs2.1 ((iu rs2.head no).perm (by
   refine MG _ ?_
   exact gV.symm))
  have r4:=Rs.jw (i:=i) r3 (by rw[JL];exact hi) ey
  rw[nG e]at r4
  exact r4
 exact q.elim
theorem cC(i:Nat){x:Str}(hN:X.N[i]?=some x:=by rfl)(hv:Vis X.env.scope x:=by first | exact e_ rfl | exact k_ (e_ rfl) | exact k_ (k_ rfl))(hd:(x ==("__debug__":Str))=false:=by decide)(hcd:(x ==("__classdict__":Str))=false:=by decide):GE X (.Name x pos) (fFz i):=by
 refine PE.imp (gA hN hv hd hcd) ?_
 rintro σ H Q ⟨env,Fr,k,rs,q,c⟩
 unfold fFz at q
 split at q
 ·rename_i t e
  obtain⟨na,q⟩:=q
  obtain⟨y,ey,rs2⟩:=rs.slot e
  obtain⟨v,rfl⟩:=fL rs2 na
  refine⟨v,ey,c _ _ _ _ q ?_⟩
  have hi:i < env.length:=(f_.mp e).1
  have no:aU (er t)=true:=cW t
  have r3:Rs X.K H (env.set i .any) σ ((er t,some v)::(er t,some v)::Fr):=.of rs2.1 ((iu (lC rs2.head) no).perm (by
   refine MG _ ?_
   exact gV.symm))
  have r4:=Rs.jw (i:=i) r3 (by rw[JL];exact hi) ey
  rw[Lz]at r4
  exact r4
 exact q.elim
theorem iq(i:Nat){x:Str}(hN:X.N[i]?=some x:=by rfl)(hv:Vis X.env.scope x:=by first | exact e_ rfl | exact k_ (e_ rfl) | exact k_ (k_ rfl))(hd:(x ==("__debug__":Str))=false:=by decide)(hcd:(x ==("__classdict__":Str))=false:=by decide):GE X (.Name x pos) (fMv i):=by
 refine PE.imp (gA hN hv hd hcd) ?_
 rintro σ H Q ⟨env,Fr,k,rs,q,c⟩
 unfold fMv at q
 split at q
 ·rename_i t e
  obtain⟨na,q⟩:=q
  obtain⟨y,ey,rs2⟩:=rs.slot e
  obtain⟨v,rfl⟩:=fL rs2 na
  exact⟨v,ey,c _ _ _ _ q rs2⟩
 exact q.elim
end
section
variable{K:NM}{H:Hp}{Γ:Fm}
theorem iP{t:T}{y:V}(h:Rp K H ((t,some y)::Γ))(n:isAny t=false):∃ Hz L,RepT K Hz H t y L/\Gr Hz H:=by
 obtain⟨Hz,N,h,nd,g,d⟩:=h
 cases h with
 | cons e h c=>
  rcases h with⟨rfl,_⟩ | ⟨v,e2,h⟩
  ·cases n
  cases e2
  exact⟨Hz,_,h,g⟩
theorem aV{i:Int}{y:V}(h:Rp K H ((.int i,some y)::Γ)):y=.int i:=by
 obtain⟨_,_,r,_⟩:=iP h rfl
 cases r;rfl
theorem lS{i:Bool}{y:V}(h:Rp K H ((.bl i,some y)::Γ)):y=.bl i:=by
 obtain⟨_,_,r,_⟩:=iP h rfl
 cases r;rfl
theorem iE{i:Str}{y:V}(h:Rp K H ((.str i,some y)::Γ)):y=.str i:=by
 obtain⟨_,_,r,_⟩:=iP h rfl
 cases r;rfl
theorem uU{y:V}(h:Rp K H ((.non,some y)::Γ)):y=.non:=by
 obtain⟨_,_,r,_⟩:=iP h rfl
 cases r;rfl
theorem cz{t:T}{v:V}(h:Rp K H Γ)(r:∀ Hz,RepT K Hz H t v []):Rp K H ((t,some v)::Γ):=by
 obtain⟨Hz,N,q,nd,g,d⟩:=h
 exact⟨Hz,N,.cons (L:=[]) rfl (.inr ⟨v,rfl,r Hz⟩) q,nd,g,d⟩
def items:T->Option (List T)
 | .tup ts=>some ts
 | .cst ts=>some ts
 | .lst _ ts=>some ts
 | _=>none
def kM:T->Bool
 | .tup _=>true
 | .cst _=>true
 | _=>false
theorem vT{a:NN}{vs:List V}(h:SqT K (fun _=>none) a vs)(H:Hp):SqT K H a vs:=by
 rcases h with (h | ⟨_,h⟩) | h
 ·cases h
 ·cases h
 exact .inr h
theorem aF{t:T}{ts:List T}{y:V}(e:items t=some ts)(h:Rp K H ((t,some y)::Γ)):∃ a vs,y=.ref a/\SqG (kM t) K H a vs/\ts.length=vs.length/\Rp K H (zz ts vs++Γ):=by
 obtain⟨Hz,N,h,nd,g,d⟩:=h
 cases h with
 | cons e1 h c=>
  rcases h with⟨rfl,_⟩ | ⟨v,e2,h⟩
  ·cases e
  cases e2
  cases h <;> cases e
  ·rename_i a vs h c1
   exact⟨a,vs,rfl,SqT.of h,c1.len,Hz,_,c1.toL.app c,by rw[<-e1];exact nd,g,fun b m=>d b (by rw[e1];exact m)⟩
  ·rename_i a vs h c1
   exact⟨a,vs,rfl,vT h H,c1.len,Hz,_,c1.toL.app c,by rw[<-e1];exact nd,g,fun b m=>d b (by rw[e1];exact m)⟩
  ·rename_i a vs L h c1
   rw[e1,JR,JK]at nd
   exact⟨a,vs,rfl,SqL.of h,c1.len,Hz,_,c1.toL.app c,nd.2,g,fun b m=>d b (by rw[e1,JR];exact l_ _ m)⟩
  rename_i a vs h c1
  exact⟨a,vs,rfl,.inl (g _ _ h),c1.len,Hz,_,c1.toL.app c,by rw[<-e1];exact nd,g,fun b m=>d b (by rw[e1];exact m)⟩
theorem qm:∀ {ts:List T} {vs:List V} {i:Nat} {t:T} {w:V},ts[i]?=some t->vs[i]?=some w->∃ r,(zz ts vs).Perm ((t,some w)::r)
 | [],vs,i,t,w,e,f=>by simp at e
 | t::ts,[],i,_,w,e,f=>by simp at f
 | t::ts,v::vs,0,u,w,e,f=>by
  simp only[KU,Me]at e f
  subst e;subst f
  exact⟨_,.refl _⟩
 | t::ts,v::vs,i + 1,u,w,e,f=>by
  simp only[Kn]at e f
  obtain⟨r,h⟩:=qm (ts:=ts) (vs:=vs) e f
  exact⟨(t,some v)::r,(h.cons _).trans (.swap _ _ _)⟩
theorem hJ{ts:List T}{vs:List V}{i:Nat}{t:T}{w:V}(h:Rp K H (zz ts vs++Γ))(e:ts[i]?=some t)(f:vs[i]?=some w):Rp K H ((t,some w)::Γ):=by
 obtain⟨r,p⟩:=qm e f
 refine Rp.part (Γ:=r) (h.perm ?_)
 refine(p.append_right Γ).trans ?_
 exact gV.symm
theorem AG{ts:List T}{vs:List V}{i:Int}{t:T}(l:ts.length=vs.length)(e:atI ts i=some t)(h:Rp K H (zz ts vs++Γ)):∃ w,atI vs i=some w/\Rp K H ((t,some w)::Γ):=by
 unfold atI at e ⊢
 rw[l]at e
 cases q:ixN vs.length i with
 | none=>rw[q]at e;cases e
 | some j=>
  rw[q]at e
  have e:ts[j]?=some t:=e
  obtain⟨w,f⟩:=nL l e
  exact⟨w,f,hJ h e f⟩
end
def got{α:Type}(o:Option α)(k:α->Prop):Prop:=match o with
 | some u=>k u
 | none=>False
theorem Ad{α:Type}{o:Option α}{u:α}{k:α->Prop}(e:o=some u)(h:k u):got o k:=by rw[e];exact h
theorem aI{α:Type}{o:Option α}{k:α->Prop}(h:got o k):∃ u,o=some u/\k u:=by
 cases o with
 | none=>exact h.elim
 | some u=>exact⟨u,rfl,h⟩
def cnd(b:Bool)(A B:Prop):Prop:=(b=true->A)/\(b=false->B)
theorem Hf{A B:Prop}(h:A):cnd true A B:=⟨fun _=>h,fun e=>by cases e⟩
theorem IS{A B:Prop}(h:B):cnd false A B:=⟨fun e=>(by cases e),fun _=>h⟩
theorem ig{b:Bool}{A B:Prop}(h:cnd b A B):if b=true then A else B:=by
 cases b with
 | true=>rw[if_pos rfl];exact h.1 rfl
 | false=>rw[if_neg (by decide)];exact h.2 rfl
abbrev P2:=T->T->(T->Prop)->Prop
def w2(K:NM)(g:P2):R2:=fun x y H Q=>∃ tx ty Γ k,Rp K H ((ty,some y)::(tx,some x)::Γ)/\g tx ty k/\∀ t v H',k t->Rp K H' ((t,some v)::Γ)->Q v H'
def OpP(X:Cx)(f:NK->NK->Sem NK)(g:P2):Prop:=OpR X f (w2 X.K g)
theorem OpP.of {X:Cx}{f:NK->NK->Sem NK}{g:P2}{r:R2}(h:OpR X f r)(k:∀ tx ty x y H Γ (k:T->Prop) (Q:VK),Rp X.K H ((ty,some y)::(tx,some x)::Γ)->g tx ty k->(∀ t v H',k t->Rp X.K H' ((t,some v)::Γ)->Q v H')->r x y H Q):OpP X f g:=
 fun pins s σ H x y v u Q I rx ry ⟨tx,ty,Γ,kk,rp,g,c⟩=>h pins s σ H x y v u Q I rx ry (k tx ty x y H Γ kk Q rp g c)
def yN(g:P2)(a b:PF):PF:=fun env k=>a env fun x env1=>b env1 fun y env2=>g x y fun t=>k t env2
theorem wb{X:Cx}{g:P2}{fa fb:PF}:∀ σ H Q,wE X.K (yN g fa fb) σ H Q->tOp (w2 X.K g) (wE X.K fa) (wE X.K fb) σ H Q:=by
 rintro σ H Q ⟨env,Fr,k,rs,q,c⟩
 refine⟨env,Fr,_,rs,q,fun tx env1 x H1 q1 rs1=>⟨env1,_,_,rs1,q1,fun ty env2 y H2 q2 rs2=>?_⟩⟩
 refine⟨tx,ty,env2.zip σ++Fr,_,?_,q2,fun t v H' kt rp=>c _ _ _ _ kt (.of rs2.1 rp)⟩
 exact rs2.head.perm (.cons _ gV)
section
variable{X:Cx}{a b c d:N2}{fa fb fc fd:PF}{pos:Pos}
theorem ah{op:Operator}{g:P2}(ho:OpP X (OM op) g)(ha:GE X a fa)(hb:GE X b fb):GE X (.BinOp a op b pos) (yN g fa fb):=PE.imp (eV ho ha hb) wb
theorem gE{op:Qs}{g:P2}(ho:OpP X (Ob op) g)(ha:GE X a fa)(hb:GE X b fb)(hm:OW op b=false):GE X (.Compare a [op] [b] pos) (yN g fa fb):=PE.imp (qO ho ha hb hm) wb
def BM(f:PF):PB:=fun env k=>f env fun t env'=>match t with
 | .bl b=>k b env'
 | _=>False
theorem B1{K:NM}{f:PF}:∀ σ H Q,wB K (BM f) σ H Q->Ar (wE K f) σ H Q:=by
 rintro σ H Q ⟨env,Fr,k,rs,q,c⟩
 refine⟨env,Fr,_,rs,q,fun t env' v H' q1 rs1=>?_⟩
 cases t <;> first | exact q1.elim | skip
 rename_i b
 exact⟨b,lS rs1.head,c _ _ _ q1 rs1.drop⟩
theorem br{op:Qs}{g:P2}(ho:OpP X (Ob op) g)(ha:GE X a fa)(hb:GE X b fb)(hm:OW op b=false):GT X (.Compare a [op] [b] pos) (BM (yN g fa fb)):=by
 refine PT.imp (j5 ho ha hb hm) fun σ H Q h=>?_
 obtain⟨env,Fr,k,rs,q,c⟩:=B1 σ H Q h
 exact wb σ H _ ⟨env,Fr,k,rs,q,c⟩
def qJ(g g':P2)(fa fb fc:PF):PF:=fun env k=>fa env fun x env1=>fb env1 fun y env2=>aU y=true/\g x y fun z=>match z with
 | .bl b=>cnd b (fc env2 fun u env3=>g' y u fun t=>k t env3) (k (.bl false) env2)
 | _=>False
theorem rq{X:Cx}{g g':P2}{fa fb fc:PF}:∀ σ H Q,wE X.K (qJ g g' fa fb fc) σ H Q->v3 (w2 X.K g) (w2 X.K g') (wE X.K fa) (wE X.K fb) (wE X.K fc) σ H Q:=by
 rintro σ H Q ⟨env,Fr,k,rs,q,c⟩
 refine⟨env,Fr,_,rs,q,fun tx env1 x H1 q1 rs1=>⟨env1,_,_,rs1,q1,fun ty env2 y H2 ⟨no,q2⟩ rs2=>?_⟩⟩
 have rd:=iu rs2.head no
 refine⟨tx,ty,(ty,some y)::(env2.zip σ++Fr),_,?_,q2,fun t v H' kt rp=>?_⟩
 ·refine rd.perm (.cons _ ?_)
  refine w_ (.cons _ gV) (.swap _ _ _)
 cases t <;> first | exact kt.elim | skip
 rename_i bb
 refine⟨bb,lS rp,ig ⟨fun hb=>?_,fun hb=>?_⟩⟩
 ·refine⟨env2,(ty,some y)::Fr,_,.of rs2.1 rp.tail,kt.1 hb,fun tu env3 u H3 q3 rs3=>?_⟩
  refine⟨ty,tu,env3.zip σ++Fr,_,?_,q3,fun t v H' kt rp=>c _ _ _ _ kt (.of rs3.1 rp)⟩
  exact rs3.head.perm (.cons _ gV)
 exact c _ _ _ _ (kt.2 hb) (iL ⟨rs2.1,rp.tail.tail⟩ fun _=>.bl)
theorem jB{op op':Qs}{g g':P2}(ho:OpP X (Ob op) g)(ho':OpP X (Ob op') g')(ha:GE X a fa)(hb:GE X b fb)(hc:GE X c fc)(hm:Sy [op,op'] [b,c]=false:=by with_unfolding_all rfl) :
  GE X (.Compare a [op,op'] [b,c] pos) (qJ g g' fa fb fc):=PE.imp (Bp ho ho' ha hb hc hm) rq
theorem yU{op op':Qs}{g g':P2}(ho:OpP X (Ob op) g)(ho':OpP X (Ob op') g')(ha:GE X a fa)(hb:GE X b fb)(hc:GE X c fc)(hm:Sy [op,op'] [b,c]=false:=by with_unfolding_all rfl) :
  GT X (.Compare a [op,op'] [b,c] pos) (BM (qJ g g' fa fb fc)):=by
 refine PT.imp (zO ho ho' ha hb hc hm) fun σ H Q h=>?_
 obtain⟨env,Fr,k,rs,q,c⟩:=B1 σ H Q h
 exact rq σ H _ ⟨env,Fr,k,rs,q,c⟩
def F2:T->(Bool->Prop)->Prop
 | .non,k=>k false
 | .bl b,k=>k b
 | .int i,k=>k (i != 0)
 | .str x,k=>x.length<=sizeLine/\k ((x.length:Int) != 0)
 | .tup ts,k=>k (!ts.isEmpty)
 | .cst ts,k=>k (!ts.isEmpty)
 | .lst _ ts,k=>k (!ts.isEmpty)
 | _,_=>False
def J4(f:PF):PB:=fun env k=>f env fun t env'=>F2 t fun b=>k b env'
theorem sH{α β:Type}{l:List α}{m:List β}(h:l.length=m.length):l.isEmpty=m.isEmpty:=by
 cases l <;> cases m <;> first | rfl | simp at h
theorem kJ(ha:GE X a fa)(he:∀ whole,RV a X.env whole=(do let v <-whole;SG a.pos;Qy [v] (Uv v)):=by intro _;rfl):GT X a (J4 fa):=by
 refine PT.imp (An ha he) ?_
 rintro σ H Q ⟨env,Fr,k,rs,q,c⟩
 refine⟨env,Fr,_,rs,q,fun t env' v H' q1 rs1=>?_⟩
 have fin:∀ b,k b env'->Q b H':=fun b kb=>c _ _ _ kb rs1.drop
 have sq:∀ ts b,items t=some ts->b=(!ts.isEmpty)->k b env'->∃ b,EC X.K v H' b/\Q b H':=fun ts b e eb kb=>by
  obtain⟨a,vs,rfl,hq,l,_⟩:=aF e rs1.head
  refine⟨b,?_,fin b kb⟩
  rw[sH l]at eb
  revert hq
  cases kM t with
  | true=>exact fun hq=>.inr (.inl ⟨vs,hq,eb⟩)
  | false=>exact fun hq=>.inl ⟨vs,hq,eb⟩
 cases t with
 | non=>rw[uU rs1.head];exact⟨_,rfl,fin _ q1⟩
 | bl b=>rw[lS rs1.head];exact⟨_,rfl,fin _ q1⟩
 | int i=>rw[aV rs1.head];exact⟨_,rfl,fin _ q1⟩
 | str x=>rw[iE rs1.head];exact⟨_,⟨q1.1,rfl⟩,fin _ q1.2⟩
 | tup ts=>exact sq _ _ rfl rfl q1
 | cst ts=>exact sq _ _ rfl rfl q1
 | lst o ts=>exact sq _ _ rfl rfl q1
 | _=>exact q1.elim
def Ed(ta tb:PB):PB:=fun env k=>ta env fun b env1=>cnd b (tb env1 k) (k false env1)
def J2(ta tb:PB):PB:=fun env k=>ta env fun b env1=>cnd b (k true env1) (tb env1 k)
def E4(ta:PB):PB:=fun env k=>ta env fun b env1=>k (!b) env1
variable{ta tb:PB}{rest:List N2}
theorem xB(ha:GT X a ta):GW X (.BoolOp .And [a] pos) ta:=Dw ha
theorem Fw(ha:GT X a ta):GW X (.BoolOp .Or [a] pos) ta:=uT ha
theorem AF(ha:GT X a ta)(hb:GW X (.BoolOp .And (b::rest) pos) tb):GW X (.BoolOp .And (a::b::rest) pos) (Ed ta tb):=by
 refine PW.imp (FZ ha hb) ?_
 rintro σ H Q ⟨env,Fr,k,rs,q,c⟩
 refine⟨env,Fr,_,rs,q,fun b env' H' q1 rs1=>ig ⟨fun e=>?_,fun e=>?_⟩⟩
 ·exact⟨env',Fr,k,rs1,q1.1 e,c⟩
 exact c _ _ _ (q1.2 e) rs1
theorem E3(ha:GT X a ta)(hb:GW X (.BoolOp .Or (b::rest) pos) tb):GW X (.BoolOp .Or (a::b::rest) pos) (J2 ta tb):=by
 refine PW.imp (Bs ha hb) ?_
 rintro σ H Q ⟨env,Fr,k,rs,q,c⟩
 refine⟨env,Fr,_,rs,q,fun b env' H' q1 rs1=>ig ⟨fun e=>?_,fun e=>?_⟩⟩
 ·exact c _ _ _ (q1.1 e) rs1
 exact⟨env',Fr,k,rs1,q1.2 e,c⟩
theorem En{f:PB}(h:GW X a f):GT X a f:=PW.pt h
theorem uH(ha:GT X a ta):GT X (.UnaryOp .Not a pos) (E4 ta):=by
 refine PT.imp (Gn ha) ?_
 rintro σ H Q ⟨env,Fr,k,rs,q,c⟩
 exact⟨env,Fr,_,rs,q,fun b env' H' q1 rs1=>c _ _ _ q1 rs1⟩
def IU(fa fb:PF):PF:=fun env k=>fa env fun t env1=>match t with
 | .bl b=>cnd b (fb env1 k) (k (.bl false) env1)
 | _=>False
def fOr(fa fb:PF):PF:=fun env k=>fa env fun t env1=>match t with
 | .bl b=>cnd b (k (.bl true) env1) (fb env1 k)
 | _=>False
theorem AL{op}(h:GE X a fa):GE X (.BoolOp op [a] pos) fa:=vb h
theorem vp(ha:GE X a fa)(hb:GE X (.BoolOp .And (b::rest) pos) fb):GE X (.BoolOp .And (a::b::rest) pos) (IU fa fb):=by
 refine PE.imp (qf ha hb) ?_
 rintro σ H Q ⟨env,Fr,k,rs,q,c⟩
 refine⟨env,Fr,_,rs,q,fun t env' v H' q1 rs1=>?_⟩
 cases t <;> first | exact q1.elim | skip
 rename_i bb
 refine⟨bb,lS rs1.head,ig ⟨fun e=>?_,fun e=>?_⟩⟩
 ·exact⟨env',Fr,k,rs1.drop,q1.1 e,c⟩
 exact c _ _ _ _ (q1.2 e) (iL rs1.drop fun _=>.bl)
theorem Bx(ha:GE X a fa)(hb:GE X (.BoolOp .Or (b::rest) pos) fb):GE X (.BoolOp .Or (a::b::rest) pos) (fOr fa fb):=by
 refine PE.imp (Ih ha hb) ?_
 rintro σ H Q ⟨env,Fr,k,rs,q,c⟩
 refine⟨env,Fr,_,rs,q,fun t env' v H' q1 rs1=>?_⟩
 cases t <;> first | exact q1.elim | skip
 rename_i bb
 refine⟨bb,lS rs1.head,ig ⟨fun e=>?_,fun e=>?_⟩⟩
 ·exact c _ _ _ _ (q1.1 e) (iL rs1.drop fun _=>.bl)
 exact⟨env',Fr,k,rs1.drop,q1.2 e,c⟩
def EW:PFs:=fun env k=>k [] env
def El(f:PF)(r:PFs):PFs:=fun env k=>f env fun t env1=>r env1 fun ts env2=>k (t::ts) env2
variable{es:List N2}{fr:PFs}
theorem ag:GA X [] EW:=PA.imp cu fun σ H Q ⟨env,Fr,k,rs,q,c⟩=>c [] env [] H q rfl rs
theorem ae(ha:GE X a fa)(hr:GA X es fr)(hs:N7 (a::es) X.env=(false,Og a X.env)::N7 es X.env:=by rfl):GA X (a::es) (El fa fr):=by
 refine PA.imp (aG ha hr hs) ?_
 rintro σ H Q ⟨env,Fr,k,rs,q,c⟩
 refine⟨env,Fr,_,rs,q,fun t env1 v H1 q1 rs1=>⟨env1,_,_,rs1,q1,fun ts env2 vs H2 q2 l rs2=>c _ _ _ _ q2 (by rw[j_,j_,l]) ?_⟩⟩
 exact rs2.perm gV
def Im(fr:PFs):PF:=fun env k=>fr env fun ts env1=>ts.length<=sizeLine/\k (.tup ts) env1
def Hd(fr:PFs):PF:=fun env k=>fr env fun ts env1=>ts.length<=sizeLine/\k (.lst true ts) env1
theorem aB{x1}(h:GA X es fr):GE X (.Tuple es x1 pos) (Im fr):=by
 refine PE.imp (Ds h) ?_
 rintro σ H Q ⟨env,Fr,k,rs,q,c⟩
 refine⟨env,Fr,_,rs,q,fun ts env1 vs H1 ⟨z,q1⟩ l rs1=>⟨by rw[<-l];exact z,fun p H2 hp g e=>c _ _ _ _ q1 ?_⟩⟩
 exact Rs.chg (Δ:=zz ts vs) (Δ':=[(.tup ts,some (.ref p))]) rs1 fun Γ r=>gB r l g e
theorem aT(h:GA X es fr):GE X (.List es pos) (Hd fr):=by
 refine PE.imp (BD h) ?_
 rintro σ H Q ⟨env,Fr,k,rs,q,c⟩
 refine⟨env,Fr,_,rs,q,fun ts env1 vs H1 ⟨z,q1⟩ l rs1=>⟨by rw[<-l];exact z,fun p H2 hp g e=>c _ _ _ _ q1 ?_⟩⟩
 exact Rs.chg (Δ:=zz ts vs) (Δ':=[(.lst true ts,some (.ref p))]) rs1 fun Γ r=>fO r l hp g e
end
open PySem PySem.Spec PyProof.Rows L2
mutual
def dt:T->Dt
 | .int i=>.int i
 | .bl b=>.bl b
 | .str x=>.str x
 | .tup ts=>.tup (dtL ts)
 | .cst ts=>.tup (dtL ts)
 | .lst _ ts=>.lst (dtL ts)
 | _=>.non
def dtL:List T->List Dt
 | []=>[]
 | t::r=>dt t::dtL r
end
mutual
def isD:T->Bool
 | .tup ts=>fR ts
 | .cst ts=>fR ts
 | .lst _ ts=>fR ts
 | .int _=>true
 | .bl _=>true
 | .str _=>true
 | .non=>true
 | _=>false
def fR:List T->Bool
 | []=>true
 | t::r=>isD t && fR r
end
theorem xD{α:Type}(g:α->T):∀ l:List α,dtL (l.map g)=l.map fun x=>dt (g x)
 | []=>rfl
 | x::r=>by rw[d_,dtL,xD g r,d_]
theorem ur(l:List T):dtL l=l.map dt:=by
 have:=xD (fun x=>x) l
 rw[List.map_id']at this
 exact this
section
variable{K:NM}
theorem vN{Hz H:Hp}(g:Gr Hz H):(∀ {t v L},RepT K Hz H t v L->isD t=true->Has K H (dt t) v)/\(∀ {t v L},RepTs K Hz H t v L->fR t=true->aO K H (dtL t) v)/\(∀ {t v L},RepKs K Hz H t v L->True)/\(∀ {t v L},RepXs K Hz H t v L->True):=
 j8 (P:=fun t v L=>isD t=true->Has K H (dt t) v) (Ps:=fun t v L=>fR t=true->aO K H (dtL t) v) (Pk:=fun t v L=>True) (Px:=fun t v L=>True)
  (fun n=>nomatch n) (fun n=>nomatch n) (fun _ _ n=>nomatch n) (fun _ n=>nomatch n) (fun _=>by show Has K H .non .non;rw[Has]) (fun _=>by rw[dt,Has]) (fun _=>by rw[dt,Has]) (fun _=>by rw[dt,Has]) (fun n=>nomatch n)
  (fun h c n=>by rw[dt,Has];exact⟨_,_,rfl,SqT.of h,c (by rw[isD]at n;exact n)⟩) (fun h c n=>by rw[dt,Has];exact⟨_,_,rfl,vT h H,c (by rw[isD]at n;exact n)⟩)
  (fun h c n=>by rw[dt,Has];exact⟨_,_,rfl,SqL.of h,c (by rw[isD]at n;exact n)⟩) (fun h c n=>by rw[dt,Has];exact⟨_,_,rfl,.inl (g _ _ h),c (by rw[isD]at n;exact n)⟩)
  (fun _ _ n=>nomatch n) (fun _ _ n=>nomatch n) (fun _ _ n=>nomatch n) (fun _ _ n=>nomatch n)
  (fun _=>by rw[dtL];exact kc) (fun i j n=>by
   rw[fR,F_]at n
   rw[dtL]
   exact lq (i n.1) (j n.2)) trivial (fun _ _=>trivial) trivial (fun _ _=>trivial)
theorem RepT.has {Hz H:Hp}(g:Gr Hz H){t:T}{v:V}{L:List NN}(n:isD t=true)(h:RepT K Hz H t v L):Has K H (dt t) v:=(vN g).1 h n
theorem RepTs.has {Hz H:Hp}(g:Gr Hz H){t:List T}{v:List V}{L:List NN}(n:fR t=true)(h:RepTs K Hz H t v L):aO K H (dtL t) v:=(vN g).2.1 h n
theorem Dv{t:T}(h:isD t=true):isAny t=false:=by cases t <;> first | rfl | cases h
theorem gD{H:Hp}{Γ:Fm}{t:T}{y:V}(h:Rp K H ((t,some y)::Γ))(n:isD t=true):Has K H (dt t) y:=by
 obtain⟨Hz,L,r,g⟩:=iP h (Dv n)
 exact r.has g n
theorem wX{H:Hp}{Γ:Fm}{ts:List T}{vs:List V}(h:Rp K H (zz ts vs++Γ))(l:ts.length=vs.length)(n:fR ts=true):aO K H (dtL ts) vs:=by
 obtain⟨Hz,N,h,nd,g,d⟩:=h
 obtain⟨L,M,_,h1,_⟩:=h.split
 exact(h1.uX l).has g n
end
noncomputable def EJ:P2
 | .int i,.int j,k=>k (.int (i + j))
 | .str x,.str y,k=>x.length + y.length<=sizeLine/\k (.str (x++y))
 | .lst _ ts,.lst _ us,k=>ts.length + us.length<=sizeLine/\k (.lst true (ts++us))
 | .tup ts,.tup us,k=>ts.length + us.length<=sizeLine/\k (.tup (ts++us))
 | _,_,_=>False
def IM:P2
 | .int i,.int j,k=>k (.int (i - j))
 | _,_,_=>False
def Hs:P2
 | .int i,.int j,k=>uw i j/\k (.int (i * j))
 | _,_,_=>False
def Hg:P2
 | .int i,.int j,k=>DJ i j/\k (.int (i / j))
 | _,_,_=>False
def HA:P2
 | .int i,.int j,k=>0 < j/\k (.int (i % j))
 | _,_,_=>False
def Ft(p:Int->Int->Bool):P2
 | .int i,.int j,k=>k (.bl (p i j))
 | _,_,_=>False
def ltT:P2:=Ft fun i j=>decide (i < j)
def leT:P2:=Ft fun i j=>decide (i<=j)
def gtT:P2:=Ft fun i j=>decide (j < i)
def isV:T->Bool
 | .any=>false
 | .hole _=>false
 | .bare=>false
 | .kp _=>false
 | _=>true
def lJ:T->Bool
 | .non=>true
 | _=>false
def IA:P2
 | t,.non,k=>isV t=true/\k (.bl (lJ t))
 | _,_,_=>False
def DY:P2
 | t,.non,k=>isV t=true/\k (.bl (!lJ t))
 | _,_,_=>False
def eqT:P2:=fun t u k=>isD t=true/\isD u=true/\dpt (dt t) < 190/\k (.bl (eqD (dt t) (dt u)))
def neT:P2:=fun t u k=>isD t=true/\isD u=true/\dpt (dt t) < 190/\k (.bl (!eqD (dt t) (dt u)))
section
variable{X:Cx}
theorem qv{f:NK->NK->Sem NK}{C:Int->Int->Prop}{r:Int->Int->T}{r':Int->Int->V}(h:OpR X f (rI C r'))(hr:∀ i j K Hz H,RepT K Hz H (r i j) (r' i j) []):OpP X f (fun t u k=>match t,u with | .int i,.int j=>C i j/\k (r i j) | _,_=>False):=by
 refine .of h ?_
 intro tx ty x y H Γ k Q rp g c
 cases tx <;> cases ty <;> first | exact g.elim | skip
 rename_i i j
 rw[aV rp,aV rp.tail]
 exact⟨i,j,rfl,rfl,g.1,c _ _ _ g.2 (cz rp.tail.tail fun Hz=>hr i j _ _ _)⟩
theorem jH{f:NK->NK->Sem NK}{r:Int->Int->T}{r':Int->Int->V}(h:OpR X f (rI0 r'))(hr:∀ i j K Hz H,RepT K Hz H (r i j) (r' i j) []):OpP X f (fun t u k=>match t,u with | .int i,.int j=>k (r i j) | _,_=>False):=by
 refine .of h ?_
 intro tx ty x y H Γ k Q rp g c
 cases tx <;> cases ty <;> first | exact g.elim | skip
 rename_i i j
 rw[aV rp,aV rp.tail]
 exact⟨i,j,rfl,rfl,c _ _ _ g (cz rp.tail.tail fun Hz=>hr i j _ _ _)⟩
theorem OpP.imp {f:NK->NK->Sem NK}{g g':P2}(h:OpP X f g)(k:∀ tx ty k,g' tx ty k->g tx ty k):OpP X f g':=OpR.imp h fun x y H Q ⟨tx,ty,Γ,kk,rp,gg,c⟩=>⟨tx,ty,Γ,kk,rp,k _ _ _ gg,c⟩
theorem Inv.IT {pins:List (NN × Obj)}{σ:L2.St}{H:Hp}{s:NO}{l:NN}{xs:List V}(I:Inv X pins σ H s)(hH:Rd H l (.lst xs)):xs.length<=sizeLine/\∃(its:List NK) (n:Nat),Vals xs its/\xs.length=its.length/\s.heap.get? l=some { cls:=.type "list",data:=.seq its.toArray n }:=by
 obtain⟨z,its,n,r,e⟩:=hH.ok I.hok
 exact⟨z,its,n,r,r.length,e⟩
theorem D6:OpR X (OM .Add) (fun x y H Q=>∃ l b xs zs,x=.ref l/\y=.ref b/\Rd H l (.lst xs)/\Rd H b (.lst zs)/\xs.length + zs.length<=sizeLine/\New (.lst (xs++zs)) H Q):=by
 intro pins s σ H x y v u Q I rx ry h
 obtain⟨l,b,xs,zs,rfl,rfl,hH,hB,hz,q⟩:=h
 cases rx
 cases ry
 obtain⟨z,its,n,r,hl,e⟩:=Inv.IT I hH
 obtain⟨z2,its2,n2,r2,hl2,e2⟩:=Inv.IT I hB
 refine PySem.P.add_list e e2 ?_ (by rw[m_,m_];lia)
 have ea:its.toArray++its2.toArray=(its++its2).toArray:=by simp
 rw[ea]
 exact⟨.ref _,_,I.Jj (t':=s.toks) (r.append r2) (by rw[h_];omega),rfl,q.at I.fresh⟩
theorem iV{K:NM}{H:Hp}{Γ:Fm}{o:Bool}{ts:List T}{y:V}(h:Rp K H ((.lst o ts,some y)::Γ)):∃ a vs,y=.ref a/\Rd H a (.lst vs)/\ts.length=vs.length/\Rp K H (zz ts vs++Γ):=by
 obtain⟨Hz,N,h,nd,g,d⟩:=h
 cases h with
 | cons e1 h c=>
  rcases h with⟨z,_⟩ | ⟨v,e2,h⟩
  ·cases z
  cases e2
  cases h
  ·rename_i a vs L h c1
   rw[e1,JR,JK]at nd
   exact⟨a,vs,rfl,.inl h,c1.len,Hz,_,c1.toL.app c,nd.2,g,fun b m=>d b (by rw[e1,JR];exact l_ _ m)⟩
  rename_i a vs h c1
  exact⟨a,vs,rfl,g _ _ h,c1.len,Hz,_,c1.toL.app c,by rw[<-e1];exact nd,g,fun b m=>d b (by rw[e1];exact m)⟩
theorem qI{K:NM}{H:Hp}{Γ:Fm}{ts:List T}{y:V}(h:Rp K H ((.tup ts,some y)::Γ)):∃ a vs,y=.ref a/\H a=some (.tup vs)/\ts.length=vs.length/\Rp K H (zz ts vs++Γ):=by
 obtain⟨Hz,N,h,nd,g,d⟩:=h
 cases h with
 | cons e1 h c=>
  rcases h with⟨z,_⟩ | ⟨v,e2,h⟩
  ·cases z
  cases e2
  cases h with
  | tup h c1=>exact⟨_,_,rfl,h,c1.len,Hz,_,c1.toL.app c,by rw[<-e1];exact nd,g,fun b m=>d b (by rw[e1];exact m)⟩
theorem jq{ts us:List T}{vs ws:List V}(l:ts.length=vs.length):zz (ts++us) (vs++ws)=zz ts vs++zz us ws:=by
 show(ts++us).zip ((vs++ws).map some)=_
 rw[r_,Ny (by rw[a_];exact l)]
theorem BV:OpR X (OM .Add) (fun x y H Q=>∃ a b ys,x=.ref a/\y=.ref b/\SqT X.K H a []/\SqT X.K H b ys/\Q (.ref b) H):=by
 intro pins s σ H x y v u Q I rx ry h
 obtain⟨a,b,ys,rfl,rfl,ha,hb,q⟩:=h
 cases rx
 cases ry
 obtain⟨its,r1,p1,_⟩:=I.tuple ha
 obtain⟨its2,r2,p2,_⟩:=I.tuple hb
 cases r1
 obtain⟨⟨cls,dd,data,sl⟩,ho,hc,n,hd⟩:=id p1
 obtain⟨⟨cls2,dd2,data2,sl2⟩,ho2,hc2,n2,hd2⟩:=id p2
 simp only at hc hd hc2 hd2
 subst hc hd hc2 hd2
 exact SD ⟨_,ho,rfl⟩ ⟨_,ho2,rfl⟩ Ru Sl Qo Qm (Qd _ _)
  (tuple_addW0 a b _ its2.toArray n n2 dd dd2 sl sl2 (by simp)) ⟨ho,ho2,⟨.ref b,H,I,rfl,q⟩⟩
theorem au:OpP X (OM .Add) EJ:=by
 rintro pins s σ H x y v u Q I rx ry ⟨tx,ty,Γ,k,rp,g,c⟩
 cases tx <;> cases ty <;> first | exact N4 g | skip
 ·rename_i i j
  rw[aV rp]at ry;rw[aV rp.tail]at rx
  exact mU pins s σ H _ _ v u Q I rx ry ⟨i,j,rfl,rfl,c _ _ _ g (cz rp.tail.tail fun _=>.int)⟩
 ·rename_i i j
  rw[iE rp]at ry;rw[iE rp.tail]at rx
  exact uo pins s σ H _ _ v u Q I rx ry ⟨i,j,rfl,rfl,g.1,c _ _ _ g.2 (cz rp.tail.tail fun _=>.str)⟩
 ·rename_i ts us
  obtain⟨b,ws,rfl,hb,lb,rp2⟩:=qI rp
  obtain⟨a,vs,rfl,ha,la,rp3⟩:=qI (rp2.perm gV)
  have lz:vs.length + ws.length<=sizeLine:=by rw[<-la,<-lb];exact g.1
  have rp4:Rp X.K H (zz (ts++us) (vs++ws)++Γ):=by
   rw[jq la,i_];exact rp3
  by_cases hx:vs=[]
  ·subst hx
   refine BV pins s σ H _ _ v u Q I rx ry ⟨a,b,ws,rfl,rfl,SqT.of ha,SqT.of hb,?_⟩
   refine c _ _ _ g.2 (gB rp4 (by rw[h_,h_,la,lb]) .d6 ?_)
   rw[LV];exact hb
  refine Dc pins s σ H _ _ v u Q I rx ry ⟨a,b,vs,ws,rfl,rfl,SqT.of ha,SqT.of hb,hx,lz,fun e=>?_,fun _ p hp=>c _ _ _ g.2 (gB rp4 (by rw[h_,h_,la,lb]) (cw hp _) aR)⟩
  refine c _ _ _ g.2 (gB rp4 (by rw[h_,h_,la,lb]) .d6 ?_)
  rw[e,JO];exact ha
 rename_i o ts o' us
 obtain⟨b,ws,rfl,hb,lb,rp2⟩:=iV rp
 obtain⟨a,vs,rfl,ha,la,rp3⟩:=iV (rp2.perm gV)
 have lz:vs.length + ws.length<=sizeLine:=by rw[<-la,<-lb];exact g.1
 have rp4:Rp X.K H (zz (ts++us) (vs++ws)++Γ):=by
  rw[jq la,i_];exact rp3
 exact D6 pins s σ H _ _ v u Q I rx ry ⟨a,b,vs,ws,rfl,rfl,ha,hb,lz,fun p H' hp g' e=>c _ _ _ g.2 (fO rp4 (by rw[h_,h_,la,lb]) hp g' e)⟩
theorem aS:OpP X (OM .Sub) IM:=(jH (r:=fun i j=>.int (i - j)) ER fun _ _ _ _ _=>.int).imp fun tx ty k g=>by cases tx <;> cases ty <;> exact g
theorem bA:OpP X (OM .Mult) Hs:=(qv (r:=fun i j=>.int (i * j)) jx fun _ _ _ _ _=>.int).imp fun tx ty k g=>by cases tx <;> cases ty <;> exact g
theorem iU:OpP X (OM .FloorDiv) Hg:=(qv (r:=fun i j=>.int (i / j)) x6 fun _ _ _ _ _=>.int).imp fun tx ty k g=>by cases tx <;> cases ty <;> exact g
theorem Df:OpP X (OM .Mod) HA:=(qv (r:=fun i j=>.int (i % j)) jl fun _ _ _ _ _=>.int).imp fun tx ty k g=>by cases tx <;> cases ty <;> exact g
theorem fS:OpP X (Ob .Lt) ltT:=(jH (r:=fun i j=>.bl (decide (i < j))) IB fun _ _ _ _ _=>.bl).imp fun tx ty k g=>by cases tx <;> cases ty <;> exact g
theorem Ay:OpP X (Ob .LtE) leT:=(jH (r:=fun i j=>.bl (decide (i<=j))) IW fun _ _ _ _ _=>.bl).imp fun tx ty k g=>by cases tx <;> cases ty <;> exact g
theorem uW:OpP X (Ob .Gt) gtT:=(jH (r:=fun i j=>.bl (decide (j < i))) IQ fun _ _ _ _ _=>.bl).imp fun tx ty k g=>by cases tx <;> cases ty <;> exact g
theorem Ef{k:Nat}{A:N_}(r:Room k A){n:Nat}(h:n < 190):A.units + n < cLine:=by have:=r.un;lia
theorem cJ{k:Nat}(hr:Room k X.A):OpP X (Ob .Eq) eqT:=.of AS fun tx ty x y H Γ k Q rp ⟨d1,d2,z,g⟩ c=>
 ⟨dt tx,dt ty,gD rp.tail d1,gD rp d2,Ef hr z,c _ _ _ g (cz rp.tail.tail fun _=>.bl)⟩
theorem qg{k:Nat}(hr:Room k X.A):OpP X (Ob .NotEq) neT:=.of EN fun tx ty x y H Γ k Q rp ⟨d1,d2,z,g⟩ c=>
 ⟨dt tx,dt ty,gD rp.tail d1,gD rp d2,Ef hr z,c _ _ _ g (cz rp.tail.tail fun _=>.bl)⟩
theorem wy{K:NM}{H:Hp}{Γ:Fm}{t:T}{x:V}(rp:Rp K H ((t,some x)::Γ))(n:isV t=true):decide (x=.non)=lJ t:=by
 obtain⟨Hz,L,r,g⟩:=iP rp (by cases t <;> first | rfl | cases n)
 cases r <;> first | rfl | cases n
theorem wm:OpP X (Ob .Is) IA:=.of EK fun tx ty x y H Γ k Q rp g c=>by
 cases ty <;> first | exact N4 g | skip
 refine⟨uU rp,?_⟩
 rw[wy rp.tail g.1]
 exact c _ _ _ g.2 (cz rp.tail.tail fun _=>.bl)
theorem Ao:OpP X (Ob .IsNot) DY:=.of C6 fun tx ty x y H Γ k Q rp g c=>by
 cases ty <;> first | exact N4 g | skip
 refine⟨uU rp,?_⟩
 rw[wy rp.tail g.1]
 exact c _ _ _ g.2 (cz rp.tail.tail fun _=>.bl)
end
open PySem PySem.Spec PyProof.Rows L2
def rS:T->Option Key
 | .int i=>some (.inl i)
 | .str x=>some (.inr x)
 | _=>none
def i9:List T->Option (List Key)
 | []=>some []
 | t::r=>match rS t,i9 r with
  | some k,some ks=>some (k::ks)
  | _,_=>none
section
variable{κ:Type}[DecidableEq κ]
def je(kvs:List (κ × T))(k:κ):Option T:=(kvs.find? fun kv=>decide (kv.1=k)).map (·.2)
noncomputable def kz(kvs:List (κ × T))(k:κ)(v:T):List (κ × T):=
 if(kvs.any fun kv=>decide (kv.1=k))=true then kvs.map (fun kv=>if kv.1=k then(kv.1,v)else kv)else kvs++[(k,v)]
theorem kO:∀ {ts:List (κ × T)} {vs:List (κ × V)} {q:κ} {u:T},ts.map (·.1)=vs.map (·.1)->je ts q=some u->∃(w:V) (i:Nat),fN vs q=some w/\(ts.map (·.2))[i]?=some u/\(vs.map (·.2))[i]?=some w
 | [],vs,q,u,e,h=>by cases h
 | (k,t)::ts,[],q,u,e,h=>by cases e
 | (k,t)::ts,(k',v)::vs,q,u,e,h=>by
  rw[d_,d_,Kg]at e
  have e0:k=k':=e.1
  subst e0
  unfold je at h
  rw[JP]at h
  unfold fN
  rw[JP]
  by_cases hk:k=q
  ·have hk':decide (k=q)=true:=decide_eq_true hk
   rw[show decide ((k,t).1=q)=true from hk']at h
   rw[show decide ((k,v).1=q)=true from hk']
   cases h
   exact⟨v,0,rfl,rfl,rfl⟩
  have hk':decide (k=q)=false:=decide_eq_false hk
  rw[show decide ((k,t).1=q)=false from hk']at h
  rw[show decide ((k,v).1=q)=false from hk']
  obtain⟨w,i,h1,h2,h3⟩:=kO (ts:=ts) (vs:=vs) e.2 h
  exact⟨w,i + 1,h1,by simpa using h2,by simpa using h3⟩
theorem lh:∀ {ts:List (κ × T)} {vs:List (κ × V)} (q:κ),ts.map (·.1)=vs.map (·.1)->(je ts q).isSome=(fN vs q).isSome
 | [],[],q,e=>rfl
 | [],_::_,q,e=>by cases e
 | (k,t)::ts,[],q,e=>by cases e
 | (k,t)::ts,(k',v)::vs,q,e=>by
  rw[d_,d_,Kg]at e
  have e0:k=k':=e.1
  subst e0
  have ih:=lh (ts:=ts) (vs:=vs) q e.2
  unfold je fN at ih ⊢
  rw[JP,JP]
  by_cases hk:k=q
  ·have hk':decide (k=q)=true:=decide_eq_true hk
   rw[show decide ((k,t).1=q)=true from hk']
   rfl
  have hk':decide (k=q)=false:=decide_eq_false hk
  rw[show decide ((k,t).1=q)=false from hk']
  exact ih
end
section
variable{K:NM}{H:Hp}{Γ:Fm}
theorem qF{o:Bool}{ts:List (Key × T)}{y:V}(h:Rp K H ((.dK o ts,some y)::Γ)):∃ a vs,y=.ref a/\Rd H a (.dK vs)/\ts.map (·.1)=vs.map (·.1)/\Rp K H (zz (ts.map (·.2)) (vs.map (·.2))++Γ):=by
 obtain⟨Hz,N,h,nd,g,d⟩:=h
 cases h with
 | cons e1 h c=>
  rcases h with⟨z,_⟩ | ⟨v,e2,h⟩
  ·cases z
  cases e2
  cases h
  ·rename_i a vs L h c1
   obtain⟨ek,c2⟩:=c1.toL
   rw[e1,JR,JK]at nd
   exact⟨a,vs,rfl,.inl h,ek,Hz,_,c2.toL.app c,nd.2,g,fun b m=>d b (by rw[e1,JR];exact l_ _ m)⟩
  rename_i a vs h c1
  obtain⟨ek,c2⟩:=c1.toL
  exact⟨a,vs,rfl,g _ _ h,ek,Hz,_,c2.toL.app c,by rw[<-e1];exact nd,g,fun b m=>d b (by rw[e1];exact m)⟩
theorem hV{o:Bool}{ts:List (List Key × T)}{y:V}(h:Rp K H ((.dT o ts,some y)::Γ)):∃ a vs,y=.ref a/\Rd H a (.dT vs)/\ts.map (·.1)=vs.map (·.1)/\Rp K H (zz (ts.map (·.2)) (vs.map (·.2))++Γ):=by
 obtain⟨Hz,N,h,nd,g,d⟩:=h
 cases h with
 | cons e1 h c=>
  rcases h with⟨z,_⟩ | ⟨v,e2,h⟩
  ·cases z
  cases e2
  cases h
  ·rename_i a vs L h c1
   obtain⟨ek,c2⟩:=c1.toL
   rw[e1,JR,JK]at nd
   exact⟨a,vs,rfl,.inl h,ek,Hz,_,c2.toL.app c,nd.2,g,fun b m=>d b (by rw[e1,JR];exact l_ _ m)⟩
  rename_i a vs h c1
  obtain⟨ek,c2⟩:=c1.toL
  exact⟨a,vs,rfl,g _ _ h,ek,Hz,_,c2.toL.app c,by rw[<-e1];exact nd,g,fun b m=>d b (by rw[e1];exact m)⟩
theorem qA{t:T}{k:Key}{y:V}(e:rS t=some k)(h:Rp K H ((t,some y)::Γ)):y=kV k:=by
 cases t <;> cases e
 ·rw[aV h];rfl
 rw[iE h];rfl
theorem zr{Hz:Hp}{t:T}{k:Key}{v:V}{L:List NN}(e:rS t=some k)(h:RepT K Hz H t v L):v=kV k:=by
 cases t <;> cases e
 ·cases h;rfl
 cases h;rfl
theorem oF{Hz:Hp}:∀ {ts:List T} {ks:List Key} {vs:List V} {L:List NN},i9 ts=some ks->RepTs K Hz H ts vs L->vs=ks.map kV
 | [],ks,_,_,e,r=>by cases r;cases e;rfl
 | t::ts,ks,_,_,e,r=>by
  cases r with
  | cons _ h c=>
   rw[i9]at e
   split at e
   ·rename_i k r e1 e2
    cases e
    rw[zr e1 h,oF e2 c]
    rfl
   cases e
theorem jG{ts:List T}{ks:List Key}{y:V}(e:i9 ts=some ks)(h:Rp K H ((.tup ts,some y)::Γ)):∃ b,y=.ref b/\H b=some (.tup (ks.map kV)):=by
 obtain⟨Hz,L,r,g⟩:=iP h rfl
 cases r with
 | tup h1 c1=>exact⟨_,rfl,by rw[h1,oF e c1]⟩
end
noncomputable def ixT:P2
 | .tup ts,.int i,k=>got (atI ts i) k
 | .cst ts,.int i,k=>got (atI ts i) k
 | .lst _ ts,.int i,k=>got (atI ts i) k
 | .str x,.int i,k=>x.length<=sizeLine/\got (atI x.cps.toList i) fun c=>k (.str ⟨#[c]⟩)
 | .dK _ kvs,y,k=>got (rS y) fun q=>got (je kvs q) k
 | .dT _ kvs,.tup ts,k=>got (i9 ts) fun q=>got (je kvs q) k
 | _,_,_=>False
section
variable{X:Cx}
theorem vI(hu:X.A.units + 1 < cLine):IxR X (fun x y H Q=>∃ a v,x=.ref a/\kF H a y (some v)/\Q v H):=by
 intro value slice pins s σ H x y v u Q I rx ry h hs
 obtain⟨a,z,rfl,g,q⟩:=h
 cases rx
 have hT:=lP I g
 unfold Pu
 refine NL ?_
 rw[RZ hT.not_modules]
 refine NL (Tj hT Rn.lookup ?_)
 have fin:NT (N1 X.prog X.w) X.A (Q0 slice false (.ref a) u) (fun r s₃=>NT (N1 X.prog X.w) X.A (TL value (.ref a) r >>= fun _=>pure r) (EP X pins σ Q) X.xe s₃) X.xe s:=by
  rw[hs]
  refine Tn (pC hu I g ry fun w' s' I' r'=>NL (Sd (NP ⟨z,H,I',r',q⟩)))
 first
  | exact NP (NL fin)
  | exact NL (NP (NL fin))
  | exact NL fin
theorem Jp{kr:Nat}(hr:Room kr X.A):IxR X (w2 X.K ixT):=by
 rintro value slice pins s σ H x y v u Q I rx ry ⟨tx,ty,Γ,k,rp,g,c⟩ hs
 have sq:∀ ts i,items tx=some ts->ty=.int i->got (atI ts i) k->NT (N1 X.prog X.w) X.A (Pu value slice v u) (EP X pins σ Q) X.xe s:=fun ts i e1 e2 g=>by
  obtain⟨t,et,kt⟩:=aI g
  subst e2
  rw[aV rp]at ry
  obtain⟨a,vs,rfl,hq,l,rp2⟩:=aF e1 rp.tail
  obtain⟨w,ew,rp3⟩:=AG l et rp2
  exact Jr value slice pins s σ H _ _ v u Q I rx ry ⟨_,a,vs,i,w,rfl,rfl,hq,ew,c _ _ _ kt rp3⟩ hs
 cases tx with
 | tup ts=>cases ty <;> first | exact N4 g | exact sq _ _ rfl rfl g
 | cst ts=>cases ty <;> first | exact N4 g | exact sq _ _ rfl rfl g
 | lst o ts=>cases ty <;> first | exact N4 g | exact sq _ _ rfl rfl g
 | str z=>
  cases ty <;> first | exact N4 g | skip
  rename_i i
  obtain⟨hz,g⟩:=g
  obtain⟨t,et,kt⟩:=aI g
  rw[aV rp]at ry
  rw[iE rp.tail]at rx
  exact yT value slice pins s σ H _ _ v u Q I rx ry ⟨z,i,t,rfl,rfl,hz,et,c _ _ _ kt (cz rp.tail.tail fun _=>.str)⟩ hs
 | dK o kvs=>
  have g:got (rS ty) fun q=>got (je kvs q) k:=by cases ty <;> exact g
  obtain⟨q,eq,g⟩:=aI g
  obtain⟨t,et,kt⟩:=aI g
  rw[qA eq rp]at ry
  obtain⟨a,vs,rfl,hq,ek,rp2⟩:=qF rp.tail
  obtain⟨w,i,ew,e1,e2⟩:=kO ek et
  exact vI (iF hr) value slice pins s σ H _ _ v u Q I rx ry ⟨a,w,rfl,.inl ⟨vs,q,hq,rfl,ew.symm⟩,c _ _ _ kt (hJ rp2 e1 e2)⟩ hs
 | dT o kvs=>
  cases ty <;> first | exact N4 g | skip
  rename_i ts
  obtain⟨q,eq,g⟩:=aI g
  obtain⟨t,et,kt⟩:=aI g
  obtain⟨b,rfl,hb⟩:=jG eq rp
  obtain⟨a,vs,rfl,hq,ek,rp2⟩:=hV rp.tail
  obtain⟨w,i,ew,e1,e2⟩:=kO ek et
  exact vI (iF hr) value slice pins s σ H _ _ v u Q I rx ry ⟨a,w,rfl,.inr ⟨vs,q,b,hq,rfl,hb,ew.symm⟩,c _ _ _ kt (hJ rp2 e1 e2)⟩ hs
 | _=>cases ty <;> exact N4 g
theorem az{kr:Nat}{a b:N2}{fa fb:PF}{pos:Pos}(hr:Room kr X.A)(ha:GE X a fa)(hb:GE X b fb)(hs:xi b:=by intro _ _;rfl):GE X (.Subscript a b pos) (yN ixT fa fb):=PE.imp (Ea (Jp hr) ha hb hs) wb
def AW(x:T)(ts:List T):Bool:=ts.any fun e=>eqD (dt e) (dt x)
noncomputable def inT:P2:=fun x y k=>match y with
 | .dK _ kvs=>got (rS x) fun q=>k (.bl (je kvs q).isSome)
 | .dT _ kvs=>match x with
  | .tup ts=>got (i9 ts) fun q=>k (.bl (je kvs q).isSome)
  | _=>False
 | .str b=>match x with
  | .str a=>k (.bl (!(RC b a 0 b.length 1).isEmpty))
  | _=>False
 | y=>got (items y) fun ts=>isD x=true/\fR ts=true/\cN (dtL ts) < 180/\k (.bl (AW x ts))
def Fe:P2:=fun x y k=>inT x y fun t=>match t with
 | .bl b=>k (.bl (!b))
 | _=>False
theorem yB:OpR X (Ob .NotIn) (fun x y H Q=>∃ p xs d ds,y=.ref p/\SqT X.K H p xs/\Has X.K H d x/\aO X.K H ds xs/\X.A.in1.units + cN ds < cLine/\Q (.bl (!ds.any fun e=>eqD e d)) H):=by
 intro pins s σ H x y v u Q I rx ry h
 obtain⟨p,xs,d,ds,rfl,hq,hd,hl,hA,q⟩:=h
 cases ry
 obtain⟨its,r,pl,hz⟩:=I.tuple hq
 obtain⟨e,e1,_,e3⟩:=uQ I (A:=X.A.in1) hA hd rx (c_ _) hl r
 refine SeqAt.notIn_tupleAt e pl (fun w hw=>e1 w (by simpa using hw)) ⟨.bl _,H,I,rfl,?_⟩
 rw[show its.toArray.any e=its.any e by simp,e3]
 exact q
theorem CL(x:T)(ts:List T):AW x ts=(dtL ts).any fun e=>eqD e (dt x):=by
 unfold AW
 rw[ur,M4]
 rfl
theorem wM{kr:Nat}(hr:Room kr X.A):OpP X (Ob .NotIn) Fe:=by
 rintro pins s σ H x y v u Q I rx ry ⟨tx,ty,Γ,k,rp,g,c⟩
 unfold Fe at g
 have sq:(got (items ty) fun ts=>isD tx=true/\fR ts=true/\cN (dtL ts) < 180/\k (.bl (!AW tx ts)))->NT (N1 X.prog X.w) X.A (Ob .NotIn v u) (EP X pins σ Q) X.xe s:=fun g=>by
  obtain⟨ts,e,d1,d2,z,kt⟩:=aI g
  obtain⟨a,vs,rfl,hq,l,rp2⟩:=aF e rp
  have fin:=c _ _ _ kt (cz (H:=H) (v:=.bl (!AW tx ts)) rp.tail.tail fun _=>.bl)
  rw[CL]at fin
  have hA:X.A.in1.units + cN (dtL ts) < cLine:=by have:=hr.un;show X.A.units + 1 + _ < _;omega
  revert hq
  cases kM ty with
  | true=>exact fun hq=>yB pins s σ H _ _ v u Q I rx ry ⟨a,vs,_,_,rfl,hq,gD rp.tail d1,wX rp2 l d2,hA,fin⟩
  | false=>exact fun hq=>yy pins s σ H _ _ v u Q I rx ry ⟨a,vs,_,_,rfl,hq,gD rp.tail d1,wX rp2 l d2,hA,fin⟩
 cases ty with
 | tup ts=>exact sq g
 | cst ts=>exact sq g
 | lst o ts=>exact sq g
 | str b=>
  cases tx <;> first | exact N4 g | skip
  rename_i a
  rw[iE rp]at ry
  rw[iE rp.tail]at rx
  exact pX pins s σ H _ _ v u Q I rx ry ⟨a,b,rfl,rfl,c _ _ _ g (cz rp.tail.tail fun _=>.bl)⟩
 | dK o kvs=>
  obtain⟨q,eq,g⟩:=aI g
  rw[qA eq rp.tail]at rx
  obtain⟨a,vs,rfl,hq,ek,rp2⟩:=qF rp
  cases ry
  rw[lh q ek]at g
  exact xf (iF hr) I (.inl ⟨vs,q,hq,rfl,rfl⟩) rx fun s' I'=>⟨.bl _,H,I',rfl,c _ _ _ g (cz rp.tail.tail fun _=>.bl)⟩
 | dT o kvs=>
  cases tx <;> first | exact N4 g | skip
  rename_i ts
  obtain⟨q,eq,g⟩:=aI g
  obtain⟨b,rfl,hb⟩:=jG eq rp.tail
  obtain⟨a,vs,rfl,hq,ek,rp2⟩:=hV rp
  cases ry
  rw[lh q ek]at g
  exact xf (iF hr) I (.inr ⟨vs,q,b,hq,rfl,hb,rfl⟩) rx fun s' I'=>⟨.bl _,H,I',rfl,c _ _ _ g (cz rp.tail.tail fun _=>.bl)⟩
 | _=>exact N4 g
def fUn(g:T->(T->Prop)->Prop)(fa:PF):PF:=fun env k=>fa env fun t env1=>g t fun u=>k u env1
def Hj:T->(T->Prop)->Prop
 | .int i,k=>k (.int (-i))
 | _,_=>False
theorem hZ{a:N2}{fa:PF}{pos:Pos}(ha:GE X a fa):GE X (.UnaryOp .USub a pos) (fUn Hj fa):=by
 refine PE.imp (Ip ET ha) ?_
 rintro σ H Q ⟨env,Fr,k,rs,q,c⟩
 refine⟨env,Fr,_,rs,q,fun t env1 v H1 q1 rs1=>?_⟩
 cases t <;> first | exact N4 q1 | skip
 rename_i i
 exact⟨i,aV rs1.head,c _ _ _ _ q1 (iL rs1.drop fun _=>.int)⟩
end
open PySem PySem.Spec PyProof.Rows L2
abbrev P1s:=List T->(T->Prop)->Prop
noncomputable def w1s(K:NM)(g:P1s):List V->Hp->VK->Prop:=fun xs H Q=>∃ ts Γ k,ts.length=xs.length/\Rp K H (zz ts xs++Γ)/\g ts k/\∀ t v H',k t->Rp K H' ((t,some v)::Γ)->Q v H'
def gu(X:Cx)(f:NK)(g:P1s):Prop:=bG X f (w1s X.K g)
def fCl(g:P1s)(fr:PFs):PF:=fun env k=>fr env fun ts env1=>g ts fun t=>k t env1
section
variable{X:Cx}{e:N2}{es:List N2}{fr:PFs}{pos p:Pos}{x:Str}{g:P1s}
theorem Ei:∀ σ H Q,wE X.K (fCl g fr) σ H Q->tCB (w1s X.K g) (wA X.K fr) σ H Q:=by
 rintro σ H Q ⟨env,Fr,k,rs,q,c⟩
 refine⟨env,Fr,_,rs,q,fun ts env1 vs H1 q1 l rs1=>?_⟩
 refine⟨ts,env1.zip σ++Fr,_,l,?_,q1,fun t v H' kt rp=>c _ _ _ _ kt (.of rs1.1 rp)⟩
 refine rs1.2.perm ?_
 rw[<-i_,<-i_]
 exact JX.append_right _
theorem aK{id:String}(hc:gu X (.builtin id) g)(hg:Gl X x)(hm:X.mg x=none)(hv:Pl x=some (.builtin id))(ha:GA X (e::es) fr)(hn:x≠"__name__":=by decide)(hdb:(x ==("__debug__":Str))=false:=by decide)
  (he:N7 (e::es) X.env=(false,Og e X.env)::N7 es X.env:=by rfl) (hpl:(O_ pos (N7 es X.env)).any (·.1)=false:=by rfl):GE X (.Call (.Name x p) (e::es) [] pos) (fCl g fr):=PE.imp (bE hc hg hm hv ha hn hdb he hpl) Ei
theorem aP{id:String}(hc:gu X (.type id) g)(hg:Gl X x)(hm:X.mg x=none)(hv:Pl x=some (.type id))(ha:GA X (e::es) fr)(hn:x≠"__name__":=by decide)(hdb:(x ==("__debug__":Str))=false:=by decide)
  (he:N7 (e::es) X.env=(false,Og e X.env)::N7 es X.env:=by rfl) (hpl:(O_ pos (N7 es X.env)).any (·.1)=false:=by rfl):GE X (.Call (.Name x p) (e::es) [] pos) (fCl g fr):=PE.imp (oN hc hg hm hv ha hn hdb he hpl) Ei
end
section
variable{X:Cx}
theorem zz1{ts:List T}{xs:List V}{t:T}(l:ts.length=xs.length)(e:ts=[t]):∃ x,xs=[x]:=by
 subst e
 rcases xs with _ | ⟨x,_ | ⟨y,xs⟩⟩
 ·cases l
 ·exact⟨x,rfl⟩
 cases l
theorem zz2{ts:List T}{xs:List V}{t u:T}(l:ts.length=xs.length)(e:ts=[t,u]):∃ x y,xs=[x,y]:=by
 subst e
 rcases xs with _ | ⟨x,xs⟩
 ·cases l
 obtain⟨y,rfl⟩:=zz1 (ts:=[u]) (Ku l) rfl
 exact⟨x,y,rfl⟩
theorem zz3{ts:List T}{xs:List V}{t u w:T}(l:ts.length=xs.length)(e:ts=[t,u,w]):∃ x y z,xs=[x,y,z]:=by
 subst e
 rcases xs with _ | ⟨x,xs⟩
 ·cases l
 obtain⟨y,z,rfl⟩:=zz2 (ts:=[u,w]) (Ku l) rfl
 exact⟨x,y,z,rfl⟩
theorem ud{prog:NW}{w:N3}(d:NN)(nd:(d == Ol)=false) :
  Vg prog w (OY.«dict.__len__» ⟨[.ref d],[]⟩) (fun _ R s=>∃ o es ep,s.heap.get? d=some o/\o.data=.dict es ep/\R (.ok (.ret (.int es.size s.toks))) { s with toks:=s.toks + 1 }):=
 .of_wp fun A R s ⟨o,es,ep,ho,hdat,q⟩=>by
  show NT _ _ (dictSize d >>= _) _ _ s
  unfold dictSize
  refine NL (NL (OE ho hdat (NP ?_)))
  show NT _ _ (Uu d >>= _) _ _ s
  exact NL (wpAny_pendingCount_other nd (wpAny_ret_mkInt (by rw[Mt];exact q)))
theorem Dq{prog:NW}{w:N3}{A:N_}{E:NK->NO->Prop}{s:NO}{d:NN}{o:Obj}{es:Array O4}{ep:Nat}{Q:NK->NO->Prop}(nd:(d == Ol)=false)(ho:s.heap.get? d=some o)(hc:o.ExactDict)(hdat:o.data=.dict es ep)
  (fit:(es.size:Int) < 2 ^ 63) (q:∀ t tk,Q (.int es.size t) { s with toks:=tk }):NT (N1 prog w) A (call (.builtin "len") [.ref d]) Q E s:=by
 have ty:s.TypeIs (.ref d) "dict":=⟨_,ho,hc.1⟩
 refine P8 kind_len plain_len entry_len (args_len1 _) ?_
 unfold OY.«len»
 refine NL (m:=oneArg "len" _) (NP ?_)
 refine NL (m:=callSpecial? (.ref d) (Pb "__len__")) (Ox (name:=Pb "__len__") ty R4
  (SF R4 ty PySem.F.entry_dict_len (PySem.F.args_dict_len_1 _) (ud d nd) ⟨o,es,ep,ho,hdat,?_⟩))
 show NT _ _ _ _ _ { s with toks:=s.toks + 1 }
 refine NL (Oj (NP (NL (Qq ?_))))
 show NT _ _ (if((es.size:Nat):Int) < 0 then _ else _) _ _ _
 rw[if_neg (by lia)]
 show NT _ _ (if((es.size:Nat):Int)>=2 ^ 63 then _ else _) _ _ _
 rw[if_neg (by lia)]
 exact NL (wpAny_mkInt (NP ⟨_,rfl,q _ _⟩))
theorem F5{pins:List (NN × Obj)}{σ:L2.St}{H:Hp}{s:NO}{a:NN}{kvs:List (List Key × V)}{Q:NK->NO->Prop}{E:NK->NO->Prop}(I:Inv X pins σ H s)(e:Rd H a (.dT kvs))(q:∀ t s',Inv X pins σ H s'->Q (.int kvs.length t) s'):NT (N1 X.prog X.w) X.A (call (.builtin "len") [.ref a]) Q E s:=by
 obtain⟨z,hd,xs,rel,o,es,ep,h1,h2,h3,h4,_⟩:=oE I.hok e
 have hs:es.size=kvs.length:=by
  have:=congrArg L7 h4
  rw[a_]at this
  rw[<-g_,this]
  exact(OF rel).symm
 refine Dq hd h1 h2 h3 (by rw[sizeLine_eq]at z;lia) fun t tk=>?_
 rw[hs]
 exact q _ _ (I.tok _)
def FV:P1s
 | [t],k=>match t with
  | .str x=>x.length<=sizeLine/\k (.int x.length)
  | .dK _ kvs=>k (.int kvs.length)
  | .dT _ kvs=>k (.int kvs.length)
  | t=>got (items t) fun ts=>k (.int ts.length)
 | _,_=>False
theorem iZ:gu X (.builtin "len") FV:=by
 rintro pins s σ H xs us Q I r ⟨ts,Γ,k,l,rp,g,c⟩
 match ts,l,g with
 | [t],l,g=>
  obtain⟨x,rfl⟩:=zz1 l rfl
  have rp:Rp X.K H ((t,some x)::Γ):=rp
  have sq:(got (items t) fun ts=>k (.int ts.length))->NT (N1 X.prog X.w) X.A (call (.builtin "len") us) (EP X pins σ Q) X.xe s:=fun g=>by
   obtain⟨us',e,kt⟩:=aI g
   obtain⟨a,vs,rfl,hq,l2,rp2⟩:=aF e rp
   rw[l2]at kt
   exact yo pins s σ H _ us Q I r ⟨_,a,vs,rfl,hq,c _ _ _ kt (cz rp.tail fun _=>.int)⟩
  cases t with
  | str z=>
   rw[iE rp]at r
   exact pN pins s σ H _ us Q I r ⟨z,rfl,g.1,c _ _ _ g.2 (cz rp.tail fun _=>.int)⟩
  | dK o kvs=>
   obtain⟨a,vs,rfl,hq,ek,rp2⟩:=qF rp
   obtain⟨u,rfl,ru⟩:=vals1 r
   cases ru
   have g:k (.int kvs.length):=g
   rw[d8 ek]at g
   exact HB I hq fun t s' I'=>⟨.int vs.length,H,I',⟨t,rfl⟩,c _ _ _ g (cz rp.tail fun _=>.int)⟩
  | dT o kvs=>
   obtain⟨a,vs,rfl,hq,ek,rp2⟩:=hV rp
   obtain⟨u,rfl,ru⟩:=vals1 r
   cases ru
   have g:k (.int kvs.length):=g
   rw[d8 ek]at g
   exact F5 I hq fun t s' I'=>⟨.int vs.length,H,I',⟨t,rfl⟩,c _ _ _ g (cz rp.tail fun _=>.int)⟩
  | _=>exact sq g
 | [],_,g=>exact N4 g
 | _::_::_,_,g=>exact N4 g
def HH:P1s
 | [.int i],k=>k (.int i.natAbs)
 | _,_=>False
theorem kG:gu X (.builtin "abs") HH:=by
 rintro pins s σ H xs us Q I r ⟨ts,Γ,k,l,rp,g,c⟩
 match ts,l,g with
 | [.int i],l,g=>
  obtain⟨x,rfl⟩:=zz1 l rfl
  have rp:Rp X.K H ((.int i,some x)::Γ):=rp
  rw[aV rp]at r
  refine A2 pins s σ H _ us Q I r ⟨i,rfl,?_⟩
  have e:(if i < 0 then -i else i)=(i.natAbs:Int):=by split <;> lia
  rw[e]
  exact c _ _ _ g (cz rp.tail fun _=>.int)
def intsOf:List T->Option (List Int)
 | []=>some []
 | .int i::r=>match intsOf r with
  | some ns=>some (i::ns)
  | none=>none
 | _::_=>none
theorem uZ(ns:List Int):intsOf (ns.map T.int)=some ns:=by
 induction ns with
 | nil=>rfl
 | cons n r ih=>rw[d_,intsOf,ih]
theorem gL:∀ {ts:List T} {ns:List Int},intsOf ts=some ns->ts=ns.map T.int
 | [],ns,e=>by cases e;rfl
 | t::ts,ns,e=>by
  cases t <;> first | cases e | skip
  rename_i i
  rw[intsOf]at e
  split at e
  ·rename_i ms em
   cases e
   rw[d_,gL em]
  cases e
theorem gv{K:NM}{H:Hp}{Γ:Fm}:∀ {ns:List Int} {vs:List V},(ns.map T.int).length=vs.length->Rp K H (zz (ns.map T.int) vs++Γ)->vs=ns.map V.int
 | [],[],_,_=>rfl
 | [],_::_,l,_=>by simp at l
 | _::_,[],l,_=>by simp at l
 | n::ns,v::vs,l,h=>by
  have h:Rp K H ((.int n,some v)::(zz (ns.map T.int) vs++Γ)):=h
  rw[aV h,gv (by simpa using l) h.tail]
  rfl
def zq:P1s
 | [.int i,.int j],k=>k (.int (max i j))
 | [.int i,.int j,.int l],k=>k (.int (max (max i j) l))
 | [t],k=>got (items t) fun ts=>got (intsOf ts) fun ns=>ns≠[]/\∀ r,fT ns r->k (.int r)
 | _,_=>False
def A5:P1s
 | [.int i,.int j],k=>k (.int (min i j))
 | [.int i,.int j,.int l],k=>k (.int (min (min i j) l))
 | [t],k=>got (items t) fun ts=>got (intsOf ts) fun ns=>ns≠[]/\∀ r,fU ns r->k (.int r)
 | _,_=>False
theorem g9(hc:X.calm=true):gu X (.builtin "max") zq:=by
 rintro pins s σ H xs us Q I r ⟨ts,Γ,k,l,rp,g,c⟩
 unfold zq at g
 split at g
 ·rename_i k i j
  obtain⟨x,y,rfl⟩:=zz2 l rfl
  have rp:Rp X.K H ((.int i,some x)::(.int j,some y)::Γ):=rp
  rw[aV rp,aV rp.tail]at r
  refine xO hc pins s σ H _ us Q I r ⟨i,j,rfl,?_⟩
  have e:(if j > i then j else i)=max i j:=by split <;> lia
  rw[e]
  exact c _ _ _ g (cz rp.tail.tail fun _=>.int)
 ·rename_i k i j m
  obtain⟨x,y,z,rfl⟩:=zz3 l rfl
  have rp:Rp X.K H ((.int i,some x)::(.int j,some y)::(.int m,some z)::Γ):=rp
  rw[aV rp,aV rp.tail,aV rp.tail.tail]at r
  refine y3 hc pins s σ H _ us Q I r ⟨i,j,m,rfl,fun w h1 h2 h3 h4=>?_⟩
  have e:w=max (max i j) m:=by lia
  rw[e]
  exact c _ _ _ g (cz rp.tail.tail.tail fun _=>.int)
 ·rename_i k t
  obtain⟨x,rfl⟩:=zz1 l rfl
  have rp:Rp X.K H ((t,some x)::Γ):=rp
  obtain⟨us',e,g⟩:=aI g
  obtain⟨ns,en,ne,kt⟩:=aI g
  have:=gL en
  subst this
  obtain⟨a,vs,rfl,hq,l2,rp2⟩:=aF e rp
  have:=gv l2 rp2
  subst this
  revert hq
  cases kM t with
  | true=>exact fun hq=>xG hc pins s σ H _ us Q I r ⟨a,ns,rfl,hq,ne,fun w hw=>c _ _ _ (kt w hw) (cz rp.tail fun _=>.int)⟩
  | false=>exact fun hq=>xZ hc pins s σ H _ us Q I r ⟨a,ns,rfl,hq,ne,fun w hw=>c _ _ _ (kt w hw) (cz rp.tail fun _=>.int)⟩
 exact N4 g
theorem fx(hc:X.calm=true):gu X (.builtin "min") A5:=by
 rintro pins s σ H xs us Q I r ⟨ts,Γ,k,l,rp,g,c⟩
 unfold A5 at g
 split at g
 ·rename_i k i j
  obtain⟨x,y,rfl⟩:=zz2 l rfl
  have rp:Rp X.K H ((.int i,some x)::(.int j,some y)::Γ):=rp
  rw[aV rp,aV rp.tail]at r
  refine ye hc pins s σ H _ us Q I r ⟨i,j,rfl,?_⟩
  have e:(if j < i then j else i)=min i j:=by split <;> lia
  rw[e]
  exact c _ _ _ g (cz rp.tail.tail fun _=>.int)
 ·rename_i k i j m
  obtain⟨x,y,z,rfl⟩:=zz3 l rfl
  have rp:Rp X.K H ((.int i,some x)::(.int j,some y)::(.int m,some z)::Γ):=rp
  rw[aV rp,aV rp.tail,aV rp.tail.tail]at r
  refine y9 hc pins s σ H _ us Q I r ⟨i,j,m,rfl,fun w h1 h2 h3 h4=>?_⟩
  have e:w=min (min i j) m:=by lia
  rw[e]
  exact c _ _ _ g (cz rp.tail.tail.tail fun _=>.int)
 ·rename_i k t
  obtain⟨x,rfl⟩:=zz1 l rfl
  have rp:Rp X.K H ((t,some x)::Γ):=rp
  obtain⟨us',e,g⟩:=aI g
  obtain⟨ns,en,ne,kt⟩:=aI g
  have:=gL en
  subst this
  obtain⟨a,vs,rfl,hq,l2,rp2⟩:=aF e rp
  have:=gv l2 rp2
  subst this
  revert hq
  cases kM t with
  | true=>exact fun hq=>yt hc pins s σ H _ us Q I r ⟨a,ns,rfl,hq,ne,fun w hw=>c _ _ _ (kt w hw) (cz rp.tail fun _=>.int)⟩
  | false=>exact fun hq=>yu hc pins s σ H _ us Q I r ⟨a,ns,rfl,hq,ne,fun w hw=>c _ _ _ (kt w hw) (cz rp.tail fun _=>.int)⟩
 exact N4 g
def FX:P1s
 | [.int i],k=>k (.int i)
 | [.bl b],k=>k (.int (if b then 1 else 0))
 | _,_=>False
theorem fw:gu X (.type "int") FX:=by
 rintro pins s σ H xs us Q I r ⟨ts,Γ,k,l,rp,g,c⟩
 unfold FX at g
 split at g
 ·rename_i k i
  obtain⟨x,rfl⟩:=zz1 l rfl
  have rp:Rp X.K H ((.int i,some x)::Γ):=rp
  rw[aV rp]at r
  exact p8 pins s σ H _ us Q I r (.inl ⟨i,rfl,c _ _ _ g (cz rp.tail fun _=>.int)⟩)
 ·rename_i k i
  obtain⟨x,rfl⟩:=zz1 l rfl
  have rp:Rp X.K H ((.bl i,some x)::Γ):=rp
  rw[lS rp]at r
  exact p8 pins s σ H _ us Q I r (.inr ⟨i,rfl,c _ _ _ g (cz rp.tail fun _=>.int)⟩)
 exact N4 g
def ph:P1s
 | [t],k=>got (items t) fun ts=>k (.lst true ts)
 | _,_=>False
theorem gm:gu X (.type "list") ph:=by
 rintro pins s σ H xs us Q I r ⟨ts,Γ,k,l,rp,g,c⟩
 unfold ph at g
 split at g
 ·rename_i k t
  obtain⟨x,rfl⟩:=zz1 l rfl
  have rp:Rp X.K H ((t,some x)::Γ):=rp
  obtain⟨us',e,kt⟩:=aI g
  obtain⟨a,vs,rfl,hq,l2,rp2⟩:=aF e rp
  exact ug pins s σ H _ us Q I r ⟨_,a,vs,rfl,hq,fun p H' hp g' e'=>c _ _ _ kt (fO rp2 l2 hp g' e')⟩
 exact N4 g
def pZ:P1s
 | [.tup ts],k=>k (.tup ts)
 | [.cst ts],k=>k (.cst ts)
 | [.lst _ ts],k=>k (.tup ts)
 | _,_=>False
theorem fI:gu X (.type "tuple") pZ:=by
 rintro pins s σ H xs us Q I r ⟨ts,Γ,k,l,rp,g,c⟩
 unfold pZ at g
 split at g
 ·rename_i k ts
  obtain⟨x,rfl⟩:=zz1 l rfl
  have rp:Rp X.K H ((.tup ts,some x)::Γ):=rp
  obtain⟨a,vs,rfl,hq,l2,rp2⟩:=aF rfl rp
  exact lK pins s σ H _ us Q I r ⟨a,vs,rfl,hq,c _ _ _ g rp⟩
 ·rename_i k ts
  obtain⟨x,rfl⟩:=zz1 l rfl
  have rp:Rp X.K H ((.cst ts,some x)::Γ):=rp
  obtain⟨a,vs,rfl,hq,l2,rp2⟩:=aF rfl rp
  exact lK pins s σ H _ us Q I r ⟨a,vs,rfl,hq,c _ _ _ g rp⟩
 ·rename_i k o ts
  obtain⟨x,rfl⟩:=zz1 l rfl
  have rp:Rp X.K H ((.lst o ts,some x)::Γ):=rp
  obtain⟨a,vs,rfl,hq,l2,rp2⟩:=aF rfl rp
  exact tF pins s σ H _ us Q I r ⟨a,vs,rfl,hq,fun p H' hp g' e'=>c _ _ _ g (gB rp2 l2 g' e')⟩
 exact N4 g
def boolsOf:List T->Option (List Bool)
 | []=>some []
 | .bl i::r=>match boolsOf r with
  | some ns=>some (i::ns)
  | none=>none
 | _::_=>none
theorem lN(ns:List Bool):boolsOf (ns.map T.bl)=some ns:=by
 induction ns with
 | nil=>rfl
 | cons n r ih=>rw[d_,boolsOf,ih]
theorem nS:∀ {ts:List T} {ns:List Bool},boolsOf ts=some ns->ts=ns.map T.bl
 | [],ns,e=>by cases e;rfl
 | t::ts,ns,e=>by
  cases t <;> first | cases e | skip
  rename_i i
  rw[boolsOf]at e
  split at e
  ·rename_i ms em
   cases e
   rw[d_,nS em]
  cases e
theorem sf{K:NM}{H:Hp}{Γ:Fm}:∀ {ns:List Bool} {vs:List V},(ns.map T.bl).length=vs.length->Rp K H (zz (ns.map T.bl) vs++Γ)->vs=bools ns
 | [],[],_,_=>rfl
 | [],_::_,l,_=>by simp at l
 | _::_,[],l,_=>by simp at l
 | n::ns,v::vs,l,h=>by
  have h:Rp K H ((.bl n,some v)::(zz (ns.map T.bl) vs++Γ)):=h
  rw[lS h,sf (by simpa using l) h.tail]
  rfl
def FQ:P1s
 | [.lst _ ts],k=>got (boolsOf ts) fun bs=>k (.bl (bs.all id))
 | _,_=>False
theorem yb(hc:X.calm=true):gu X (.builtin "all") FQ:=by
 rintro pins s σ H xs us Q I r ⟨ts,Γ,k,l,rp,g,c⟩
 unfold FQ at g
 split at g
 ·rename_i k o ts
  obtain⟨x,rfl⟩:=zz1 l rfl
  have rp:Rp X.K H ((.lst o ts,some x)::Γ):=rp
  obtain⟨bs,e,kt⟩:=aI g
  have:=nS e
  subst this
  obtain⟨a,vs,rfl,hq,l2,rp2⟩:=aF rfl rp
  have:=sf l2 rp2
  subst this
  exact rR hc pins s σ H _ us Q I r ⟨a,bs,rfl,hq,c _ _ _ kt (cz rp.tail fun _=>.bl)⟩
 exact N4 g
abbrev PO':=Ev->(Option Int->Ev->Prop)->Prop
def wO(K:NM)(f:PO'):TO:=fun σ H Q=>∃ env Fr k,Rs K H env σ Fr/\f env k/\∀ o env' H',k o env'->Rs K H' env' σ Fr->Q o H'
def GO(X:Cx)(e:Option N2)(f:PO'):Prop:=PO X e (wO X.K f)
def Hl:PO':=fun env k=>k none env
def HZ(f:PF):PO':=fun env k=>f env fun t env1=>match t with
 | .int i=>k (some i) env1
 | _=>False
theorem me:GO X none Hl:=fun pins s σ H Q I ⟨env,Fr,k,rs,q,c⟩=>wN pins s σ H Q I (c _ _ _ q rs)
theorem mC{e:N2}{f:PF}(h:GE X e f):GO X (some e) (HZ f):=by
 rintro pins s σ H Q I ⟨env,Fr,k,rs,q,c⟩
 refine wV h pins s σ H Q I ⟨env,Fr,_,rs,q,fun t env1 v H1 q1 rs1=>?_⟩
 cases t <;> first | exact N4 q1 | skip
 exact⟨_,aV rs1.head,c _ _ _ q1 rs1.drop⟩
def lY(ts:List T)(lo hi:Option Int):List T:=(ts.drop (HT.sIx ts.length 0 lo)).take (HT.sIx ts.length ts.length hi - HT.sIx ts.length 0 lo)
def slT:T->Option Int->Option Int->(T->Prop)->Prop
 | .lst _ ts,lo,hi,k=>k (.lst true (lY ts lo hi))
 | .tup ts,lo,hi,k=>¬(HT.sIx ts.length 0 lo=0/\HT.sIx ts.length ts.length hi=ts.length)/\k (.tup (lY ts lo hi))
 | .cst ts,lo,hi,k=>¬(HT.sIx ts.length 0 lo=0/\HT.sIx ts.length ts.length hi=ts.length)/\k (.tup (lY ts lo hi))
 | _,_,_,_=>False
theorem vS:∀(ts:List T) (vs:List V) (n:Nat),zz (ts.drop n) (vs.drop n)=(zz ts vs).drop n
 | ts,vs,0=>rfl
 | [],vs,n + 1=>by simp[zz]
 | t::ts,[],n + 1=>by simp[zz]
 | t::ts,v::vs,n + 1=>by
  show zz (ts.drop n) (vs.drop n)=(zz ts vs).drop n
  exact vS ts vs n
theorem xa:∀(ts:List T) (vs:List V) (n:Nat),zz (ts.take n) (vs.take n)=(zz ts vs).take n
 | ts,vs,0=>by simp[zz]
 | [],vs,n + 1=>by simp[zz]
 | t::ts,[],n + 1=>by simp[zz]
 | t::ts,v::vs,n + 1=>by
  show(t,some v)::zz (ts.take n) (vs.take n)=(t,some v)::(zz ts vs).take n
  rw[xa ts vs n]
theorem vn{K:NM}{H:Hp}{Γ:Fm}{ts:List T}{vs:List V}(l:ts.length=vs.length)(lo hi:Option Int)(h:Rp K H (zz ts vs++Γ)):Rp K H (zz (lY ts lo hi) (iw vs lo hi)++Γ)/\(lY ts lo hi).length=(iw vs lo hi).length:=by
 unfold lY iw
 rw[<-l]
 refine⟨?_,?_⟩
 ·rw[xa,vS]
  have e1:=E_ (HT.sIx ts.length 0 lo) (zz ts vs)
  have e2:=E_ (HT.sIx ts.length ts.length hi - HT.sIx ts.length 0 lo) ((zz ts vs).drop (HT.sIx ts.length 0 lo))
  have h2:Rp K H ((zz ts vs).drop (HT.sIx ts.length 0 lo)++Γ):=by
   rw[<-e1,i_]at h
   exact h.part
  rw[<-e2,i_]at h2
  have h3:=h2.perm (o_ _ _ _)
  exact h3.part
 rw[A_,A_,C',C',l]
def fSl(fa:PF)(fl fh:PO'):PF:=fun env k=>fa env fun t env1=>fl env1 fun lo env2=>fh env2 fun hi env3=>slT t lo hi fun u=>k u env3
theorem jJ{e:N2}{lo hi:Option N2}{fa:PF}{fl fh:PO'}{p2 pos:Pos}(he:GE X e fa)(hl:GO X lo fl)(hh:GO X hi fh):GE X (.Subscript e (.Slice lo hi none p2) pos) (fSl fa fl fh):=by
 have sl:SlR X (fun x lo hi H Q=>∃ t Γ k,Rp X.K H ((t,some x)::Γ)/\slT t lo hi k/\∀ u v H',k u->Rp X.K H' ((u,some v)::Γ)->Q v H'):=by
  rintro pins s σ H x v vl vu lo hi sl Q I rx hs pl pu ⟨t,Γ,k,rp,g,c⟩
  cases t with
  | lst o ts=>
   obtain⟨a,vs,rfl,hq,l,rp2⟩:=aF rfl rp
   obtain⟨rp3,l3⟩:=vn l lo hi rp2
   exact Be pins s σ H _ v vl vu lo hi sl Q I rx hs pl pu ⟨a,vs,rfl,hq,fun p H' hp g' e=>c _ _ _ g (fO rp3 l3 hp g' e)⟩
  | tup ts=>
   obtain⟨a,vs,rfl,hq,l,rp2⟩:=aF rfl rp
   obtain⟨rp3,l3⟩:=vn l lo hi rp2
   exact vA pins s σ H _ v vl vu lo hi sl Q I rx hs pl pu ⟨a,vs,rfl,hq,by rw[<-l];exact g.1,fun p H' hp g' e=>c _ _ _ g.2 (gB rp3 l3 g' e)⟩
  | cst ts=>
   obtain⟨a,vs,rfl,hq,l,rp2⟩:=aF rfl rp
   obtain⟨rp3,l3⟩:=vn l lo hi rp2
   exact vA pins s σ H _ v vl vu lo hi sl Q I rx hs pl pu ⟨a,vs,rfl,hq,by rw[<-l];exact g.1,fun p H' hp g' e=>c _ _ _ g.2 (gB rp3 l3 g' e)⟩
  | _=>exact N4 g
 refine PE.imp (su sl he hl hh) ?_
 rintro σ H Q ⟨env,Fr,k,rs,q,c⟩
 refine⟨env,Fr,_,rs,q,fun t env1 v H1 q1 rs1=>⟨env1,_,_,rs1,q1,fun lo env2 H2 q2 rs2=>⟨env2,_,_,rs2,q2,fun hi env3 H3 q3 rs3=>?_⟩⟩⟩
 exact⟨t,_,_,rs3.head,q3,fun u w H' ku rp=>c _ _ _ _ ku (.of rs3.1 rp)⟩
end
open PySem PySem.Spec PyProof.Rows L2
inductive Arg where
 | val (t:T) | bor (i:Nat)
def nN:Arg->T
 | .val t=>t
 | .bor _=>.any
def lend:List Arg->Ev->List T × Ev
 | [],env=>([],env)
 | .val t::r,env=>(t::(lend r env).1,(lend r env).2)
 | .bor i::r,env=>match env[i]? with
  | some t=>(t::(lend r (env.set i .any)).1,(lend r (env.set i .any)).2)
  | none=>(.any::(lend r env).1,(lend r env).2)
def back:List Arg->List T->Ev->Ev
 | .bor i::r,t::ts,env=>back r ts (env.set i t)
 | .val _::r,_::ts,env=>back r ts env
 | _,_,env=>env
def jE:List Arg->List (Option V)->L2.St->Prop
 | [],[],_=>True
 | .val _::r,_::xs,σ=>jE r xs σ
 | .bor i::r,x::xs,σ=>(σ[i]?=some x\/σ.length<=i)/\jE r xs σ
 | _,_,_=>False
section
variable{K:NM}{H:Hp}{σ:L2.St}
theorem jD:∀ {as:List Arg} {xs:List (Option V)} {env:Ev} {Fr:Fm},jE as xs σ->Rs K H env σ ((as.map nN).zip xs++Fr)->Rs K H (lend as env).2 σ ((lend as env).1.zip xs++Fr)
 | [],[],env,Fr,_,h=>h
 | [],_::_,env,Fr,o,_=>o.elim
 | .val t::r,[],env,Fr,o,_=>o.elim
 | .bor i::r,[],env,Fr,o,_=>o.elim
 | .val t::r,x::xs,env,Fr,o,h=>by
  have h:Rs K H env σ ((t,x)::((r.map nN).zip xs++Fr)):=h
  have h2:Rs K H env σ ((r.map nN).zip xs++((t,x)::Fr)):=h.perm gV.symm
  exact(jD (as:=r) o h2).perm gV
 | .bor i::r,x::xs,env,Fr,o,h=>by
  have h:Rs K H env σ ((.any,x)::((r.map nN).zip xs++Fr)):=h
  have h:=h.drop
  rw[lend]
  split
  ·rename_i t e
   obtain⟨y,ey,h2⟩:=h.slot e
   have o1:σ[i]?=some x:=by
    rcases o.1 with z | z
    ·exact z
    have:=(f_.mp ey).1
    lia
   rw[o1]at ey
   cases ey
   have h3:Rs K H (env.set i .any) σ ((r.map nN).zip xs++((t,x)::Fr)):=h2.perm gV.symm
   exact(jD (as:=r) o.2 h3).perm gV
  have h3:Rs K H env σ ((r.map nN).zip xs++((.any,x)::Fr)):=(Rs.of h.1 (iN (x:=x) h.2)).perm gV.symm
  exact(jD (as:=r) o.2 h3).perm gV
theorem k8:∀ {as:List Arg} {xs:List (Option V)} {ts:List T} {env:Ev} {Fr:Fm},jE as xs σ->Rs K H env σ (ts.zip xs++Fr)->Rs K H (back as ts env) σ Fr
 | [],xs,ts,env,Fr,_,h=>by
  have:back [] ts env=env:=by cases ts <;> rfl
  rw[this]
  exact⟨h.1,(h.2.perm (o_ _ _ _)).part⟩
 | a::r,xs,[],env,Fr,_,h=>by
  have:back (a::r) [] env=env:=by cases a <;> rfl
  rw[this]
  exact h
 | .val t::r,[],u::ts,env,Fr,o,_=>o.elim
 | .bor i::r,[],u::ts,env,Fr,o,_=>o.elim
 | .val t::r,x::xs,u::ts,env,Fr,o,h=>by
  have h:Rs K H env σ ((u,x)::(ts.zip xs++Fr)):=h
  exact k8 (as:=r) o h.drop
 | .bor i::r,x::xs,u::ts,env,Fr,o,h=>by
  have h:Rs K H env σ ((u,x)::(ts.zip xs++Fr)):=h
  rw[back]
  by_cases hi:i < env.length
  ·have o1:σ[i]?=some x:=by
    rcases o.1 with z | z
    ·exact z
    have:=h.1
    lia
   exact k8 (as:=r) o.2 (h.jw hi o1)
  have e:env.set i u=env:=LA (by lia)
  rw[e]
  exact k8 (as:=r) o.2 h.drop
theorem Rs.put {env:Ev}{Fr:Fm}{i:Nat}{t:T}{v:V}(h:Rs K H env σ ((t,some v)::Fr)):Rs K H (env.set i t) (σ.set i (some v)) Fr:=by
 by_cases hi:i < env.length
 ·exact h.store hi
 rw[LA (by lia),LA (by rw[<-h.1];lia)]
 exact h.drop
end
abbrev PAs:=Ev->(List Arg->Ev->Prop)->Prop
noncomputable def wR(K:NM)(f:PAs):TA:=fun σ H Q=>∃ env Fr k,Rs K H env σ Fr/\f env k/\∀ as env' vs H',k as env'->as.length=vs.length->jE as (vs.map some) σ->Rs K H' env' σ ((as.map nN).zip (vs.map some)++Fr)->Q vs H'
def GR(X:Cx)(es:List N2)(f:PAs):Prop:=PA X es (wR X.K f)
def HG:PAs:=fun env k=>k [] env
def Hk(f:PF)(r:PAs):PAs:=fun env k=>f env fun t env1=>r env1 fun as env2=>k (.val t::as) env2
def Ep(i:Nat)(r:PAs):PAs:=fun env k=>(match env[i]? with
 | some t=>isAny t=false
 | none=>False)/\r env fun as env2=>k (.bor i::as) env2
section
variable{X:Cx}{e:N2}{es:List N2}{f:PF}{fr:PAs}
theorem ay:GR X [] HG:=PA.imp cu fun σ H Q ⟨env,Fr,k,rs,q,c⟩=>c [] env [] H q rfl trivial rs
theorem ai(he:GE X e f)(hr:GR X es fr)(hs:N7 (e::es) X.env=(false,Og e X.env)::N7 es X.env:=by rfl):GR X (e::es) (Hk f fr):=by
 refine PA.imp (aG he hr hs) ?_
 rintro σ H Q ⟨env,Fr,k,rs,q,c⟩
 refine⟨env,Fr,_,rs,q,fun t env1 v H1 q1 rs1=>⟨env1,_,_,rs1,q1,fun as env2 vs H2 q2 l ao rs2=>c _ _ _ _ q2 (by rw[j_,j_,l]) ao ?_⟩⟩
 exact rs2.perm gV
theorem aJ(i:Nat){x:Str}{pos:Pos}(hr:GR X es fr)(hN:X.N[i]?=some x:=by rfl)(hv:Vis X.env.scope x:=by first | exact e_ rfl | exact k_ (e_ rfl) | exact k_ (k_ rfl))(hd:(x ==("__debug__":Str))=false:=by decide)(hcd:(x ==("__classdict__":Str))=false:=by decide)
  (hs:N7 (.Name x pos::es) X.env=(false,Og (.Name x pos) X.env)::N7 es X.env:=by rfl):GR X (.Name x pos::es) (Ep i fr):=by
 refine PA.imp (aG (gA hN hv hd hcd) hr hs) ?_
 rintro σ H Q ⟨env,Fr,k,rs,⟨na,q⟩,c⟩
 split at na
 ·rename_i t e
  obtain⟨y,ey,rs2⟩:=rs.slot e
  obtain⟨v,rfl⟩:=fL rs2 na
  refine⟨v,ey,env,Fr,_,rs,q,fun as env2 vs H2 q2 l ao rs2=>c _ _ _ _ q2 (by rw[j_,j_,l]) ⟨.inl ey,ao⟩ ?_⟩
  exact .of rs2.1 (iN rs2.2)
 exact na.elim
end
abbrev FP:=List T->(T->List T->Prop)->Prop
noncomputable def aM(K:NM)(n:Nat)(P:FP):Sp:=fun vs H Q _=>∃ ts Fr k,ts.length=vs.length/\vs.length=n/\Rp K H (zz ts vs++Fr)/\P ts k/\∀ t ts' v H',k t ts'->Rp K H' ((t,some v)::(zz ts' vs++Fr))->Q v H'
def J3(P:FP)(ts:List T)(k:T->List T->Prop):Prop:=P ts k
def F0(n:Nat)(P:FP)(fr:PAs):PF:=fun env k=>fr env fun as env1=>as.length=n/\J3 P (lend as env1).1 fun t ts'=>k t (back as ts' (lend as env1).2)
section
variable{X:Cx}
theorem iG:∀(as:List Arg) (env:Ev),(lend as env).1.length=as.length
 | [],env=>rfl
 | .val t::r,env=>by rw[lend,j_,j_,iG r]
 | .bor i::r,env=>by
  rw[lend]
  split
  ·rw[j_,j_,iG r]
  rw[j_,j_,iG r]
theorem C7{n:Nat}{P:FP}{fr:PAs}:∀ σ H Q,wE X.K (F0 n P fr) σ H Q->B2 (aM X.K n P) [] E0 (wR X.K fr) σ H Q:=by
 rintro σ H Q ⟨env,Fr,k,rs,q,c⟩
 refine⟨env,Fr,_,rs,q,fun as env1 vs H1 ⟨hn,q1⟩ l ao rs1=>?_⟩
 show aM X.K n P (vs++[]) H1 Q E0
 rw[JO]
 have rs2:=jD ao rs1
 refine⟨(lend as env1).1,(lend as env1).2.zip σ++Fr,_,by rw[iG,l],by rw[<-l];exact hn,?_,q1,fun t ts' v H' kt rp=>c _ _ _ _ kt ?_⟩
 ·exact rs2.2.perm (o_ _ _ _)
 have h3:Rs X.K H' (lend as env1).2 σ (zz ts' vs++((t,some v)::Fr)):=⟨rs2.1,rp.perm (by
  refine w_ ?_ (o_ _ _ _)
  refine w_ gV.symm ?_
  exact JM _ gV.symm)⟩
 exact k8 ao h3
theorem ax{j k n:Nat}{x:Str}{ps:List Str}{P:FP}{e:N2}{es:List N2}{fr:PAs}{p pos:Pos}(D:Cal X.prog X.w X.K X.mg X.base j x ps (aM X.K n P))(hr:Room k X.A)(hg:Gl X x)(ha:GR X (e::es) fr)(hjk:j<=k:=by omega)(hdb:(x ==("__debug__":Str))=false:=by decide)
  (he:N7 (e::es) X.env=(false,Og e X.env)::N7 es X.env:=by rfl) (hpl:(O_ pos (N7 es X.env)).any (·.1)=false:=by rfl):GE X (.Call (.Name x p) (e::es) [] pos) (F0 n P fr):=PE.imp (zi D hr hg ha hjk hdb he hpl) C7
end
structure PEn where
 nx:Ev->Prop
 rt:T->Ev->Prop
 bk:Ev->Prop:=fun _=>False
 ct:Ev->Prop:=fun _=>False
abbrev PSt:=PEn->Ev->Prop
def Kept(κ:Nat->Bool)(σ σ':L2.St):Prop:=σ'.length=σ.length/\∀ j,κ j=true->σ'[j]?=σ[j]?
theorem Kept.refl {κ:Nat->Bool}{σ:L2.St}:Kept κ σ σ:=⟨rfl,fun _ _=>rfl⟩
theorem Kept.trans {κ:Nat->Bool}{σ σ' σ'':L2.St}(a:Kept κ σ σ')(b:Kept κ σ' σ''):Kept κ σ σ'':=⟨b.1.trans a.1,fun j h=>(b.2 j h).trans (a.2 j h)⟩
theorem Kept.set {κ:Nat->Bool}{σ:L2.St}{i:Nat}{x:Option V}(h:κ i=false):Kept κ σ (σ.set i x):=⟨JL,fun j hj=>by
 by_cases e:i=j
 ·subst e;rw[h]at hj;cases hj
 rw[LP e]⟩
structure EndOk (K:NM) (κ:Nat->Bool) (σ:L2.St) (Fr:Fm) (pe:PEn) (D:Ends):Prop where
 nx:∀ env' σ' H',pe.nx env'->Rs K H' env' σ' Fr->Kept κ σ σ'->D.nx σ' H'
 rt:∀ t env' v σ' H',pe.rt t env'->Rs K H' env' σ' ((t,some v)::Fr)->Kept κ σ σ'->D.rt v H'
 bk:∀ env' σ' H',pe.bk env'->Rs K H' env' σ' Fr->Kept κ σ σ'->D.bk σ' H'
 ct:∀ env' σ' H',pe.ct env'->Rs K H' env' σ' Fr->Kept κ σ σ'->D.ct σ' H'
theorem EndOk.later {K:NM}{κ:Nat->Bool}{σ σ':L2.St}{Fr:Fm}{pe:PEn}{D:Ends}(h:EndOk K κ σ Fr pe D)(k:Kept κ σ σ'):EndOk K κ σ' Fr pe D:=
 ⟨fun a b c p q r=>h.nx a b c p q (k.trans r),fun a b c d e p q r=>h.rt a b c d e p q (k.trans r),fun a b c p q r=>h.bk a b c p q (k.trans r),fun a b c p q r=>h.ct a b c p q (k.trans r)⟩
def wS(K:NM)(κ:Nat->Bool)(f:PSt):TS:=fun D σ H=>∃ env Fr pe,Rs K H env σ Fr/\f pe env/\EndOk K κ σ Fr pe D
def GS(κ:Nat->Bool)(X:Cx)(st:Of)(f:PSt):Prop:=PS X st (wS X.K κ f)
def GSs(κ:Nat->Bool)(X:Cx)(sts:List Of)(f:PSt):Prop:=PSs X sts (wS X.K κ f)
theorem PS.imp {X:Cx}{st:Of}{t t':TS}(h:PS X st t)(k:∀ D σ H,t' D σ H->t D σ H):PS X st t':=fun pins s σ H D I q=>h pins s σ H D I (k _ _ _ q)
theorem PSs.imp {X:Cx}{st:List Of}{t t':TS}(h:PSs X st t)(k:∀ D σ H,t' D σ H->t D σ H):PSs X st t':=fun pins s σ H D I q=>h pins s σ H D I (k _ _ _ q)
def Ee:PSt:=fun pe env=>pe.nx env
def HU(f g:PSt):PSt:=fun pe env=>f { pe with nx:=g pe } env
section
variable{X:Cx}{κ:Nat->Bool}{pos:Pos}{st:Of}{rest:List Of}{f g:PSt}{e:N2}{fe:PF}
theorem b6:GSs κ X [] Ee:=PSs.imp fX fun D σ H ⟨env,Fr,pe,rs,q,c⟩=>c.nx _ _ _ q rs .refl
theorem aj(h1:GS κ X st f)(h2:GSs κ X rest g):GSs κ X (st::rest) (HU f g):=by
 refine PSs.imp (bj h1 h2) ?_
 rintro D σ H ⟨env,Fr,pe,rs,q,c⟩
 refine⟨env,Fr,_,rs,q,⟨fun env' σ' H' q1 rs1 k1=>⟨env',Fr,pe,rs1,q1,c.later k1⟩,c.rt,c.bk,c.ct⟩⟩
theorem aq(h1:GS κ X st f):GSs κ X [st] f:=eZ h1
def DT(fe:PF):PSt:=fun pe env=>fe env fun _ env1=>pe.nx env1
theorem eX(he:GE X e fe)(hs:P' e none pos.line X.env=pure false:=by rfl):GS κ X (.Expr e pos) (DT fe):=by
 refine PS.imp (CT he hs) ?_
 rintro D σ H ⟨env,Fr,pe,rs,q,c⟩
 exact⟨env,Fr,_,rs,q,fun t env' v H' q1 rs1=>c.nx _ _ _ q1 rs1.drop .refl⟩
def IJ(fe:PF):PSt:=fun pe env=>fe env fun t env1=>pe.rt t env1
theorem aQ(he:GE X e fe):GS κ X (.Return (some e) pos) (IJ fe):=by
 refine PS.imp (gF he) ?_
 rintro D σ H ⟨env,Fr,pe,rs,q,c⟩
 exact⟨env,Fr,_,rs,q,fun t env' v H' q1 rs1=>c.rt _ _ _ _ _ q1 rs1 .refl⟩
def sIf(tc:PB)(f g:PSt):PSt:=fun pe env=>tc env fun b env1=>cnd b (f pe env1) (g pe env1)
theorem d5{c:N2}{a b:List Of}{tc:PB}(hc:GT X c tc)(ha:GSs κ X a f)(hb:GSs κ X b g):GS κ X (.If c a b pos) (sIf tc f g):=by
 refine PS.imp (jL hc ha hb) ?_
 rintro D σ H ⟨env,Fr,pe,rs,q,c⟩
 refine⟨env,Fr,_,rs,q,fun b env' H' q1 rs1=>ig ⟨fun h=>⟨env',Fr,pe,rs1,q1.1 h,c⟩,fun h=>⟨env',Fr,pe,rs1,q1.2 h,c⟩⟩⟩
def CJ(i:Nat)(fe:PF):PSt:=fun pe env=>fe env fun t env1=>pe.nx (env1.set i t)
theorem aC{i:Nat}{x:Str}{pos':Pos}(hN:X.N.Nodup)(hi:X.N[i]?=some x)(hx:Loc X.env.scope x)(hκ:κ i=false)(he:GE X e fe)(hs:P' e (some (.Name x pos')) pos.line X.env=pure false:=by rfl)(hf:X.fn x=true\/X.env.scope.names.lookup x=some .local:=by first | exact .inl rfl | exact .inr rfl | assumption) :
  GS κ X (.Assign [.Name x pos'] e pos) (CJ i fe):=by
 refine PS.imp (iJ hN hi hx he hs hf) ?_
 rintro D σ H ⟨env,Fr,pe,rs,q,c⟩
 exact⟨env,Fr,_,rs,q,fun t env' v H' q1 rs1=>c.nx _ _ _ q1 rs1.put (.set hκ)⟩
abbrev PG':=T->Ev->(Ev->Prop)->Prop
abbrev lZ:=List T->Ev->(Ev->Prop)->Prop
noncomputable def wG(K:NM)(κ:Nat->Bool)(f:PG'):TG:=fun v σ H Q=>∃ t env Fr k,Rs K H env σ ((t,some v)::Fr)/\f t env k/\∀ env' σ' H',k env'->Rs K H' env' σ' Fr->Kept κ σ σ'->Q σ' H'
noncomputable def wGs(K:NM)(κ:Nat->Bool)(f:lZ):TGs:=fun vs σ H Q=>∃ ts env Fr k,ts.length=vs.length/\Rs K H env σ (zz ts vs++Fr)/\f ts env k/\∀ env' σ' H',k env'->Rs K H' env' σ' Fr->Kept κ σ σ'->Q σ' H'
def GG(κ:Nat->Bool)(X:Cx)(tg:N2)(f:PG'):Prop:=PG X tg (wG X.K κ f)
def GGs(κ:Nat->Bool)(X:Cx)(tgs:List N2)(f:lZ):Prop:=PGs X tgs (wGs X.K κ f)
def gN(i:Nat):PG':=fun t env k=>k (env.set i t)
theorem av{i:Nat}{x:Str}(hN:X.N.Nodup)(hi:X.N[i]?=some x)(hx:Loc X.env.scope x)(hκ:κ i=false)(hf:X.fn x=true\/X.env.scope.names.lookup x=some .local:=by first | exact .inl rfl | exact .inr rfl | assumption):GG κ X (.Name x pos) (gN i):=
 fun pins s σ H v u Q I r ⟨t,env,Fr,k,rs,q,c⟩=>ml hN hi hx hf pins s σ H v u Q I r (c _ _ _ q rs.put (.set hκ))
def DW:lZ:=fun ts env k=>ts=[]/\k env
def AR(f:PG')(r:lZ):lZ:=fun ts env k=>match ts with
 | t::ts=>f t env fun env1=>r ts env1 k
 | []=>False
def gTp(n:Nat)(f:lZ):PG':=fun t env k=>match t with
 | .tup ts=>ts.length=n/\f ts env k
 | .cst ts=>ts.length=n/\f ts env k
 | _=>False
end
open PySem PySem.Spec PyProof.Rows L2
section
variable{X:Cx}{κ:Nat->Bool}{pos:Pos}{e tg:N2}{es:List N2}{fe:PF}{g:PG'}{gs:lZ}
theorem dE:GGs κ X [] DW:=by
 rintro pins s σ H vs us Q I r ⟨ts,env,Fr,k,l,rs,⟨e,q⟩,c⟩
 subst e
 have:vs=[]:=by cases vs with | nil=>rfl | cons _ _=>cases l
 subst this
 exact pT pins s σ H [] us Q I r ⟨rfl,c _ _ _ q rs .refl⟩
theorem aE(h1:GG κ X e g)(h2:GGs κ X es gs)(hs:(Oy (e::es) X.env).map (·.2)=Qa e X.env::(Oy es X.env).map (·.2):=by rfl):GGs κ X (e::es) (AR g gs):=by
 rintro pins s σ H vs us Q I r ⟨ts,env,Fr,k,l,rs,q,c⟩
 cases ts with
 | nil=>exact N4 q
 | cons t ts=>
  cases vs with
  | nil=>cases l
  | cons v vs=>
   have q:g t env fun env1=>gs ts env1 k:=q
   refine iI h1 h2 hs pins s σ H (v::vs) us Q I r ⟨v,vs,rfl,t,env,zz ts vs++Fr,_,rs,q,fun env1 σ1 H1 q1 rs1 k1=>?_⟩
   exact⟨ts,env1,Fr,k,by simpa using l,rs1,q1,fun env2 σ2 H2 q2 rs2 k2=>c _ _ _ q2 rs2 (k1.trans k2)⟩
theorem fm{x1 n:Nat}(hc:X.calm=true)(h:GGs κ X es gs)(hn:(Oy es X.env).length=n:=by rfl)(hst:(Oy es X.env).findIdx? (·.1)=none:=by rfl):GG κ X (.Tuple es x1 pos) (gTp n gs):=by
 rintro pins s σ H v u Q I r ⟨t,env,Fr,k,rs,q,c⟩
 have go:∀ ts,items t=some ts->kM t=true->ts.length=n->gs ts env k->NT (N1 X.prog X.w) X.A (Qa (.Tuple es x1 pos) X.env u) (fun _ s'=>∃ σ' H',Inv X pins σ' H' s'/\Q σ' H') X.xe s:=fun ts e1 e2 e3 q=>by
  obtain⟨a,vs,rfl,hq,l,rp⟩:=aF e1 rs.head
  rw[e2]at hq
  refine uV hc h hn hst pins s σ H _ u Q I r ⟨a,vs,rfl,hq,by rw[<-l];exact e3,ts,env,Fr,k,l,⟨rs.1,?_⟩,q,c⟩
  exact rp.perm (o_ _ _ _)
 cases t with
 | tup ts=>exact go ts rfl rfl q.1 q.2
 | cst ts=>exact go ts rfl rfl q.1 q.2
 | _=>exact N4 q
def Hr(fe:PF)(g:PG'):PSt:=fun pe env=>fe env fun t env1=>g t env1 pe.nx
theorem pQ(he:GE X e fe)(hg:GG κ X tg g)(hs:Q_ [tg] e pos.line X.env=pure false:=by rfl)(hw:Ra [tg] e X.env=pure none:=by rfl)(h1:(Oy [tg] X.env).map (·.2)=[Qa tg X.env]:=by rfl) :
  GS κ X (.Assign [tg] e pos) (Hr fe g):=by
 refine PS.imp (BA he hg hs hw h1) ?_
 rintro D σ H ⟨env,Fr,pe,rs,q,c⟩
 exact⟨env,Fr,_,rs,q,fun t env' v H' q1 rs1=>⟨t,env',Fr,_,rs1,q1,fun env2 σ2 H2 q2 rs2 k2=>c.nx _ _ _ q2 rs2 k2⟩⟩
def Ho(i j:Nat)(fr:PFs):PSt:=fun pe env=>fr env fun ts env1=>match ts with
 | [t,u]=>pe.nx ((env1.set i t).set j u)
 | _=>False
theorem n9{i j:Nat}{x y:Str}{a b:N2}{fr:PFs}{px py pt:Pos}{kt k2 pt2}(hc:X.calm=true)(hN:X.N.Nodup)(hi:X.N[i]?=some x)(hj:X.N[j]?=some y)(hij:i≠j)
  (hx:X.env.scope.names.lookup x=some .local) (hy:X.env.scope.names.lookup y=some .local) (hκi:κ i=false) (hκj:κ j=false) (ha:GA X [a,b] fr)
  (hw:Ra [.Tuple [.Name x px,.Name y py] kt pt] (.Tuple [a,b] k2 pt2) X.env=pure (some [x,y])) (hs:Q_ [.Tuple [.Name x px,.Name y py] kt pt] (.Tuple [a,b] k2 pt2) pos.line X.env=pure false:=by rfl) :
  GS κ X (.Assign [.Tuple [.Name x px,.Name y py] kt pt] (.Tuple [a,b] k2 pt2) pos) (Ho i j fr):=by
 refine PS.imp (ED hc hN hi hj hij hx hy ha hw hs) ?_
 rintro D σ H ⟨env,Fr,pe,rs,q,c⟩
 refine⟨env,Fr,_,rs,q,fun ts env1 vs H1 q1 l rs1=>?_⟩
 rcases ts with _ | ⟨t,_ | ⟨u,_ | ⟨t3,ts⟩⟩⟩
 ·exact q1.elim
 ·exact q1.elim
 ·obtain⟨v,w,rfl⟩:=zz2 l rfl
  refine⟨v,w,rfl,c.nx _ _ _ q1 ?_ ((Kept.set hκi).trans (Kept.set hκj))⟩
  have r1:Rs X.K H1 env1 σ ((t,some v)::(u,some w)::Fr):=rs1
  exact Rs.put (Rs.put r1)
 exact q1.elim
structure ItOk (K:NM) (J:It) (its:List T) (Fg:Fm):Prop where
 turn:∀ i t H Γ,its[i]?=some t->Rp K H (Fg++Γ)->J.go i H/\∀ x H',J.yld i H x H'->Rp K H' ((t,some x)::(Fg++Γ))
 stop:∀ H Γ,Rp K H (Fg++Γ)->J.stop its.length H
abbrev PIt:=Ev->(List T->Ev->Prop)->Prop
noncomputable def wI(K:NM)(f:PIt):TI:=fun σ H R=>∃ env Fr k,Rs K H env σ Fr/\f env k/\∀ its env' J Fg H',k its env'->Rs K H' env' σ (Fg++Fr)->ItOk K J its Fg->R J H'
def GI(X:Cx)(tg iter:N2)(f:PIt):Prop:=PI X tg iter (wI X.K f)
noncomputable def forL(its:List T)(g:PG')(fb:PSt)(pe:PEn)(env1:Ev):Prop:=∃ W:Nat->Ev->Prop,W 0 env1/\(∀ i t env,W i env->its[i]?=some t->g t env fun env2=>fb { pe with nx:=W (i + 1),ct:=W (i + 1),bk:=pe.nx } env2)/\∀ env,W its.length env->pe.nx env
def ID(fi:PIt)(g:PG')(fb:PSt):PSt:=fun pe env=>fi env fun its env1=>forL its g fb pe env1
theorem nI{K:NM}{H:Hp}{env:Ev}{σ:L2.St}{Fg Fr:Fm}(h:Rs K H env σ (Fg++Fr)):Rs K H env σ Fr:=⟨h.1,(h.2.perm (o_ _ _ _)).part⟩
theorem cP{iter:N2}{body:List Of}{fi:PIt}{g:PG'}{fb:PSt}(hp:PassesOwn (N1 X.prog X.w) X.A X.env X.xe)(hc:X.calm=true)(hi:GI X tg iter fi)(hg:GG κ X tg g)(hb:GSs κ X body fb)(hs:∀ x,OC iter X.env x=pure x:=by intro _;rfl):GS κ X (.For tg iter body [] pos) (ID fi g fb):=by
 refine PS.imp (FD hp hc hi hg hb hs) ?_
 rintro D σ H ⟨env,Fr,pe,rs,q,c⟩
 refine⟨env,Fr,_,rs,q,?_⟩
 rintro its env1 J Fg H1 ⟨W,w0,wt,we⟩ rs1 ok
 refine⟨fun i m σ' H'=>∃ env',W i env'/\Rs X.K H' env' σ' (Fg++Fr)/\Kept κ σ σ'/\m + i=its.length,⟨its.length,env1,w0,rs1,.refl,rfl⟩,?_⟩
 rintro i m σ1 H2 ⟨env2,w2,rs2,k2,hm⟩
 have rp2:Rp X.K H2 (Fg++(env2.zip σ1++Fr)):=rs2.2.perm (o_ _ _ _)
 by_cases hlt:i < its.length
 ·have ei:its[i]?=some its[i]:=b_ hlt
  obtain⟨hgo,hy⟩:=ok.turn i its[i] H2 _ ei rp2
  refine .inr ⟨hgo,fun σ' H'=>∃ env',W (i + 1) env'/\Rs X.K H' env' σ' (Fg++Fr)/\Kept κ σ σ',fun σ' H' ⟨env',w',r',k'⟩=>⟨m - 1,by lia,env',w',r',k',by lia⟩,fun x H' hx=>?_⟩
  have rp3:=hy x H' hx
  have rs3:Rs X.K H' env2 σ1 ((its[i],some x)::(Fg++Fr)):=.of rs2.1 (rp3.perm (.cons _ (o_ _ _ _)))
  refine⟨its[i],env2,Fg++Fr,_,rs3,wt i its[i] env2 w2 ei,fun env3 σ3 H3 q3 rs4 k4=>?_⟩
  refine⟨env3,Fg++Fr,_,rs4,q3,⟨?_,?_,?_,?_⟩⟩
  ·exact fun env' σ' H' w' r' k'=>⟨env',w',r',k2.trans (k4.trans k')⟩
  ·exact fun t env' v σ' H' p r' k'=>c.rt _ _ _ _ _ p (nI (Fg:=Fg) (r'.perm gV.symm)) (k2.trans (k4.trans k'))
  ·exact fun env' σ' H' p r' k'=>c.nx _ _ _ p (nI r') (k2.trans (k4.trans k'))
  exact fun env' σ' H' w' r' k'=>⟨env',w',r',k2.trans (k4.trans k')⟩
 have:i=its.length:=by lia
 subst this
 exact .inl ⟨ok.stop H2 _ rp2,c.nx _ _ _ (we env2 w2) (nI rs2) k2⟩
end
section
variable{X:Cx}{pos:Pos}{e tg:N2}{fe:PF}
def J1(fe:PF):PIt:=fun env k=>fe env fun t env1=>got (items t) fun ts=>k (erL ts) env1
theorem Gv{K:NM}{t:T}{ts:List T}{a:NN}(e:items t=some ts)(n:aU t=true):ItOk K (Its K (kM t) a) ts [(t,some (.ref a))] where
 turn:=fun i u H Γ ei rp=>by
  obtain⟨a',vs,ea,hq,l,rp2⟩:=aF e (iu rp n)
  cases ea
  obtain⟨w,ew⟩:=nL l ei
  refine⟨FL hq rfl i H .d6 (by have:=(f_.mp ew).1;exact this),fun x H' hy=>?_⟩
  obtain⟨rfl,hx⟩:=Cb hq .d6 hy
  rw[ew]at hx
  cases hx
  exact hJ rp2 ei ew
 stop:=fun H Γ rp=>by
  obtain⟨a',vs,ea,hq,l,rp2⟩:=aF e rp
  cases ea
  exact AU hq l.symm H .d6
theorem kA{t:T}{ts:List T}(e:items t=some ts):items (er t)=some (erL ts)/\kM (er t)=kM t:=by
 cases t <;> cases e <;> exact⟨rfl,rfl⟩
theorem cI(h:GE X e fe):GI X tg e (J1 fe):=by
 rintro pins s σ H R I ⟨env,Fr,k,rs,q,c⟩
 refine FK h pins s σ H R I ⟨env,Fr,_,rs,q,fun t env1 v H1 q1 rs1=>?_⟩
 obtain⟨ts,e1,kt⟩:=aI q1
 have rf:Rp X.K H1 ((er t,some v)::(env1.zip σ++Fr)):=lC rs1.head
 obtain⟨e2,e3⟩:=kA e1
 obtain⟨a,vs,rfl,hq,l,rp2⟩:=aF e2 rf
 exact⟨kM (er t),a,vs,rfl,hq,c _ _ _ _ _ kt (Rs.of (Fr:=Fr) rs1.1 rf) (Gv e2 (cW t))⟩
def m4(lo:Int)(n:Nat):List T:=(p_ n).map fun(i:Nat)=>.int (lo + (i:Int))
theorem Bk{K:NM}(lo:Int)(n:Nat):ItOk K (Itr lo n) (m4 lo n) [] where
 turn:=fun i t H Γ ei rp=>by
  unfold m4 at ei
  rw[s_]at ei
  have hi:i < n:=by
   cases h:(p_ n)[i]? with
   | none=>rw[h]at ei;cases ei
   | some j=>
    have:=(f_.mp h).1
    simpa using this
  rw[KS hi]at ei
  cases ei
  refine⟨hi,fun x H' ⟨e1,e2⟩=>?_⟩
  subst e1;subst e2
  exact cz rp fun _=>.int
 stop:=fun H Γ rp=>by
  show n<=_
  unfold m4
  rw[a_,Kf]
  exact c_ _
def iR1(fr:PFs):PIt:=fun env k=>fr env fun ts env1=>match ts with
 | [.int j]=>(-(2 ^ 62)<=j/\j < 2 ^ 62)/\k (m4 0 j.toNat) env1
 | _=>False
noncomputable def iR2(fr:PFs):PIt:=fun env k=>fr env fun ts env1=>match ts with
 | [.int i,.int j]=>(-(2 ^ 62)<=i/\i < 2 ^ 62/\-(2 ^ 62)<=j/\j < 2 ^ 62)/\k (m4 i (j - i).toNat) env1
 | _=>False
variable{a b c:N2}{fr:PFs}{p:Pos}
theorem eM(hg:Gl X "range")(hm:X.mg "range"=none)(ha:GA X [a] fr)(hs:N7 [a] X.env=[(false,Og a X.env)]:=by rfl):GI X tg (.Call (.Name "range" p) [a] [] pos) (iR1 fr):=by
 rintro pins s σ H R I ⟨env,Fr,k,rs,q,c⟩
 refine xU hg hm ha hs pins s σ H R I ⟨env,Fr,_,rs,q,fun ts env1 vs H1 q1 l rs1=>?_⟩
 rcases ts with _ | ⟨t,_ | ⟨t2,ts⟩⟩
 ·exact q1.elim
 ·cases t <;> first | exact q1.elim | skip
  rename_i j
  rcases vs with _ | ⟨v,_ | ⟨v2,vs⟩⟩
  ·cases l
  ·have rs1:Rs X.K H1 env1 σ ((.int j,some v)::Fr):=rs1
   rw[aV rs1.head]
   exact⟨j,rfl,q1.1.1,q1.1.2,c _ _ _ [] _ q1.2 rs1.drop (Bk 0 _)⟩
  cases l
 cases t <;> exact q1.elim
theorem fZ(hg:Gl X "range")(hm:X.mg "range"=none)(ha:GA X [a,b] fr)(hs:N7 [a,b] X.env=[(false,Og a X.env),(false,Og b X.env)]:=by rfl)(hs2:N7 [b] X.env=[(false,Og b X.env)]:=by rfl):GI X tg (.Call (.Name "range" p) [a,b] [] pos) (iR2 fr):=by
 rintro pins s σ H R I ⟨env,Fr,k,rs,q,c⟩
 refine xV hg hm ha hs hs2 pins s σ H R I ⟨env,Fr,_,rs,q,fun ts env1 vs H1 q1 l rs1=>?_⟩
 match ts,vs,l,q1 with
 | [.int i,.int j],[v,w],l,q1=>
  have rs1:Rs X.K H1 env1 σ ((.int i,some v)::(.int j,some w)::Fr):=rs1
  rw[aV rs1.head,aV rs1.drop.head]
  exact⟨i,j,rfl,q1.1,c _ _ _ [] _ q1.2 rs1.drop.drop (Bk i _)⟩
def iZp(fr:PFs):PIt:=fun env k=>fr env fun ts env1=>match ts with
 | [t,u]=>got (items t) fun as=>got (items u) fun bs=>k (((erL as).zip (erL bs)).map fun p=>.tup [p.1,p.2]) env1
 | _=>False
theorem zC{K:NM}{H H':Hp}{Γ:Fm}{t u:T}{x y:V}{p:NN}(h:Rp K H ((t,some x)::(u,some y)::Γ))(s:bo H H')(e:H' p=some (.tup [x,y])):Rp K H' ((.tup [t,u],some (.ref p))::Γ):=
 gB (ts:=[t,u]) (vs:=[x,y]) h rfl s e
theorem EI{K:NM}{t u:T}{as bs:List T}{a b:NN}(e1:items t=some as)(e2:items u=some bs)(n1:aU t=true)(n2:aU u=true) :
  ItOk K (Itz K (kM t) a (kM u) b) ((as.zip bs).map fun p=>.tup [p.1,p.2]) [(t,some (.ref a)),(u,some (.ref b))] where
 turn:=fun i w H Γ ei rp=>by
  rw[s_]at ei
  cases hz:(as.zip bs)[i]? with
  | none=>rw[hz]at ei;cases ei
  | some q=>
   rw[hz]at ei
   cases ei
   obtain⟨q1,q2⟩:=q
   rw[List.getElem?_zip_eq_some]at hz
   have rp0:Rp K H ((t,some (.ref a))::(u,some (.ref b))::Γ):=rp
   have rpd:=iu rp0 n1
   have rpe:Rp K H ((u,some (.ref b))::(t,some (.ref a))::(t,some (.ref a))::Γ):=rpd.perm (by
    refine w_ ?_ (KO _ _ _)
    exact .cons _ (.swap _ _ _))
   have rpf:=iu rpe n2
   obtain⟨b',ws,eb,hb,lb,rpg⟩:=aF e2 rpf
   cases eb
   obtain⟨y,ey⟩:=nL lb hz.2
   have rph:=hJ rpg hz.2 ey
   have rpi:Rp K H ((t,some (.ref a))::(q2,some y)::(t,some (.ref a))::(u,some (.ref b))::Γ):=rph.perm (by
    refine w_ ?_ (KO _ _ _)
    refine .cons _ ?_
    refine w_ (KO _ _ _) ?_
    exact .cons _ (KO _ _ _))
   obtain⟨a',vs,ea,ha,la,rpj⟩:=aF e1 rpi
   cases ea
   obtain⟨x,ex⟩:=nL la hz.1
   have rpk:=hJ rpj hz.1 ex
   refine⟨⟨vs,ws,x,y,ha,hb,ex,ey⟩,fun v H' hy=>?_⟩
   obtain⟨p,x',y',hp,ev,eH,h1,h2⟩:=hy
   have ex':=h1 vs ha
   have ey':=h2 ws hb
   rw[ex]at ex';rw[ey]at ey'
   cases ex';cases ey'
   subst ev;subst eH
   exact zC rpk (cw hp _) aR
 stop:=fun H Γ rp=>by
  have rp0:Rp K H ((t,some (.ref a))::(u,some (.ref b))::Γ):=rp
  obtain⟨a',vs,ea,ha,la,_⟩:=aF e1 rp0
  obtain⟨b',ws,eb,hb,lb,_⟩:=aF e2 rp0.tail
  cases ea;cases eb
  refine⟨vs,ws,ha,hb,?_⟩
  rw[a_,List.length_zip,la,lb]
  lia
theorem FU{es:List N2}{x1:Nat}{tp:Pos}(hg:Gl X "zip")(hm:X.mg "zip"=none)(ha:GA X [a,b] fr)(hs:N7 [a,b] X.env=[(false,Og a X.env),(false,Og b X.env)]:=by rfl)(hs2:N7 [b] X.env=[(false,Og b X.env)]:=by rfl) :
  GI X (.Tuple es x1 tp) (.Call (.Name "zip" p) [a,b] [] pos) (iZp fr):=by
 rintro pins s σ H R I ⟨env,Fr,k,rs,q,c⟩
 refine zA hg hm ha hs hs2 pins s σ H R I ⟨env,Fr,_,rs,q,fun ts env1 vs H1 q1 l rs1=>?_⟩
 match ts,vs,l,q1 with
 | [t,u],[v,w],l,q1=>
  obtain⟨as,ea,q2⟩:=aI q1
  obtain⟨bs,eb,kt⟩:=aI q2
  have rs1:Rs X.K H1 env1 σ ((t,some v)::(u,some w)::Fr):=rs1
  have r2:Rs X.K H1 env1 σ ((er t,some v)::(u,some w)::Fr):=.of rs1.1 (lC rs1.head)
  have r3:Rs X.K H1 env1 σ ((er u,some w)::(er t,some v)::Fr):=.of rs1.1 (lC (r2.perm (.swap _ _ _)).head)
  have r4:=r3.perm (.swap _ _ _)
  obtain⟨e1,_⟩:=kA ea
  obtain⟨e2,_⟩:=kA eb
  obtain⟨a',xs,rfl,hq,l1,_⟩:=aF e1 r4.head
  obtain⟨b',ys,rfl,hq2,l2,_⟩:=aF e2 r3.head
  exact⟨_,a',_,b',rfl,⟨xs,hq⟩,⟨ys,hq2⟩,c _ _ _ [(er t,_),(er u,_)] _ kt r4 (EI e1 e2 (cW t) (cW u))⟩
def iEn(fr:PFs):PIt:=fun env k=>fr env fun ts env1=>match ts with
 | [t]=>got (items t) fun as=>k ((p_ as.length).zipWith (fun(i:Nat) (x:T)=>T.tup [.int (i:Int),x]) (erL as)) env1
 | _=>False
theorem EX{K:NM}{t:T}{as:List T}{a:NN}(e1:items t=some as)(n1:aU t=true) :
  ItOk K (Ite K (kM t) a) ((p_ as.length).zipWith (fun(i:Nat) (x:T)=>T.tup [.int (i:Int),x]) as) [(t,some (.ref a))] where
 turn:=fun i w H Γ ei rp=>by
  have rp0:Rp K H ((t,some (.ref a))::Γ):=rp
  rw[MI]at ei
  cases h1:(p_ as.length)[i]? with
  | none=>rw[h1]at ei;cases ei
  | some j=>
   cases h2:as[i]? with
   | none=>rw[h1,h2]at ei;cases ei
   | some u=>
    rw[h1,h2]at ei
    cases ei
    have hi:i < as.length:=(f_.mp h2).1
    rw[KS hi]at h1
    cases h1
    obtain⟨a',vs,ea,ha,la,rp2⟩:=aF e1 (iu rp0 n1)
    cases ea
    obtain⟨x,ex⟩:=nL la h2
    have rp3:=hJ rp2 h2 ex
    refine⟨⟨vs,x,ha,ex⟩,fun v H' hy=>?_⟩
    obtain⟨p,x',hp,ev,eH,h3⟩:=hy
    have ex':=h3 vs ha
    rw[ex]at ex'
    cases ex'
    subst ev;subst eH
    exact zC (cz rp3 fun _=>.int) (cw hp _) aR
 stop:=fun H Γ rp=>by
  have rp0:Rp K H ((t,some (.ref a))::Γ):=rp
  obtain⟨a',vs,ea,ha,la,_⟩:=aF e1 rp0
  cases ea
  refine⟨vs,ha,?_⟩
  rw[MU,Kf,la,MZ]
theorem mn{es:List N2}{x1:Nat}{tp:Pos}(hg:Gl X "enumerate")(hm:X.mg "enumerate"=none)(ha:GA X [a] fr)(hs:N7 [a] X.env=[(false,Og a X.env)]:=by rfl) :
  GI X (.Tuple es x1 tp) (.Call (.Name "enumerate" p) [a] [] pos) (iEn fr):=by
 rintro pins s σ H R I ⟨env,Fr,k,rs,q,c⟩
 refine Dk hg hm ha hs pins s σ H R I ⟨env,Fr,_,rs,q,fun ts env1 vs H1 q1 l rs1=>?_⟩
 rcases ts with _ | ⟨t,_ | ⟨t2,ts⟩⟩
 ·exact q1.elim
 ·obtain⟨v,rfl⟩:=zz1 l rfl
  obtain⟨as,ea,kt⟩:=aI q1
  have rs1:Rs X.K H1 env1 σ ((t,some v)::Fr):=rs1
  have r2:Rs X.K H1 env1 σ ((er t,some v)::Fr):=.of rs1.1 (lC rs1.head)
  obtain⟨e1,_⟩:=kA ea
  obtain⟨a',xs,rfl,hq,l1,_⟩:=aF e1 r2.head
  rw[<-md as]at kt
  exact⟨_,a',rfl,⟨xs,hq⟩,c _ _ _ [(er t,_)] _ kt r2 (EX e1 (cW t))⟩
 exact q1.elim
end
open PySem PySem.Spec PyProof.Rows L2
def frA(fr:List (Option Nat)):List Arg:=fr.map fun o=>match o with
 | some j=>.bor j
 | none=>.val .any
def κc(fr:List (Option Nat))(j:Nat):Bool:=match fr[j]? with
 | some (some _)=>true
 | _=>false
theorem i4:∀(fr:List (Option Nat)) (σ:L2.St),jE (frA fr) (eG fr σ) σ
 | [],σ=>trivial
 | none::r,σ=>i4 r σ
 | some j::r,σ=>by
  refine⟨?_,i4 r σ⟩
  by_cases h:j < σ.length
  ·refine .inl ?_
   show σ[j]?=some ((σ[j]?).join)
   rw[b_ h]
   rfl
  exact .inr (by lia)
theorem js:∀(fr:List (Option Nat)) (τ τ':List (Option V)) (σ:L2.St),τ'.length=τ.length->(∀ j,κc fr j=true->τ'[j]?=τ[j]?)->jE (frA fr) τ σ->jE (frA fr) τ' σ
 | [],[],τ',σ,l,_,_=>by
  have:τ'=[]:=by cases τ' with | nil=>rfl | cons _ _=>cases l
  subst this
  trivial
 | [],_::_,_,_,_,_,o=>o.elim
 | none::r,[],_,_,_,_,o=>o.elim
 | some j::r,[],_,_,_,_,o=>o.elim
 | none::r,x::τ,[],σ,l,_,_=>by cases l
 | some j::r,x::τ,[],σ,l,_,_=>by cases l
 | none::r,x::τ,y::τ',σ,l,k,o=>js r τ τ' σ (by simpa using l) (fun j hj=>by simpa using k (j + 1) hj) o
 | some i::r,x::τ,y::τ',σ,l,k,o=>by
  have e:y=x:=by
   have:=k 0 rfl
   simpa using this
  subst e
  exact⟨o.1,js r τ τ' σ (by simpa using l) (fun j hj=>by simpa using k (j + 1) hj) o.2⟩
noncomputable def Eb(fr:List (Option Nat))(its:List T)(g:PG')(ft:PB)(fe:PF)(env1:Ev)(k:T->Ev->Prop):Prop:=its.length < sizeLine/\∃ W:Nat->List T->Ev->Prop,W 0 [] (lend (frA fr) env1).1/\
 (∀ i t acc ie,W i acc ie->its[i]?=some t->g t ie fun ie2=>ft ie2 fun b ie3=>cnd b (fe ie3 fun u ie4=>W (i + 1) (acc++[u]) ie4) (W (i + 1) acc ie3))/\
 ∀ acc ie,W its.length acc ie->k (.lst true acc) (back (frA fr) ie (lend (frA fr) env1).2)
def tE(fr:List (Option Nat))(fi:PIt)(g:PG')(ft:PB)(fe:PF):PF:=fun env k=>fi env fun its env1=>Eb fr its g ft fe env1 k
theorem qT:∀ fr:List (Option Nat),(frA fr).map nN=fr.map fun _=>T.any
 | []=>rfl
 | none::r=>by
  show T.any::(frA r).map nN=T.any::r.map fun _=>T.any
  rw[qT r]
 | some j::r=>by
  show T.any::(frA r).map nN=T.any::r.map fun _=>T.any
  rw[qT r]
theorem vy{K:NM}{H:Hp}{Γ:Fm}:∀(fr:List (Option Nat)) (xs:List (Option V)),Rp K H Γ->Rp K H ((fr.map fun _=>T.any).zip xs++Γ)
 | [],xs,h=>h
 | _::r,[],h=>h
 | _::r,x::xs,h=>iN (vy r xs h)
theorem Cm(fr:List (Option Nat)):(frA fr).length=fr.length:=by unfold frA;rw[a_]
theorem vd(fr:List (Option Nat))(σ:L2.St):(eG fr σ).length=fr.length:=by unfold eG;rw[a_]
theorem v8{K:NM}{fr:List (Option Nat)}{fi:PIt}{g:PG'}{ft:PB}{fe:PF}:∀ σ H Q,wE K (tE fr fi g ft fe) σ H Q->wH (wI K fi) fr (fun _ _ _=>wG K (κc fr) g) (fun _ _ _=>wB K ft) (fun _ _ _=>wE K fe) σ H Q:=by
 rintro σ H Q ⟨env,Fr,k,rs,q,c⟩
 refine⟨env,Fr,_,rs,q,?_⟩
 rintro its env1 J Fg H1 ⟨hz,W,w0,wt,we⟩ rs1 ok
 intro p hp s3 H3' fp
 have l0:Rs K H1 env1 σ (((frA fr).map nN).zip (eG fr σ)++(Fg++Fr)):=⟨rs1.1,by
  refine Rp.perm ?_ (o_ _ _ _)
  rw[qT]
  exact vy fr _ rs1.2⟩
 have l1:=jD (i4 fr σ) l0
 obtain⟨ie0,ou,e0⟩:∃ ie0 ou,lend (frA fr) env1=(ie0,ou):=⟨_,_,rfl⟩
 have lie:ie0.length=(eG fr σ).length:=by
  have:=iG (frA fr) env1
  rw[e0,Cm]at this
  rw[vd];exact this
 rw[e0]at l1 w0
 have rp0:Rp K (upd H1 p (.lst [])) ((.lst true [],some (.ref p))::(ie0.zip (eG fr σ)++(Fg++(ou.zip σ++Fr)))):=by
  refine fO (ts:=[]) (vs:=[]) (l1.2.perm ?_) rfl hp (cw hp _) aR
  show NC (ou.zip σ++(ie0.zip (eG fr σ)++(Fg++Fr))) (ie0.zip (eG fr σ)++(Fg++(ou.zip σ++Fr)))
  exact(o_ _ _ _).trans ((o_ _ _ _).append_left _)
 refine⟨fun i m σ' H'=>∃ acc ie,W i acc ie/\Rs K H' ie σ' ((.lst true acc,some (.ref p))::(Fg++(ou.zip σ++Fr)))/\Kept (κc fr) (eG fr σ) σ'/\m + i=its.length/\acc.length<=i,⟨its.length,[],ie0,w0,.of lie rp0,.refl,rfl,c_ _⟩,?_⟩
 rintro i m σ1 H2 ⟨acc,ie,w2,rs2,k2,hm,ha⟩
 have rp2:Rp K H2 (Fg++((.lst true acc,some (.ref p))::(ie.zip σ1++(ou.zip σ++Fr)))):=by
  refine rs2.head.perm ?_
  refine w_ ?_ gV.symm
  exact .cons _ (o_ _ _ _)
 by_cases hlt:i < its.length
 ·have ei:its[i]?=some its[i]:=b_ hlt
  obtain⟨hgo,hy⟩:=ok.turn i its[i] H2 _ ei rp2
  refine .inr ⟨hgo,fun x H' hx=>?_⟩
  have rp3:=hy x H' hx
  have rs3:Rs K H' ie σ1 ((its[i],some x)::((.lst true acc,some (.ref p))::(Fg++(ou.zip σ++Fr)))):=.of rs2.1 (rp3.perm (.cons _ (by
   refine gV.trans ?_
   refine w_ ?_ gV.symm
   exact .cons _ (o_ _ _ _))))
  refine⟨its[i],ie,_,_,rs3,wt i its[i] acc ie w2 ei,fun ie3 σ3 H3 q3 rs4 k4=>?_⟩
  refine⟨ie3,_,_,rs4,q3,fun b ie4 H4 q4 rs5=>ig ⟨fun hb=>?_,fun hb=>?_⟩⟩
  ·refine⟨ie4,_,_,rs5,q4.1 hb,fun u ie5 v H5 q5 rs6=>?_⟩
   have r7:=rs6.perm (.swap _ _ _)
   obtain⟨a',ys,ea,hys,ly,r8⟩:=hU r7.head
   cases ea
   refine⟨ys,hys,by rw[<-ly];exact G' ha (LR hlt hz),m - 1,by lia,acc++[u],ie5,q5,.of r7.1 ?_,k2.trans k4,by lia,by rw[h_];simp;omega⟩
   refine gM (ts:=acc++[u]) (vs:=ys++[v]) (r8.perm (.cons _ ?_)) (by rw[h_,h_,ly];rfl) Put.up
   rw[jq ly,i_]
   refine JM _ ?_
   exact gV
  exact⟨m - 1,by lia,acc,ie4,q4.2 hb,rs5,k2.trans k4,by lia,by lia⟩
 have:i=its.length:=by lia
 subst this
 refine .inl ⟨ok.stop H2 _ rp2,c _ _ _ _ (we acc ie w2) ?_⟩
 rw[e0]
 have ao:jE (frA fr) σ1 σ:=js fr (eG fr σ) σ1 σ k2.1 k2.2 (i4 fr σ)
 refine k8 ao (env:=ou) ⟨l1.1,?_⟩
 refine rp2.part.perm ?_
 refine w_ ?_ (o_ _ _ _)
 refine w_ gV.symm ?_
 exact JM _ gV.symm
def GTs(X:Cx)(ifs:List N2)(f:PB):Prop:=PTs X ifs (wB X.K f)
def jN:PB:=fun env k=>k true env
theorem cA{X:Cx}:GTs X [] jN:=fun pins s σ H Q I ⟨env,Fr,k,rs,q,c⟩=>wa pins s σ H Q I (c _ _ _ q rs)
theorem mh{X:Cx}{c:N2}{f:PB}(h:GT X c f):GTs X [c] f:=De h
theorem cF{X:Cx}{N ps:List Str}{esc:OH}(S:FnScope N ps esc)(N':List Str)(fr:List (Option Nat))(nd:N'.Nodup){elt target iter:N2}{ifs:List N2}{sc:OH}{pos:Pos}{fi:PIt}{g:PG'}{ft:PB}{fe:PF}(C:iD N esc sc N' fr=true)
  (hi:GI X target iter fi) (hg:∀ s3 H3 fp,GG (κc fr) (aY X N' sc s3 H3 fp) target g) (ht:∀ s3 H3 fp,GTs (aY X N' sc s3 H3 fp) ifs ft) (he:∀ s3 H3 fp,GE (aY X N' sc s3 H3 fp) elt fe)
  (hc:X.calm=true:=by rfl) (hN:X.N=N:=by rfl) (hS:X.env.scope=esc:=by rfl) (hs:∀ x,OC iter X.env x=pure x:=by intro _;rfl):GE X (.ListComp elt [⟨target,iter,ifs,0⟩] sc pos) (tE fr fi g ft fe):=
 PE.imp (rM S N' fr nd C hi hg ht he hc hN hS hs) v8
theorem wZ{X:Cx}{κ:Nat->Bool}{N ps:List Str}{esc:OH}(S:FnScope N ps esc){i:Nat}{x:Str}{pos pos':Pos}(N':List Str)(fr:List (Option Nat))(nd:N'.Nodup){elt target iter:N2}{ifs:List N2}{sc:OH}{pos2:Pos}{fi:PIt}{g:PG'}{ft:PB}{fe:PF}(C:iD N esc sc N' fr=true)
  (hi:X.N[i]?=some x) (hx:Loc X.env.scope x) (hκ:κ i=false) (hit:GI X target iter fi) (hg:∀ s3 H3 fp,GG (κc fr) (aY X N' sc s3 H3 fp) target g) (ht:∀ s3 H3 fp,GTs (aY X N' sc s3 H3 fp) ifs ft) (he:∀ s3 H3 fp,GE (aY X N' sc s3 H3 fp) elt fe)
  (hsw:P' (.ListComp elt [⟨target,iter,ifs,0⟩] sc pos2) (some (.Name x pos')) pos.line X.env=pure true) (hf:X.fn x=true:=by rfl)
  (hc:X.calm=true:=by rfl) (hN:X.N=N:=by rfl) (hS:X.env.scope=esc:=by rfl) (hs:∀ x,OC iter X.env x=pure x:=by intro _;rfl):GS κ X (.Assign [.Name x pos'] (.ListComp elt [⟨target,iter,ifs,0⟩] sc pos2) pos) (CJ i (tE fr fi g ft fe)):=by
 refine PS.imp (x8 S N' fr nd C hi hx hit hg ht he hsw hf hc hN hS hs) ?_
 rintro D σ H ⟨env,Fr,pe,rs,q,c⟩
 exact v8 σ H _ ⟨env,Fr,_,rs,q,fun t env' v H' q1 rs1=>c.nx _ _ _ q1 rs1.put (.set hκ)⟩
abbrev PM:=T->List T->(T->T->Prop)->Prop
noncomputable def MtP(X:Cx)(id:String)(m:PM):Prop:=MtM X id (fun x xs H Q=>∃ t ts Γ k,ts.length=xs.length/\Rp X.K H ((t,some x)::(zz ts xs++Γ))/\m t ts k/\∀ t' r v H',k t' r->Rp X.K H' ((r,some v)::(t',some x)::Γ)->Q v H')
def isL:T->Bool
 | .lst _ _=>true
 | _=>false
def vU(i:Nat)(m:PM)(fr:PFs):PF:=fun env k=>got (env[i]?) fun t0=>isL t0=true/\fr env fun ts env1=>got (env1[i]?) fun t=>m t ts fun t' r=>k r (env1.set i t')
section
variable{X:Cx}{e o:N2}{es:List N2}{fr:PFs}{fe:PF}{m:PM}{name:Str}{id:String}{apos cpos pos:Pos}
theorem CH{H:Hp}{Γ:Fm}{t:T}{v:V}(h:isL t=true)(rp:Rp X.K H ((t,some v)::Γ)):tyV X.K "list" v H:=by
 cases t <;> first | cases h | skip
 obtain⟨a,vs,rfl,hq,l,_⟩:=iV rp
 exact .inl ⟨rfl,vs,.inl hq⟩
theorem DH{t:T}(h:isL t=true):isAny t=false:=by cases t <;> first | rfl | cases h
theorem DZ{i:Nat}:∀ σ H Q,wE X.K (vU i m fr) σ H Q->tBM X.K "list" (fun x xs H Q=>∃ t ts Γ k,ts.length=xs.length/\Rp X.K H ((t,some x)::(zz ts xs++Γ))/\m t ts k/\∀ t' r v H',k t' r->Rp X.K H' ((r,some v)::(t',some x)::Γ)->Q v H') (FH i) (wA X.K fr) σ H Q:=by
 rintro σ H Q ⟨env,Fr,k,rs,q,c⟩
 obtain⟨t0,e0,hl,q⟩:=aI q
 obtain⟨y,ey,rs2⟩:=rs.slot e0
 obtain⟨v,rfl⟩:=fL rs2 (DH hl)
 refine⟨v,ey,CH hl rs2.head,env,Fr,_,rs,q,fun ts env1 vs H1 q1 l rs1=>?_⟩
 obtain⟨t,et,q1⟩:=aI q1
 obtain⟨y',ey',rs3⟩:=rs1.slot et
 rw[ey]at ey'
 cases ey'
 have hi:i < env1.length:=(f_.mp et).1
 refine⟨t,ts,(env1.set i .any).zip σ++Fr,_,l,?_,q1,fun t' r w H' kt rp=>c _ _ _ _ kt ?_⟩
 ·refine rs3.head.perm (.cons _ ?_)
  exact o_ _ _ _
 have r4:Rs X.K H' (env1.set i .any) σ ((t',some v)::(r,some w)::Fr):=.of rs3.1 (rp.perm (by
  refine w_ (.swap _ _ _) ?_
  exact .cons _ gV.symm))
 have r5:=Rs.jw (i:=i) r4 (by rw[JL];exact hi) ey
 rw[Lz]at r5
 exact r5
theorem iR(i:Nat){x:Str}{xp:Pos}(slot:Slot "list" name id)(hty:Ti (.builtin id)=pure (.type "method_descriptor"))(hm:MtP X id m)(ha:GA X (e::es) fr)(hN:X.N[i]?=some x:=by rfl)(hv:Vis X.env.scope x:=by first | exact e_ rfl | exact k_ (e_ rfl) | exact k_ (k_ rfl))(hd:(x ==("__debug__":Str))=false:=by decide)(hcd:(x ==("__classdict__":Str))=false:=by decide)
  (hbase:P0 (.Name x xp) name X.env (Og (.Name x xp) X.env)=Og (.Name x xp) X.env:=by rfl)
  (hfew:((O_ cpos (N7 (e::es) X.env)).all (fun x=>!x.1) && (S5 cpos (RQ [] X.env)).all (fun x=>x.1.isSome) && decide ((e::es).length + ([]:List QS).length + (if([]:List QS).isEmpty then 0 else 1) < 30))=true:=by rfl)
  (hline:(apos.endLine == cpos.line)=true:=by rfl) (hs:N7 (e::es) X.env=(false,Og e X.env)::N7 es X.env:=by rfl) (hplain:(O_ cpos (N7 es X.env)).any (·.1)=false:=by rfl) :
  GE X (.Call (.Attribute (.Name x xp) name apos) (e::es) [] cpos) (vU i m fr):=PE.imp (J8 RD slot hty hm (gA hN hv hd hcd) ha hbase hfew hline hs hplain) DZ
theorem mM(i:Nat){x:Str}{xp:Pos}(slot:Slot "list" name id)(hty:Ti (.builtin id)=pure (.type "method_descriptor"))(hm:MtP X id m)(hN:X.N[i]?=some x:=by rfl)(hv:Vis X.env.scope x:=by first | exact e_ rfl | exact k_ (e_ rfl) | exact k_ (k_ rfl))(hd:(x ==("__debug__":Str))=false:=by decide)(hcd:(x ==("__classdict__":Str))=false:=by decide)
  (hbase:P0 (.Name x xp) name X.env (Og (.Name x xp) X.env)=Og (.Name x xp) X.env:=by rfl) (hline:(apos.endLine == cpos.line)=true:=by rfl) :
  GE X (.Call (.Attribute (.Name x xp) name apos) [] [] cpos) (vU i m EW):=by
 refine PE.imp (EO RD slot hty hm (gA hN hv hd hcd) hbase hline) fun σ H Q h=>?_
 obtain⟨v,ev,ty,env,Fr,k,rs,q,c⟩:=DZ σ H Q h
 exact⟨v,ev,ty,c [] env [] H q rfl rs⟩
def qN:PM
 | .lst true ts,[t],k=>ts.length < sizeLine/\k (.lst true (ts++[t])) .non
 | _,_,_=>False
def qB:PM
 | .lst true ts,[.lst true us],k=>ts.length + us.length<=sizeLine/\k (.lst true (ts++us)) .non
 | _,_,_=>False
def nR:PM
 | .lst true ts,[],k=>k (.lst true ts.reverse) .non
 | _,_,_=>False
theorem gj:MtP X "list.append" qN:=by
 rintro pins s σ H x xs v us Q I rx r ⟨t,ts,Γ,k,l,rp,g,c⟩
 unfold qN at g
 split at g
 ·rename_i k ts t
  obtain⟨y,rfl⟩:=zz1 l rfl
  obtain⟨a,vs,ea,ha,la,rp2⟩:=hU rp
  cases ea
  refine uI pins s σ H _ _ v us Q I rx r ⟨a,vs,y,rfl,rfl,ha,by rw[<-la];exact g.1,fun H' hp=>c _ _ _ _ g.2 (cz ?_ fun _=>.non)⟩
  refine gM (ts:=ts++[t]) (vs:=vs++[y]) ?_ (by rw[h_,h_,la];rfl) hp
  rw[jq la,i_]
  exact rp2
 exact N4 g
theorem uY:MtP X "list.extend" qB:=by
 rintro pins s σ H x xs v us Q I rx r ⟨t,ts,Γ,k,l,rp,g,c⟩
 unfold qB at g
 split at g
 ·rename_i k ts us'
  obtain⟨y,rfl⟩:=zz1 l rfl
  obtain⟨a,vs,ea,ha,la,rp2⟩:=hU rp
  cases ea
  have rp3:Rp X.K H ((.lst true us',some y)::(.bare,some (.ref a))::(zz ts vs++Γ)):=rp2.perm (by
   refine w_ (.cons _ gV) ?_
   exact .swap _ _ _)
  obtain⟨b,ws,eb,hb,lb,rp4⟩:=hU rp3
  cases eb
  have rp5:Rp X.K H ((.bare,some (.ref a))::(zz (ts++us') (vs++ws)++Γ)):=by
   rw[jq la,i_]
   refine rp4.tail.perm ?_
   refine gV.trans (.cons _ ?_)
   exact o_ _ _ _
  exact ux pins s σ H _ _ v us Q I rx r ⟨a,b,vs,ws,rfl,rfl,ha,hb,by rw[<-la,<-lb];exact g.1,fun H' hp=>c _ _ _ _ g.2 (cz (gM rp5 (by rw[h_,h_,la,lb]) hp) fun _=>.non)⟩
 exact N4 g
theorem yW:∀ {ts:List T} {vs:List V},ts.length=vs.length->zz ts.reverse vs.reverse=(zz ts vs).reverse
 | [],[],_=>rfl
 | [],_::_,l=>by cases l
 | _::_,[],l=>by cases l
 | t::ts,v::vs,l=>by
  have l':ts.length=vs.length:=by simpa using l
  rw[K8,K8,jq (by rw[Ko,Ko];exact l'),yW l']
  show _=((t,some v)::zz ts vs).reverse
  rw[K8]
  rfl
theorem iO:MtP X "list.reverse" nR:=by
 rintro pins s σ H x xs v us Q I rx r ⟨t,ts,Γ,k,l,rp,g,c⟩
 unfold nR at g
 split at g
 ·rename_i k ts
  have:xs=[]:=by cases xs with | nil=>rfl | cons _ _=>cases l
  subst this
  obtain⟨a,vs,ea,ha,la,rp2⟩:=hU rp
  cases ea
  refine uA pins s σ H _ _ v us Q I rx r ⟨a,vs,rfl,rfl,ha,c _ _ _ _ g (cz (gM (ts:=ts.reverse) (vs:=vs.reverse) (rp2.perm (.cons _ ?_)) (by rw[Ko,Ko,la]) Put.up) fun _=>.non)⟩
  rw[yW la]
  exact(Na _).symm.append_right _
 exact N4 g
end
def outs(ms:List Bool)(env:Ev):List T:=ms.zipWith (fun b t=>if b then t else .any) env
def κm(ms:List Bool)(j:Nat):Bool:=match ms[j]? with
 | some b=>b
 | none=>false
theorem jR{K:NM}{H:Hp}{Γ:Fm}:∀ {ms:List Bool} {env:Ev} {σ:L2.St} {vs:List V},ms.length=vs.length->(∀ j,κm ms j=true->σ[j]?=(vs[j]?).map some)->Rp K H (env.zip σ++Γ)->Rp K H (zz (outs ms env) vs++Γ)
 | [],env,σ,vs,l,k,h=>h.part
 | _::_,_,_,[],l,_,_=>by cases l
 | m::ms,[],σ,v::vs,l,k,h=>h
 | m::ms,t::env,[],v::vs,l,k,h=>by
  have ih:=jR (ms:=ms) (env:=env) (σ:=[]) (vs:=vs) (by simpa using l) (fun j hj=>by
   have:=k (j + 1) hj
   simpa using this) (by simpa using h)
  cases m with
  | true=>have:=k 0 rfl;simp at this
  | false=>exact iN ih
 | m::ms,t::env,x::σ,v::vs,l,k,h=>by
  have h:Rp K H ((t,x)::(env.zip σ++Γ)):=h
  have ks:∀ j,κm ms j=true->σ[j]?=(vs[j]?).map some:=fun j hj=>by
   have:=k (j + 1) hj
   simpa using this
  cases m with
  | true=>
   have e:x=some v:=by
    have:=k 0 rfl
    simpa using this
   subst e
   have h2:Rp K H (env.zip σ++((t,some v)::Γ)):=h.perm gV.symm
   exact(jR (ms:=ms) (by simpa using l) ks h2).perm gV
  | false=>exact iN (jR (ms:=ms) (by simpa using l) ks h.tail)
theorem zg{K:NM}{H:Hp}{Γ:Fm}{ts:List T}{vs:List V}(l:ts.length=vs.length)(n:Nat)(h:Rp K H (zz ts vs++Γ)):Rp K H ((ts++J_ n T.any).zip (vs.map some++J_ n none)++Γ):=by
 rw[Ny (by rw[a_];exact l),i_]
 have:∀ n,Rp K H (zz ts vs++((J_ n T.any).zip (J_ n (none:Option V))++Γ)):=by
  intro n
  induction n with
  | zero=>exact h
  | succ n ih=>
   rw[MV,MV]
   exact(iN (x:=none) ih).perm gV.symm
 exact this n
theorem cq{P:NW}{w:N3}{K:NM}{mg:Str->Option NK}{base:N5}{x qual:Str}{st:Of}{f:NN}{fd:N9}{N ps:List Str}{k:Nat}{Pr:FP}(F:Fun K x qual st f fd)(S:FnScope N ps (aA st))(ms:List Bool)(hms:ms.length=ps.length)
  (body:∀(cdv:NK) (A:N_) (outer:List Env) (s:NO) (H:Hp) (E:XK),Room k (A.deeper (QE qual (aA st) s.heap.objs.size f cdv))->
   ∃ fb,GSs (κm ms) (vj CX0 P w K mg base N qual (aA st) f cdv A outer s H E).nox (fF st) fb/\∀ ts kk,ts.length=ps.length->Pr ts kk->fb { nx:=fun env=>kk .non (outs ms env),rt:=fun t env=>kk t (outs ms env) } (ts++J_ (N.length - ps.length) .any)) :
  FnOk P w K mg base CX0 (k + 1) f fd ps (aM K ps.length Pr):=by
 refine F.ok S (fun vs H Q E ⟨ts,Fr,kk,h1,h2,_⟩=>h2) (fun cdv A outer s H vs Q E hr ⟨ts,Fr,kk,h1,h2,rp,pr,c⟩=>?_)
 obtain⟨fb,hb,q⟩:=body cdv A outer s H E hr
 refine⟨_,hb,ts++J_ (N.length - ps.length) .any,Fr,_,?_,q ts kk (by rw[h1,h2]) pr,?_⟩
 ·unfold L2.start
  rw[h2]
  refine⟨by simp[h1],zg h1 _ rp⟩
 have kv:∀ {σ'},Kept (κm ms) (L2.start N vs) σ'->∀ j,κm ms j=true->σ'[j]?=(vs[j]?).map some:=fun{σ'} kp j hj=>by
  rw[kp.2 j hj]
  unfold L2.start
  have hj2:j < vs.length:=by
   rw[h2,<-hms]
   unfold κm at hj
   split at hj
   ·rename_i b e
    exact(f_.mp e).1
   cases hj
  rw[KC (by rw[a_];exact hj2),s_]
 refine⟨fun env' σ' H' q' rs' k'=>c _ _ _ _ q' ?_,fun t env' v σ' H' q' rs' k'=>c _ _ _ _ q' ?_,fun _ _ _ z=>z.elim,fun _ _ _ z=>z.elim⟩
 ·exact cz (jR (by rw[hms,h2]) (kv k') rs'.2) fun _=>.non
 exact(jR (Γ:=(t,some v)::Fr) (by rw[hms,h2]) (kv k') rs'.2).perm gV
open PySem PySem.Spec PyProof.Rows L2
section
variable{X:Cx}{pos:Pos}
theorem B8{st:Of}{te:TE}{i:Nat}(h:PS X st (CM te (xq i))):PS X st (fun D σ H=>te σ H fun v H'=>Gr H H'/\D.nx (σ.set i (some v)) (over H H')):=by
 intro pins s σ H D I q
 have key:=h pins s σ H { nx:=fun σ' H'=>Gr H H'/\D.nx σ' (over H H'),rt:=fun _ _=>False } I q
 refine thn key fun f s' hs=>?_
 cases f with
 | next=>
  obtain⟨σ',H',I',g,q'⟩:=hs
  exact⟨σ',over H H',mY I I' g,q'⟩
 | brk=>obtain⟨_,_,_,z⟩:=hs;exact z.elim
 | cont=>obtain⟨_,_,_,z⟩:=hs;exact z.elim
 | ret u=>obtain⟨_,_,_,_,_,z⟩:=hs;exact z.elim
theorem Dn{K:NM}{f:PF}{σ:L2.St}{H:Hp}{Q:VK}(h:wE K (fQ f) σ H Q):wE K f σ H fun v H'=>Gr H H'/\Q v (over H H'):=by
 obtain⟨env,Fr,k,rs,q,c⟩:=h
 have rv:Rs K H (erL env) σ ((Fr.map fun p=>(er p.1,p.2))++[(.kp H,some .non)]):=by
  refine⟨by rw[md];exact rs.1,?_⟩
  have:=pU rs.2
  rw[r_,mJ,i_]at this
  exact this
 refine⟨erL env,_,_,rv,q,?_⟩
 rintro t env' v H' ⟨n,kt⟩ rs'
 obtain⟨g,r2⟩:=qh rs.2 (Δ:=env'.zip σ++(Fr.map fun p=>(er p.1,p.2))) (by rw[i_];exact rs'.head) n
 exact⟨g,c t env v _ kt (.of rs.1 r2)⟩
theorem nz{κ:Nat->Bool}{N ps:List Str}{esc:OH}(S:FnScope N ps esc){i:Nat}{x:Str}{pos pos':Pos}(N':List Str)(fr:List (Option Nat))(nd:N'.Nodup){elt target iter:N2}{ifs:List N2}{sc:OH}{pos2:Pos}{fi:PIt}{g:PG'}{ft:PB}{fe:PF}(C:iD N esc sc N' fr=true)
  (hi:X.N[i]?=some x) (hx:Loc X.env.scope x) (hκ:κ i=false) (hit:GI X target iter fi) (hg:∀ s3 H3 fp,GG (κc fr) (aY X N' sc s3 H3 fp) target g) (ht:∀ s3 H3 fp,GTs (aY X N' sc s3 H3 fp) ifs ft) (he:∀ s3 H3 fp,GE (aY X N' sc s3 H3 fp) elt fe)
  (hsw:P' (.ListComp elt [⟨target,iter,ifs,0⟩] sc pos2) (some (.Name x pos')) pos.line X.env=pure true) (hf:X.fn x=true:=by rfl)
  (hc:X.calm=true:=by rfl) (hN:X.N=N:=by rfl) (hS:X.env.scope=esc:=by rfl) (hs:∀ x,OC iter X.env x=pure x:=by intro _;rfl):GS κ X (.Assign [.Name x pos'] (.ListComp elt [⟨target,iter,ifs,0⟩] sc pos2) pos) (CJ i (fQ (tE fr fi g ft fe))):=by
 refine PS.imp (B8 (x8 S N' fr nd C hi hx hit hg ht he hsw hf hc hN hS hs)) ?_
 rintro D σ H ⟨env,Fr,pe,rs,q,c⟩
 exact v8 σ H _ (Dn (Q:=fun v H'=>D.nx (σ.set i (some v)) H') ⟨env,Fr,_,rs,q,fun t env' v H' q1 rs1=>c.nx _ _ _ q1 rs1.put (.set hκ)⟩)
def Glb(K:NM)(mg:Str->Option NK)(x:Str)(t:T):Prop:=∃ v u,mg x=some u/\RelV v u/\∀ Hz H,RepT K Hz H t v []
theorem Jl{x:Str}{t:T}(G:Glb X.K X.mg x t)(hg:Gl X x)(hd:(x ==("__debug__":Str))=false:=by decide):GE X (.Name x pos) (fK t):=by
 obtain⟨v,u,hm,r,ht⟩:=G
 exact Cz hg hm r ht hd
theorem qq:GE X (.Dict [] [] pos) (fK (.dT true [])):=PE.imp AA fun σ H Q ⟨env,Fr,k,rs,q,c⟩=>fun p hp=>c _ _ _ _ q (.of rs.1 (BG rs.2 hp (cw hp _) aR))
end
section
variable{κ':Type}[DecidableEq κ']
theorem tS:∀ {ts:List (κ' × T)} {vs:List (κ' × V)} (q:κ') (t:T) (w:V),ts.map (·.1)=vs.map (·.1)->(kz ts q t).map (·.1)=(putK vs q w).map (·.1):=by
 intro ts vs q t w e
 have ha:(ts.any fun kv=>decide (kv.1=q))=(vs.any fun kv=>decide (kv.1=q)):=by
  have e1:(ts.any fun kv=>decide (kv.1=q))=(ts.map (·.1)).any fun k=>decide (k=q):=by rw[M4];rfl
  have e2:(vs.any fun kv=>decide (kv.1=q))=(vs.map (·.1)).any fun k=>decide (k=q):=by rw[M4];rfl
  rw[e1,e2,e]
 unfold kz putK
 rw[ha]
 split
 ·rw[H_,H_]
  have f1:((fun x:κ' × T=>x.1) ∘ fun kv=>if kv.1=q then(kv.1,t)else kv)=fun x=>x.1:=by funext kv;show(if kv.1=q then(kv.1,t)else kv).1=kv.1;split <;> rfl
  have f2:((fun x:κ' × V=>x.1) ∘ fun kv=>if kv.1=q then(kv.1,w)else kv)=fun x=>x.1:=by funext kv;show(if kv.1=q then(kv.1,w)else kv).1=kv.1;split <;> rfl
  rw[f1,f2,e]
 rw[r_,r_,e]
 rfl
theorem ot:∀ {ts:List (κ' × T)} {vs:List (κ' × V)} (q:κ') (t:T) (w:V),ts.map (·.1)=vs.map (·.1)->(vs.map (·.1)).Nodup->∃ r,((t,some w)::zz (ts.map (·.2)) (vs.map (·.2))).Perm (r++zz ((kz ts q t).map (·.2)) ((putK vs q w).map (·.2))):=by
 intro ts vs q t w e nd
 by_cases hm:q∈vs.map (·.1)
 ·
  have ha:(vs.any fun kv=>decide (kv.1=q))=true:=by
   obtain⟨kv,h1,h2⟩:=y_.mp hm
   exact Ll.mpr ⟨kv,h1,decide_eq_true h2⟩
  have hb:(ts.any fun kv=>decide (kv.1=q))=true:=by
   rw[<-e]at hm
   obtain⟨kv,h1,h2⟩:=y_.mp hm
   exact Ll.mpr ⟨kv,h1,decide_eq_true h2⟩
  unfold kz putK
  rw[if_pos ha,if_pos hb]
  clear ha hb
  induction ts generalizing vs with
  | nil=>
   have:vs=[]:=by cases vs with | nil=>rfl | cons _ _=>cases e
   subst this
   cases hm
  | cons a ts ih=>
   cases vs with
   | nil=>cases e
   | cons b vs=>
    obtain⟨k1,t1⟩:=a
    obtain⟨k2,v1⟩:=b
    rw[d_,d_,Kg]at e
    have ek:k1=k2:=e.1
    subst ek
    rw[d_,JK]at nd
    by_cases hk:k1=q
    ·subst hk
     have n1:∀ kv∈ts,kv.1≠k1:=fun kv hkv z=>nd.1 (by
      rw[<-e.2]
      exact y_.mpr ⟨kv,hkv,z⟩)
     have n2:∀ kv∈vs,kv.1≠k1:=fun kv hkv z=>nd.1 (y_.mpr ⟨kv,hkv,z⟩)
     have m1:ts.map (fun kv=>if kv.1=k1 then(kv.1,t)else kv)=ts:=by
      conv=>rhs;rw[<-Nd ts]
      exact JV fun kv hkv=>if_neg (n1 kv hkv)
     have m2:vs.map (fun kv=>if kv.1=k1 then(kv.1,w)else kv)=vs:=by
      conv=>rhs;rw[<-Nd vs]
      exact JV fun kv hkv=>if_neg (n2 kv hkv)
     refine⟨[(t1,some v1)],?_⟩
     simp only[d_,if_true,m1,m2]
     exact .swap _ _ _
    have hm':q∈vs.map (·.1):=by
     rcases t_.mp hm with z | z
     ·exact absurd z.symm hk
     exact z
    obtain⟨r,p⟩:=ih e.2 nd.2 hm'
    refine⟨r,?_⟩
    simp only[d_,if_neg hk]
    show NC ((t,some w)::(t1,some v1)::zz (ts.map (·.2)) (vs.map (·.2))) (r++((t1,some v1)::zz ((ts.map fun kv=>if kv.1=q then(kv.1,t)else kv).map (·.2)) ((vs.map fun kv=>if kv.1=q then(kv.1,w)else kv).map (·.2))))
    exact(KO _ _ _).trans ((p.cons _).trans gV.symm)
 have ha:(vs.any fun kv=>decide (kv.1=q))=false:=by
  rw[K9]
  intro z
  obtain⟨kv,h1,h2⟩:=Ll.mp z
  exact hm (y_.mpr ⟨kv,h1,of_decide_eq_true h2⟩)
 have hb:(ts.any fun kv=>decide (kv.1=q))=false:=by
  rw[K9]
  intro z
  obtain⟨kv,h1,h2⟩:=Ll.mp z
  exact hm (by rw[<-e];exact y_.mpr ⟨kv,h1,of_decide_eq_true h2⟩)
 unfold kz putK
 rw[ha,hb]
 refine⟨[],?_⟩
 simp only[B_,if_false,LV]
 rw[r_,r_,jq (by rw[a_,a_];exact d8 e)]
 exact(JX (l₁:=[(t,some w)]))
end
noncomputable def Ca:T->T->T->(T->Prop)->Prop
 | .lst true ts,.int i,v,k=>got (ixN ts.length i) fun j=>k (.lst true (ts.set j v))
 | .dK true kvs,y,v,k=>got (rS y) fun q=>kvs.length < sizeLine/\k (.dK true (kz kvs q v))
 | .dT true kvs,.tup ks,v,k=>got (i9 ks) fun q=>kvs.length < sizeLine/\k (.dT true (kz kvs q v))
 | _,_,_,_=>False
section
variable{X:Cx}{κ:Nat->Bool}{pos:Pos}
theorem AM{P:NW}{w:N3}{H:Hp}{h:N5}{a:NN}{kvs:List (List Key × V)}(ok:HOk P w H h)(e:H a=some (.dT kvs)):(kvs.map (·.1)).Nodup:=by
 obtain⟨z,y,xs,r,o,es,ep,h1,h2,h3,h4,h5⟩:=ok a _ e
 have:kvs.map (·.1)=xs.map (·.1):=by
  clear h4 h5 h1 z e
  induction r with
  | nil=>rfl
  | cons q _ ih=>rw[d_,d_,ih,q.1]
 rw[this];exact h5
theorem Af{P:NW}{w:N3}{H:Hp}{h:N5}{a:NN}{kvs:List (Key × V)}(ok:HOk P w H h)(e:H a=some (.dK kvs)):(kvs.map (·.1)).Nodup:=by
 obtain⟨z,y,vs,r,o,es,ep,h1,h2,h3,h4,h5,h6⟩:=ok a _ e
 have:kvs.map (·.1)=vs.map (·.1):=by
  clear h6 h5 h4 h1 z e
  induction r with
  | nil=>rfl
  | cons q _ ih=>rw[d_,d_,ih,q.1]
 rw[this];exact h6
theorem Au:∀ {ts:List T} {vs:List V} {j:Nat} {t:T} {w:V},ts.length=vs.length->j < ts.length->∃ r,((t,some w)::zz ts vs).Perm (r::zz (ts.set j t) (vs.set j w))
 | [],vs,j,t,w,l,h=>by cases h
 | a::ts,[],j,t,w,l,h=>by cases l
 | a::ts,b::vs,0,t,w,l,h=>⟨(a,some b),.swap _ _ _⟩
 | a::ts,b::vs,j + 1,t,w,l,h=>by
  obtain⟨r,p⟩:=Au (ts:=ts) (vs:=vs) (j:=j) (t:=t) (w:=w) (by simpa using l) (by simpa using h)
  exact⟨r,(KO _ _ _).trans ((p.cons _).trans (.swap _ _ _))⟩
theorem Hv{kr:Nat}(hr:Room kr X.A):uN X (fun o i v H Q=>∃ t ti tv Γ k,Rp X.K H ((t,some o)::(ti,some i)::(tv,some v)::Γ)/\Ca t ti tv k/\∀ t' H',k t'->Rp X.K H' ((t',some o)::Γ)->Q H'):=by
 rintro pins s σ H o i v ov iv u Q I ro ri rv ⟨t,ti,tv,Γ,k,rp,g,c⟩
 cases t with
 | lst own ts=>
  cases own <;> cases ti <;> first | exact N4 g | skip
  rename_i j
  obtain⟨m,em,kt⟩:=aI g
  rw[aV rp.tail]at ri
  obtain⟨a,vs,ea,ha,la,rp2⟩:=hU rp
  cases ea
  have hm:m < ts.length:=by have:=(qV em).2.1;exact this
  rw[la]at em
  refine yc pins s σ H _ _ v ov iv u Q I ro ri rv ⟨a,vs,j,m,rfl,rfl,ha,em,fun H' hp=>c _ _ kt ?_⟩
  obtain⟨r,p⟩:=Au (t:=tv) (w:=v) la hm
  have rp3:Rp X.K H ((.bare,some (.ref a))::(zz ts vs++((tv,some v)::Γ))):=by
   have:Rp X.K H ((.int j,some i)::((.bare,some (.ref a))::(zz ts vs++((tv,some v)::Γ)))):=rp2.perm (by
    refine w_ (.cons _ gV) ?_
    exact .swap _ _ _)
   exact this.tail
  have rp4:Rp X.K H (r::((.bare,some (.ref a))::(zz (ts.set m tv) (vs.set m v)++Γ))):=rp3.perm (by
   refine w_ (.cons _ (gV.trans (p.append_right Γ))) ?_
   exact .swap _ _ _)
  exact gM rp4.tail (by rw[JL,JL,la]) hp
 | dK own kvs=>
  cases own <;> first | exact N4 g | skip
  have g:got (rS ti) fun q=>kvs.length < sizeLine/\k (.dK true (kz kvs q tv)):=by cases ti <;> exact g
  obtain⟨q,eq,hz,kt⟩:=aI g
  rw[qA eq rp.tail]at ri
  obtain⟨a,vs,ea,ha,la,rp2⟩:=sS rp
  cases ea
  cases ro
  have hl:vs.length < sizeLine:=by rw[<-d8 la];exact hz
  refine kD (iF hr) I (.inl ⟨vs,q,ha,rfl,hl,rfl⟩) ri rv fun s' I'=>⟨_,I',c _ _ kt ?_⟩
  obtain⟨r,p⟩:=ot q tv v la (Af I.hok ha)
  have rp3:Rp X.K H ((.bare,some (.ref a))::(zz (kvs.map (·.2)) (vs.map (·.2))++((tv,some v)::Γ))):=by
   have:Rp X.K H ((ti,some i)::((.bare,some (.ref a))::(zz (kvs.map (·.2)) (vs.map (·.2))++((tv,some v)::Γ)))):=rp2.perm (by
    refine w_ (.cons _ gV) ?_
    exact .swap _ _ _)
   exact this.tail
  have rp4:Rp X.K H (r++((.bare,some (.ref a))::(zz ((kz kvs q tv).map (·.2)) ((putK vs q v).map (·.2))++Γ))):=rp3.perm (by
   refine w_ (.cons _ (gV.trans (p.append_right Γ))) ?_
   rw[i_]
   exact gV.symm)
  exact oJ rp4.part (tS q tv v la) Put.up
 | dT own kvs=>
  cases own <;> cases ti <;> first | exact N4 g | skip
  rename_i ks
  obtain⟨q,eq,hz,kt⟩:=aI g
  obtain⟨b,rfl,hb⟩:=jG eq rp.tail
  obtain⟨a,vs,ea,ha,la,rp2⟩:=mO rp
  cases ea
  cases ro
  have hl:vs.length < sizeLine:=by rw[<-d8 la];exact hz
  refine kD (iF hr) I (.inr ⟨vs,q,b,ha,rfl,hb,hl,rfl⟩) ri rv fun s' I'=>⟨_,I',c _ _ kt ?_⟩
  obtain⟨r,p⟩:=ot q tv v la (AM I.hok ha)
  have rp3:Rp X.K H ((.bare,some (.ref a))::(zz (kvs.map (·.2)) (vs.map (·.2))++((tv,some v)::Γ))):=by
   have:Rp X.K H ((.tup ks,some (.ref b))::((.bare,some (.ref a))::(zz (kvs.map (·.2)) (vs.map (·.2))++((tv,some v)::Γ)))):=rp2.perm (by
    refine w_ (.cons _ gV) ?_
    exact .swap _ _ _)
   exact this.tail
  have rp4:Rp X.K H (r++((.bare,some (.ref a))::(zz ((kz kvs q tv).map (·.2)) ((putK vs q v).map (·.2))++Γ))):=rp3.perm (by
   refine w_ (.cons _ (gV.trans (p.append_right Γ))) ?_
   rw[i_]
   exact gV.symm)
  exact oR rp4.part (tS q tv v la) Put.up
 | _=>cases ti <;> exact N4 g
def DR(i:Nat)(fi:PF):PG':=fun v env k=>got (env[i]?) fun t0=>isAny t0=false/\fi env fun ti env1=>got (env1[i]?) fun t=>Ca t ti v fun t'=>k (env1.set i t')
theorem uh{kr i:Nat}{x:Str}{xp:Pos}{ix:N2}{fi:PF}(hr:Room kr X.A)(hi:GE X ix fi)(hN:X.N[i]?=some x:=by rfl)(hv:Vis X.env.scope x:=by first | exact e_ rfl | exact k_ (e_ rfl) | exact k_ (k_ rfl))(hd:(x ==("__debug__":Str))=false:=by decide)(hcd:(x ==("__classdict__":Str))=false:=by decide)
  (ha:∀ v,Qa (.Subscript (.Name x xp) ix pos) X.env v=(do
   let ov <-Qy [v] (Og (.Name x xp) X.env)
   let iv <-Qy [v,ov] (Og ix X.env)
   SG pos
   Qy [v,ov,iv] (TB ov iv v)
   release [v,ov,iv] []):=by intro _;rfl):GG κ X (.Subscript (.Name x xp) ix pos) (DR i fi):=by
 rintro pins s σ H v u Q I r ⟨tv,env,Fr,k,rs,q,c⟩
 obtain⟨t0,e0,na,q⟩:=aI q
 obtain⟨y,ey,rs2⟩:=rs.slot e0
 obtain⟨w,rfl⟩:=fL rs2 na
 refine zk (gA hN hv hd hcd) hi (Hv hr) ha pins s σ H v u Q I r ⟨w,ey,env,(tv,some v)::Fr,_,rs,q,fun ti env1 iv H1 q1 rs1=>?_⟩
 obtain⟨t,et,q1⟩:=aI q1
 obtain⟨y',ey',rs3⟩:=rs1.slot et
 rw[ey]at ey'
 cases ey'
 have hi':i < env1.length:=(f_.mp et).1
 refine⟨t,ti,tv,(env1.set i .any).zip σ++Fr,_,?_,q1,fun t' H' kt rp=>c _ _ _ kt ?_ .refl⟩
 ·refine rs3.head.perm (.cons _ ?_)
  refine w_ gV (.cons _ ?_)
  exact gV
 have r4:Rs X.K H' (env1.set i .any) σ ((t',some w)::Fr):=.of rs3.1 rp
 have r5:=Rs.jw (i:=i) r4 (by rw[JL];exact hi') ey
 rw[Lz]at r5
 exact r5
end
open PySem PySem.Spec PyProof.Rows L2
class Th (α:Type) where
 v:α
def Ig(P:FP)(ts:List T)[k:Th (T->List T->Prop)]:Prop:=P ts k.v
def kW(b:Bool)[A:Th Prop][B:Th Prop]:Prop:=cnd b A.v B.v
def eP{α:Type}(o:Option α)[k:Th (α->Prop)]:Prop:=got o k.v
def DS(fr:List (Option Nat))(its:List T)(g:PG')(ft:PB)(fe:PF)(env:Ev)[k:Th (T->Ev->Prop)]:Prop:=Eb fr its g ft fe env k.v
theorem bW{α:Type}{u:α}{k:Th (α->Prop)}:eP (some u) (k:=k)=k.v u:=rfl
theorem bz{α:Type}{o:Option α}{u:α}{k:Th (α->Prop)}(e:o=some u)(h:k.v u):eP o (k:=k):=Ad e h
theorem sE{A B:Th Prop}:kW true (A:=A) (B:=B)=A.v:=propext ⟨fun h=>h.1 rfl,fun h=>Hf h⟩
theorem oI{A B:Th Prop}:kW false (A:=A) (B:=B)=B.v:=propext ⟨fun h=>h.2 rfl,fun h=>IS h⟩
theorem BC{b:Bool}{A B:Th Prop}:kW (!b) (A:=A) (B:=B)=kW b (A:=B) (B:=A):=by cases b <;> simp only[MP,ME,sE,oI]
theorem v5{b:Bool}{A B:Th Prop}(h1:b=true->A.v)(h2:b=false->B.v):kW b (A:=A) (B:=B):=⟨h1,h2⟩
theorem aN{p:Prop}{d:Decidable p}{A B:Th Prop}(h1:p->A.v)(h2:¬ p->B.v):kW (decide p) (A:=A) (B:=B):=⟨fun h=>h1 (of_decide_eq_true h),fun h=>h2 (of_decide_eq_false h)⟩
section
variable{f g:PF}{env:Ev}{k:T->Ev->Prop}{kb:Bool->Ev->Prop}{tc td:PB}{pe:PEn}{u v:PSt}{fs:PFs}{fa:PAs}{ks:List T->Ev->Prop}{ka:List Arg->Ev->Prop}
theorem hC:fQ f env k=f (erL env) fun t _=>cD t=true/\k t env:=rfl
theorem fj:fQT tc env kb=tc (erL env) fun b _=>kb b env:=rfl
theorem gR{t:T}:fK t env k=k t env:=rfl
theorem BK{i:Nat}:BX i env k=eP (env[i]?) (k:=⟨fun t=>isAny t=false/\aU t=true/\k t env⟩):=by unfold BX;cases env[i]? <;> rfl
theorem GX{i:Nat}:fFz i env k=eP (env[i]?) (k:=⟨fun t=>isAny t=false/\k (er t) (env.set i (er t))⟩):=by unfold fFz;cases env[i]? <;> rfl
theorem G7{i:Nat}:fMv i env k=eP (env[i]?) (k:=⟨fun t=>isAny t=false/\k t (env.set i .any)⟩):=by unfold fMv;cases env[i]? <;> rfl
theorem eC{p:P2}:yN p f g env k=f env fun x env1=>g env1 fun y env2=>p x y fun t=>k t env2:=rfl
theorem Ff{p:T->(T->Prop)->Prop}:fUn p f env k=f env fun t env1=>p t fun u=>k u env1:=rfl
def asB(t:T)[k:Th (Bool->Prop)]:Prop:=match t with
 | .bl b=>k.v b
 | _=>False
theorem fA{b:Bool}{k:Th (Bool->Prop)}:asB (.bl b) (k:=k)=k.v b:=rfl
theorem dZ:BM f env kb=f env fun t env1=>asB t (k:=⟨fun b=>kb b env1⟩):=rfl
theorem CQ:J4 f env kb=f env fun t env1=>F2 t fun b=>kb b env1:=rfl
theorem yr{p q:P2}{h:PF}:qJ p q f g h env k=f env fun x env1=>g env1 fun y env2=>aU y=true/\p x y fun z=>asB z (k:=⟨fun b=>kW b (A:=⟨h env2 fun u env3=>q y u fun t=>k t env3⟩) (B:=⟨k (.bl false) env2⟩)⟩):=rfl
theorem Bt:Ed tc td env kb=tc env fun b env1=>kW b (A:=⟨td env1 kb⟩) (B:=⟨kb false env1⟩):=rfl
theorem Cd:J2 tc td env kb=tc env fun b env1=>kW b (A:=⟨kb true env1⟩) (B:=⟨td env1 kb⟩):=rfl
theorem A6:E4 tc env kb=tc env fun b env1=>kb (!b) env1:=rfl
theorem Co:IU f g env k=f env fun t env1=>asB t (k:=⟨fun b=>kW b (A:=⟨g env1 k⟩) (B:=⟨k (.bl false) env1⟩)⟩):=rfl
theorem G3:fOr f g env k=f env fun t env1=>asB t (k:=⟨fun b=>kW b (A:=⟨k (.bl true) env1⟩) (B:=⟨g env1 k⟩)⟩):=rfl
theorem dw:EW env ks=ks [] env:=rfl
theorem cO:El f fs env ks=f env fun t env1=>fs env1 fun ts env2=>ks (t::ts) env2:=rfl
theorem eA:Im fs env k=fs env fun ts env1=>ts.length<=sizeLine/\k (.tup ts) env1:=rfl
theorem de:Hd fs env k=fs env fun ts env1=>ts.length<=sizeLine/\k (.lst true ts) env1:=rfl
theorem fB{p:P1s}:fCl p fs env k=fs env fun ts env1=>p ts fun t=>k t env1:=rfl
theorem dI:HG env ka=ka [] env:=rfl
theorem dv:Hk f fa env ka=f env fun t env1=>fa env1 fun as env2=>ka (.val t::as) env2:=rfl
theorem BL{i:Nat}:Ep i fa env ka=eP (env[i]?) (k:=⟨fun t=>isAny t=false/\fa env fun as env2=>ka (.bor i::as) env2⟩):=by
 unfold Ep
 cases env[i]? with
 | none=>exact propext ⟨fun h=>h.1,fun h=>h.elim⟩
 | some t=>rfl
theorem dq{n:Nat}{P:FP}:F0 n P fa env k=fa env fun as env1=>as.length=n/\Ig P (lend as env1).1 (k:=⟨fun t ts'=>k t (back as ts' (lend as env1).2)⟩):=rfl
theorem cT{fr:List (Option Nat)}{fi:PIt}{gt:PG'}{ft:PB}{fe:PF}:tE fr fi gt ft fe env k=fi env fun its env1=>DS fr its gt ft fe env1 (k:=⟨k⟩):=rfl
theorem zR{i:Nat}{m:PM}:vU i m fs env k=eP (env[i]?) (k:=⟨fun t0=>isL t0=true/\fs env fun ts env1=>eP (env1[i]?) (k:=⟨fun t=>m t ts fun t' r=>k r (env1.set i t')⟩)⟩):=rfl
theorem FF{fl fh:PO'}:fSl f fl fh env k=f env fun t env1=>fl env1 fun lo env2=>fh env2 fun hi env3=>slT t lo hi fun u=>k u env3:=rfl
theorem D7{ko:Option Int->Ev->Prop}:Hl env ko=ko none env:=rfl
def asI(t:T)[k:Th (Int->Prop)]:Prop:=match t with
 | .int b=>k.v b
 | _=>False
theorem Ck{b:Int}{k:Th (Int->Prop)}:asI (.int b) (k:=k)=k.v b:=rfl
theorem DF{ko:Option Int->Ev->Prop}:HZ f env ko=f env fun t env1=>asI t (k:=⟨fun i=>ko (some i) env1⟩):=rfl
theorem cZ:Ee pe env=pe.nx env:=rfl
theorem dR:HU u v pe env=u { pe with nx:=v pe } env:=rfl
theorem AV:DT f pe env=f env fun _ env1=>pe.nx env1:=rfl
theorem eE:IJ f pe env=f env fun t env1=>pe.rt t env1:=rfl
theorem f7:sIf tc u v pe env=tc env fun b env1=>kW b (A:=⟨u pe env1⟩) (B:=⟨v pe env1⟩):=rfl
theorem dN{i:Nat}:CJ i f pe env=f env fun t env1=>pe.nx (env1.set i t):=rfl
theorem Dy{gt:PG'}:Hr f gt pe env=f env fun t env1=>gt t env1 pe.nx:=rfl
def asP(ts:List T)(k:T->T->Prop):Prop:=match ts with
 | [t,u]=>k t u
 | _=>False
theorem Gy{t u:T}{k:T->T->Prop}:asP [t,u] k=k t u:=rfl
theorem Dp{i j:Nat}:Ho i j fs pe env=fs env fun ts env1=>asP ts fun t u=>pe.nx ((env1.set i t).set j u):=rfl
theorem dG{fi:PIt}{gt:PG'}:ID fi gt u pe env=fi env fun its env1=>forL its gt u pe env1:=rfl
variable{t:T}{ke:Ev->Prop}{ts:List T}{gt:PG'}{gts:lZ}
theorem gK{i:Nat}:gN i t env ke=ke (env.set i t):=rfl
theorem DE:DW [] env ke=ke env:=propext ⟨fun h=>h.2,fun h=>⟨rfl,h⟩⟩
theorem cS:AR gt gts (t::ts) env ke=gt t env fun env1=>gts ts env1 ke:=rfl
theorem Dx{n:Nat}:gTp n gts (.tup ts) env ke=(ts.length=n/\gts ts env ke):=rfl
theorem Ac{i:Nat}{fi:PF}:DR i fi t env ke=eP (env[i]?) (k:=⟨fun t0=>isAny t0=false/\fi env fun ti env1=>eP (env1[i]?) (k:=⟨fun t1=>Ca t1 ti t fun t'=>ke (env1.set i t')⟩)⟩):=rfl
variable{ki:List T->Ev->Prop}
theorem dr:J1 f env ki=f env fun t env1=>eP (items t) (k:=⟨fun ts=>ki (erL ts) env1⟩):=rfl
def as1(ts:List T)(k:Int->Prop):Prop:=match ts with
 | [.int j]=>k j
 | _=>False
def as2(ts:List T)(k:Int->Int->Prop):Prop:=match ts with
 | [.int i,.int j]=>k i j
 | _=>False
theorem Gf{j:Int}{k:Int->Prop}:as1 [.int j] k=k j:=rfl
theorem GU{i j:Int}{k:Int->Int->Prop}:as2 [.int i,.int j] k=k i j:=rfl
theorem EB:iR1 fs env ki=fs env fun ts env1=>as1 ts fun j=>(-(2 ^ 62)<=j/\j < 2 ^ 62)/\ki (m4 0 j.toNat) env1:=rfl
theorem F3:iR2 fs env ki=fs env fun ts env1=>as2 ts fun i j=>(-(2 ^ 62)<=i/\i < 2 ^ 62/\-(2 ^ 62)<=j/\j < 2 ^ 62)/\ki (m4 i (j - i).toNat) env1:=rfl
theorem GZ:iZp fs env ki=fs env fun ts env1=>asP ts fun t u=>eP (items t) (k:=⟨fun as=>eP (items u) (k:=⟨fun bs=>ki (((erL as).zip (erL bs)).map fun p=>.tup [p.1,p.2]) env1⟩)⟩):=rfl
def asO(ts:List T)(k:T->Prop):Prop:=match ts with
 | [t]=>k t
 | _=>False
theorem Ez{t:T}{k:T->Prop}:asO [t] k=k t:=rfl
theorem Fz:iEn fs env ki=fs env fun ts env1=>asO ts fun t=>eP (items t) (k:=⟨fun as=>ki ((p_ as.length).zipWith (fun(i:Nat) (x:T)=>T.tup [.int (i:Int),x]) (erL as)) env1⟩):=rfl
end
section
variable{k:T->Prop}{i j l:Int}{x y:Str}{ts us:List T}{o o' b c:Bool}{t:T}
theorem ed:EJ (.int i) (.int j) k=k (.int (i + j)):=rfl
theorem Cp:EJ (.lst o ts) (.lst o' us) k=(ts.length + us.length<=sizeLine/\k (.lst true (ts++us))):=rfl
theorem dP:IM (.int i) (.int j) k=k (.int (i - j)):=rfl
theorem e9:Hs (.int i) (.int j) k=(uw i j/\k (.int (i * j))):=rfl
theorem CB:Hg (.int i) (.int j) k=(DJ i j/\k (.int (i / j))):=rfl
theorem BE:HA (.int i) (.int j) k=(0 < j/\k (.int (i % j))):=rfl
theorem FG:ltT (.int i) (.int j) k=k (.bl (decide (i < j))):=rfl
theorem Fn:leT (.int i) (.int j) k=k (.bl (decide (i<=j))):=rfl
theorem Fj:gtT (.int i) (.int j) k=k (.bl (decide (j < i))):=rfl
theorem ES:Hj (.int i) k=k (.int (-i)):=rfl
theorem EU:eqT (.int i) (.int j) k=k (.bl (decide (i=j))):=by
 unfold eqT
 refine propext ⟨fun h=>?_,fun h=>⟨rfl,rfl,show(0:Nat) < 190 by decide,?_⟩⟩
 ·have:=h.2.2.2
  rw[dt,dt,eqD]at this
  rw[Kw]at this
  exact this
 rw[dt,dt,eqD,Kw];exact h
theorem Ey:neT (.str x) (.str y) k=k (.bl (!decide (x=y))):=by
 unfold neT
 refine propext ⟨fun h=>?_,fun h=>⟨rfl,rfl,show(0:Nat) < 190 by decide,?_⟩⟩
 ·have:=h.2.2.2
  rw[dt,dt,eqD,Kw]at this
  exact this
 rw[dt,dt,eqD,Kw];exact h
def iT(ns:List Int):T:=.tup (ns.map T.int)
theorem Fy{a b c d:Int}:neT (.tup [.int a,.int b]) (.tup [.int c,.int d]) k=k (.bl (!decide (a=c/\b=d))):=by
 have e:eqD (dt (.tup [.int a,.int b])) (dt (.tup [.int c,.int d]))=decide (a=c/\b=d):=by
  simp only[dt,dtL,eqD,eqL,Kw,MQ,Bool.decide_and]
 unfold neT
 rw[e]
 exact propext ⟨fun h=>h.2.2.2,fun h=>⟨rfl,rfl,(by simp[dt,dtL,dpt,cN]),h⟩⟩
theorem Dh:IA t .non k=(isV t=true/\k (.bl (lJ t))):=by cases t <;> rfl
theorem zH:DY t .non k=(isV t=true/\k (.bl (!lJ t))):=by cases t <;> rfl
theorem dB:ixT (.tup ts) (.int i) k=eP (atI ts i) (k:=⟨k⟩):=rfl
theorem DL:ixT (.cst ts) (.int i) k=eP (atI ts i) (k:=⟨k⟩):=rfl
theorem dH:ixT (.lst o ts) (.int i) k=eP (atI ts i) (k:=⟨k⟩):=rfl
theorem G4{kvs:List (List Key × T)}:inT (.tup ts) (.dT o kvs) k=eP (i9 ts) (k:=⟨fun q=>k (.bl (je kvs q).isSome)⟩):=rfl
theorem Cw{u:T}:Fe t u k=inT t u fun w=>asB w (k:=⟨fun b=>k (.bl (!b))⟩):=rfl
theorem zF:i9 []=some []:=rfl
theorem d4:i9 (.int i::ts)=(i9 ts).map fun ks=>Pe i::ks:=by
 rw[i9]
 cases i9 ts <;> rfl
theorem Hw{α:Type}(a:α)(l:List α):atI (a::l) 0=some a:=fY (j:=0) rfl
theorem HP{α:Type}(a b:α)(l:List α):atI (a::b::l) 1=some b:=fY (j:=1) rfl
theorem Hu{α:Type}(a b c:α)(l:List α):atI (a::b::c::l) 2=some c:=fY (j:=2) rfl
theorem HS{α:Type}(a b c d:α)(l:List α):atI (a::b::c::d::l) 3=some d:=fY (j:=3) rfl
theorem Iy{α:Type}(a b c d e:α)(l:List α):atI (a::b::c::d::e::l) 4=some e:=fY (j:=4) rfl
theorem Ia{α:Type}(a b c d e f:α)(l:List α):atI (a::b::c::d::e::f::l) 5=some f:=fY (j:=5) rfl
theorem HX{α:Type}(a b c d e f g:α)(l:List α):atI (a::b::c::d::e::f::g::l) 6=some g:=fY (j:=6) rfl
theorem Ja{α:Type}(a b c d e f g h:α)(l:List α):atI (a::b::c::d::e::f::g::h::l) 7=some h:=fY (j:=7) rfl
theorem Ai:FV [.lst o ts] k=k (.int ts.length):=rfl
theorem Cj{kvs:List (List Key × T)}:FV [.dT o kvs] k=k (.int kvs.length):=rfl
theorem FN:HH [.int i] k=k (.int i.natAbs):=rfl
theorem Fb:zq [.int i,.int j] k=k (.int (max i j)):=rfl
theorem GV:zq [.int i,.int j,.int l] k=k (.int (max (max i j) l)):=rfl
theorem Gx:A5 [.int i,.int j] k=k (.int (min i j)):=rfl
theorem FY:A5 [.int i,.int j,.int l] k=k (.int (min (min i j) l)):=rfl
theorem Fu:zq [.lst o ts] k=eP (intsOf ts) (k:=⟨fun ns=>ns≠[]/\∀ r,fT ns r->k (.int r)⟩):=rfl
theorem Es:A5 [.lst o ts] k=eP (intsOf ts) (k:=⟨fun ns=>ns≠[]/\∀ r,fU ns r->k (.int r)⟩):=rfl
theorem EV:FX [.bl b] k=k (.int (if b then 1 else 0)):=rfl
theorem zD:pZ [.lst o ts] k=k (.tup ts):=rfl
theorem FA:FQ [.lst o ts] k=eP (boolsOf ts) (k:=⟨fun bs=>k (.bl (bs.all id))⟩):=rfl
theorem HN{lo hi:Option Int}:slT (.lst o ts) lo hi k=k (.lst true (lY ts lo hi)):=rfl
theorem Fv{kb:Bool->Prop}:F2 (.bl b) kb=kb b:=rfl
variable{km:T->T->Prop}
theorem uB:qN (.lst true ts) [t] km=(ts.length < sizeLine/\km (.lst true (ts++[t])) .non):=rfl
theorem uC:qB (.lst true ts) [.lst true us] km=(ts.length + us.length<=sizeLine/\km (.lst true (ts++us)) .non):=rfl
theorem rN:nR (.lst true ts) [] km=km (.lst true ts.reverse) .non:=rfl
theorem CF{kvs:List (List Key × T)}:Ca (.dT true kvs) (.tup ts) t k=eP (i9 ts) (k:=⟨fun q=>kvs.length < sizeLine/\k (.dT true (kz kvs q t))⟩):=rfl
end
theorem jj{α:Type}(g:α->T)(l:List α):ba (l.map g)=l.all fun x=>aU (g x):=by rw[ju,Lc];rfl
theorem dC{α:Type}(g:α->T)(l:List α):cM (l.map g)=l.all fun x=>cD (g x):=by rw[gH,Lc];rfl
theorem xX(l m:List T):cM (l++m)=(cM l && cM m):=by rw[gH,gH,gH,List.all_append]
theorem fM{α:Type}(l:List α):(l.all fun _=>true)=true:=by induction l with | nil=>rfl | cons _ _ ih=>rw[Ma,ih];rfl
theorem xJ:isAny (.non)=false:=rfl
theorem Dd:isV (.non)=true:=rfl
theorem yI:lJ (.non)=true:=rfl
theorem yV{b:Bool}:isAny (.bl b)=false:=rfl
theorem bQ{i:Int}:isAny (.int i)=false:=rfl
theorem yw{x:Str}:isAny (.str x)=false:=rfl
theorem yi{ts:List T}:isAny (.tup ts)=false:=rfl
theorem xP{ts:List T}:isAny (.cst ts)=false:=rfl
theorem bN{o:Bool}{ts:List T}:isAny (.lst o ts)=false:=rfl
theorem cQ{o:Bool}{kvs:List (List Key × T)}:isAny (.dT o kvs)=false:=rfl
theorem DA{o:Bool}{ts:List T}:isL (.lst o ts)=true:=rfl
theorem yh{ts:List T}:items (.tup ts)=some ts:=rfl
theorem cg{o:Bool}{ts:List T}:items (.lst o ts)=some ts:=rfl
theorem bF{its:List T}{g:PG'}{fb:PSt}{pe:PEn}{env:Ev}(W:Nat->Ev->Prop)(h0:W 0 env)(ht:∀ i t env,W i env->its[i]?=some t->g t env fun env2=>fb { pe with nx:=W (i + 1),ct:=W (i + 1),bk:=pe.nx } env2)(he:∀ env,W its.length env->pe.nx env):forL its g fb pe env:=⟨W,h0,ht,he⟩
theorem aW{fr:List (Option Nat)}{its:List T}{g:PG'}{ft:PB}{fe:PF}{env:Ev}{k:Th (T->Ev->Prop)}(hz:its.length < sizeLine)(W:Nat->List T->Ev->Prop)(h0:W 0 [] (lend (frA fr) env).1)(ht:∀ i t acc ie,W i acc ie->its[i]?=some t->g t ie fun ie2=>ft ie2 fun b ie3=>kW b (A:=⟨fe ie3 fun u ie4=>W (i + 1) (acc++[u]) ie4⟩) (B:=⟨W (i + 1) acc ie3⟩))
  (he:∀ acc ie,W its.length acc ie->k.v (.lst true acc) (back (frA fr) ie (lend (frA fr) env).2)):DS fr its g ft fe env (k:=k):=⟨hz,W,h0,ht,he⟩
def sq(b:Bool)(ts:List T):T:=match b with
 | true=>.tup ts
 | false=>.lst false ts
abbrev pt(x y:Int):T:=.tup [.int x,.int y]
end PL
namespace ZG
open PySem
open Sem (wp)
theorem yL{prog:NW}{w:N3}{A:N_}(hh:A.handled=none)(it d:NN)(hne:d≠it)(o:Obj)(es:Array O4)(ep:Nat)(hd:o.data=.dict es ep) :
  Walks prog w A it [it,d] [it] es.size (fun i v=>∃ e,es[i]?=some e/\v=e.key) (fun i h=>h.IsKeyIter it d i es.size ep/\h.get? d=some o) where
 sub:=fun b hb=>by simp at hb;simp[hb]
 frame:=fun _ _ _ st hk=>⟨st.1.at fun o e=>hk it (by simp) o e,hk d (by simp) o st.2⟩
 item:=fun i s Q E hi st hQ=>by
  have hx:es[i]?=some es[i]:=x_ hi
  refine Eg st.1 st.2 hd hx fun h' hit' hs'=>?_
  exact hQ _ h' s.toks ⟨_,hx,rfl⟩ ⟨hit',hs'.extBut d o hne st.2⟩ fun b o hb e=>hs'.extBut b o (fun z=>hb (by simp[z])) e
 done:=fun s Q E st hQ=>Hc hh st.1 st.2 hd (K5 (c_ _)) fun h' he'=>hQ h' s.toks fun b o hb e=>he' b o (fun z=>hb (by simp[z])) e
 self:=fun _ _ _ _ st hQ=>Sh st.1 hQ
theorem xy{prog:NW}{w:N3}{d:NN}{o:Obj}{es:Array O4}{ep:Nat}(lo:(d == Ol)=false)(hc:o.ExactDict)(hd:o.data=.dict es ep) :
  PySem.W.KdlSrc prog w "dict" d d es.size (fun i v=>∃ e,es[i]?=some e/\v=e.key) (fun h=>h.get? d=some o) where
 type:=fun _ hm=>⟨o,hm,hc.1⟩
 there:=fun _ hm=>⟨NY hm,NY hm⟩
 keep:=fun _ _ hm hk=>hk d (.inl rfl) o hm
 notList:=by decide
 notTuple:=by decide
 hint:=fun _ _ _ _ hm hq=>PySem.W.kdl_hint_dict ⟨o,hm,hc.1⟩ hq
 iter:=fun _ _ hh hm=>⟨_,_,(fun _ _ hq=>DV lo hm hc hd hq),yL hh _ d (yp (NY hm)) o es ep hd,⟨⟨_,N0 _ rfl,rfl,rfl⟩,NR _ hm⟩⟩
end ZG
namespace L2
open PySem PySem.Spec PyProof.Rows
section
variable{X:Cx}
theorem v9(hc:X.calm=true):bG X (.type "list") (fun xs H Q=>∃ d kvs,xs=[.ref d]/\Rd H d (.dT kvs)/\∀ bs:List NN,Pw (fun(b:NN) (p:List Key × V)=>H b=some (.tup (p.1.map kV))) bs kvs->(kvs.map (·.1)).Nodup->New (.lst (bs.map V.ref)) H Q):=by
 intro pins s σ H xs us Q I r h
 obtain⟨d,kvs,rfl,hd,q⟩:=h
 obtain⟨u,rfl,ru⟩:=vals1 r
 cases ru
 obtain⟨z,lo,xs,kt,o,es,ep,g1,g2,g3,g4,g5⟩:=(show bg X.prog X.w H s.heap d (.dT kvs)from hd.ok I.hok)
 have hes:es.size=kvs.length:=by
  rw[<-g_,g4,a_]
  exact(OF kt).symm
 refine PySem.W.kdl_call (ZG.xy lo g2 g3) (I.ok.hd hc) g1 (by lia) fun h' tk acc c kp e it=>?_
 have hacc:acc.toList=(xs.map fun x=>x.2.1).map Oa:=by
  refine Nb fun j=>?_
  rw[i',s_,s_]
  by_cases hj:j < es.size
  ·have hx:j < xs.length:=by rw[<-g_,g4,a_]at hj;exact hj
   have hja:j < acc.size:=by rw[it.1];exact hj
   have ha:acc[j]?=some acc[j]:=x_ hja
   obtain⟨en,e1,e2⟩:=it.2 j _ ha
   rw[ha,e2,b_ hx]
   rw[<-i',g4,s_,b_ hx]at e1
   cases e1
   rfl
  have hx:¬ j < xs.length:=by rw[<-g_,g4,a_]at hj;exact hj
  rw[K5 (by rw[it.1];lia),Kj (by lia)]
  rfl
 have rel:∀(l:List NN),Vals (l.map V.ref) (l.map Oa):=fun l=>by
  induction l with
  | nil=>exact .nil
  | cons a t ih=>exact .cons rfl ih
 have hq:∀ {kvs':List (List Key × V)} {xs':List (List Key × NN × NK)},KT H kvs' xs'->Pw (fun(b:NN) (p:List Key × V)=>H b=some (.tup (p.1.map kV))) (xs'.map fun x=>x.2.1) kvs':=fun{kvs' xs'} k=>by
  induction k with
  | nil=>exact .nil
  | cons h t ih=>exact .cons h.2.1 ih
 have ek:∀ {kvs':List (List Key × V)} {xs':List (List Key × NN × NK)},KT H kvs' xs'->kvs'.map (·.1)=xs'.map fun x=>x.1:=fun{kvs' xs'} k=>by
  induction k with
  | nil=>rfl
  | cons h t ih=>rw[d_,d_,ih,h.1]
 have e':h'.get? s.heap.objs.size=some { cls:=.type "list",dict:=none,data:=.seq ((xs.map fun x=>x.2.1).map Oa).toArray c,slots:=#[] }:=by
  rw[<-hacc]
  exact e
 exact⟨.ref s.heap.objs.size,_,I.laid (t':=tk) kp (c_ _) (show bg X.prog X.w _ h' _ (.lst ((xs.map fun x=>x.2.1).map V.ref))from⟨by rw[a_,a_,<-OF kt];omega,_,c,rel _,e'⟩),rfl,(q _ (hq kt) (by rw[ek kt];exact g5)).at (I.hok.fresh (c_ _))⟩
abbrev nJ(K:NM)(H:Hp):List V->List (List Int)->Prop:=Pw fun v k=>k≠[]/\∃ b,v=.ref b/\SqT K H b (k.map V.int)
theorem mQ{pins:List (NN × Obj)}{σ:St}{H:Hp}{s:NO}(I:Inv X pins σ H s):∀ {ys:List V} {its:List NK} {ks:List (List Int)},Vals ys its->nJ X.K H ys ks->(∀ v∈its,ZS.D3 s.heap v/\∃ b,v=.ref b/\ZS.fP s.heap v≠[]/\SqT X.K H b ((ZS.fP s.heap v).map V.int))/\its.map (ZS.fP s.heap)=ks
 | _,_,_,.nil,.nil=>⟨fun v hv=>(nomatch hv),rfl⟩
 | _,_,_,@Vb _ _ _ _ v _ its hv tv,@Vb _ _ _ _ k _ ks hk tk=>by
  obtain⟨hne,b,rfl,hb⟩:=hk
  cases hv
  obtain⟨j1,j2⟩:=mQ I tv tk
  obtain⟨its',r',⟨o,ho,hc,n,hd⟩,hz⟩:=I.tuple hb
  obtain⟨ps,e1,e2⟩:=eN r'
  have kv:ZS.fP s.heap (.ref b)=k:=by
   rw[ZS.m8 ho hd]
   show its'.map ZS.d9=k
   rw[e1,H_,<-e2]
   rfl
  refine⟨fun w hw=>?_,by rw[d_,kv,j2]⟩
  rcases t_.mp hw with e | e
  ·subst e
   refine⟨⟨b,o,_,n,rfl,ho,hc,hd,fun v hv=>?_,?_⟩,b,rfl,by rw[kv];exact hne,by rw[kv];exact hb⟩
   ·have hv:v∈its':=hv
    rw[e1]at hv
    obtain⟨p,_,e⟩:=y_.mp hv
    exact⟨p.1,p.2,e.symm⟩
   rw[m_,e1,a_,<-a_ (f:=(·.1)),e2]
   exact Lq.mpr hne
  exact j1 w e
theorem oO:∀ {ys:List V} {us:List NK} {u:NK} {b:NN},Vals ys us->u∈us->u=.ref b->V.ref b∈ys
 | _,_,_,_,.nil,h,_=>(by cases h)
 | _,_,u,b,.cons (a:=y) r t,h,e=>by
  rcases t_.mp h with z | h
  ·subst z
   subst e
   have:y=.ref b:=RelV.inj r (show RelV (.ref b) (.ref b)from rfl)
   rw[this]
   exact v_
  exact l_ _ (oO t h e)
theorem qK:bG X (.builtin "sorted") (fun xs H Q=>∃ p ys ks,xs=[.ref p]/\SqL X.K H p ys/\nJ X.K H ys ks/\∀ zs ls,nJ X.K H zs ls->(∀ v∈zs,v∈ys)->ls.Perm ks->ls.Pairwise (fun x y=>ZS.ltL y x=false)->New (.lst zs) H Q):=by
 intro pins s σ H xs us Q I r h
 obtain⟨p,ys,ks,rfl,hq,hr,q⟩:=h
 obtain⟨u,rfl,ru⟩:=vals1 r
 cases ru
 obtain⟨its,rv,pl,hz⟩:=I.list hq
 have hlen:=rv.length
 obtain⟨f1,f2⟩:=mQ I rv hr
 refine ZS.jn (kd:=TV true) (rk:=fun x=>ZS.rnk ZS.ltL ks (ZS.fP s.heap x.1)) (S:=fun x=>x.1∈its) pl.isList (by lia) (fun v hv=>hv) (fun h' kp {Q} {E} hne q=>ZS.u6 (h0:=s.heap) (fun v hv=>(f1 v hv).1) (fun b o e _=>kp b o e) hne q)
  (fun h' E kp=>ZS.tq (h0:=s.heap) (ks:=ks) (fun x hx=>⟨(f1 _ hx).1,by rw[<-f2];exact I_ hx⟩) fun b o e _=>kp b o e) fun o a c h' op os ha kp e=>?_
 have mem:∀ v∈o,v∈its:=fun v hv=>op.mem_iff.mp hv
 have mk:∀(l:List NK),(∀ v∈l,v∈its)->∃ zs,Vals zs l/\nJ X.K H zs (l.map (ZS.fP s.heap))/\zs.length=l.length/\∀ v∈zs,v∈ys:=by
  intro l
  induction l with
  | nil=>exact fun _=>⟨[],.nil,.nil,rfl,fun v hv=>(by cases hv)⟩
  | cons v t ih=>
   intro hl
   obtain⟨zs,k1,k2,k3,k6⟩:=ih fun v hv=>hl v (.tail _ hv)
   obtain⟨_,b,e,k4,k5⟩:=f1 v (hl v (.head _))
   refine⟨.ref b::zs,.cons e k1,.cons ⟨k4,b,rfl,k5⟩ k2,by rw[j_,j_,k3],fun w hw=>?_⟩
   rcases t_.mp hw with rfl | hw
   ·exact oO rv (hl v (.head _)) e
   exact k6 w hw
 obtain⟨zs,k1,k2,k3,k6⟩:=mk o mem
 refine⟨.ref a,_,I.laid (t':=s.toks) kp ha (show bg X.prog X.w _ h' _ (.lst zs)from⟨by rw[k3,op.length_eq];lia,o,c,k1,e⟩),rfl,(q zs _ k2 k6 ?_ ?_).at (I.hok.fresh ha)⟩
 ·rw[<-f2]
  exact op.map _
 rw[JW]
 refine Kl (fun{x y} hx hy hxy=>?_) os
 cases z:ZS.ltL (ZS.fP s.heap y) (ZS.fP s.heap x)
 ·rfl
 have:=ZS.nH ZS.qi (ks:=ks) (by rw[<-f2];exact I_ (mem y hy)) z
 exact absurd this (Mh.mpr hxy)
end
end L2
namespace ZS
open PySem PyProof.Rows
section
variable{prog:NW}{w:N3}{A:N_}{E:NK->NO->Prop}{s:NO}
theorem qk{d:NN}{o:Obj}{es:Array O4}{ep:Nat}{Q:List NK->NO->Prop}(lo:(d == Ol)=false)(ho:s.heap.get? d=some o)(hc:o.ExactDict)(hd:o.data=.dict es ep)(hh:A.handled=none)(hn:es.size<=sizeLine)
  (h:∀ h' tk acc,s.heap.objs.size<=h'.objs.size->(∀ b u,s.heap.get? b=some u->h'.get? b=some u)->Vh (fun i v=>∃ e,es[i]?=some e/\v=e.key) acc es.size->Q acc.toList { s with heap:=h',toks:=tk }):NT (N1 prog w) A (Vi (.ref d)) Q E s:=by
 unfold Vi
 refine NL (wpAny_runValue (QL F.entry_proto_collect ?_))
 rw[PZ F.plain_proto_collect _]
 show NT _ A.in1 (newList [] >>= fun l=>again (.builtin "list.__iadd__" ⟨[l,.ref d],[]⟩)) _ _ s
 refine NL (Ow ?_)
 refine NP ⟨Sn SR _,QL F.entry_list_iadd ?_⟩
 rw[PZ SR _]
 have hS:(s.heap.push { cls:=.type "list",data:=.seq ([]:List NK).toArray }).get? s.heap.objs.size=some { cls:=.type "list",data:=.seq ([]:List NK).toArray }:=N0 _ rfl
 have hne:s.heap.objs.size≠d:=Lb (NY ho)
 have fin:∀(s':NO) (h':N5) (tk:Nat) (acc:Array NK) (c:Nat),s'={ s with heap:=h',toks:=tk }->(∀ b u,s.heap.get? b=some u->h'.get? b=some u)->h'.get? s.heap.objs.size=some { cls:=.type "list",dict:=none,data:=.seq acc c,slots:=#[] }->Vh (fun i v=>∃ e,es[i]?=some e/\v=e.key) acc es.size->
   NT (N1 prog w) A (load s.heap.objs.size >>= fun o=>match o.data with
    | .seq xs _=>pure xs.toList
    | _=>unsupported "internal:collect") Q E s':=fun s' h' tk acc c es' kp e it=>by
  subst es'
  refine NL (wpAny_load e ?_)
  exact NP (h h' tk acc (JI (NY e)) kp it)
 refine Oh (PySem.W.kdl_extend (s:={ s with heap:=s.heap.push { cls:=.type "list",data:=.seq ([]:List NK).toArray } }) (R:=fun r s'=>∃(h':N5) (tk:Nat) (acc:Array NK) (c:Nat),r=.ok (.ret (.ref s.heap.objs.size))/\s'={ s with heap:=h',toks:=tk }/\(∀ b u,s.heap.get? b=some u->h'.get? b=some u)/\h'.get? s.heap.objs.size=some { cls:=.type "list",dict:=none,data:=.seq acc c,slots:=#[] }/\Vh (fun i v=>∃ e,es[i]?=some e/\v=e.key) acc es.size)
  (ZG.xy lo hc hd) hh (NR _ ho) s.heap.objs.size hne hne (.ref s.heap.objs.size) 0 hS (fun h' tk acc c kp e it=>⟨h',tk,acc,c,rfl,rfl,fun b u eb=>kp b u (yp (NY eb)) (NR _ eb),e,it⟩) hn) (fun fn s' hf=>?_) (fun e s' hf=>?_)
 ·cases fn with
  | done f=>
   obtain⟨h',tk,acc,c,ef,es',kp,e,it⟩:=hf
   cases ef
   exact fin s' h' tk acc c es' kp e it
  | again c'=>
   refine⟨hf.1,Qc hf.2 fun r s'' hr=>?_⟩
   obtain⟨h',tk,acc,c,er,es',kp,e,it⟩:=hr
   subst er
   exact fin s'' h' tk acc c es' kp e it
 obtain⟨_,_,_,_,ef,_⟩:=hf
 cases ef
theorem rG{x:NK}{vs:List NK}{kd:ON}{rk:NQ->Nat}{S:NQ->Prop}{Q:NK->NO->Prop}(hz:vs.length<=sizeLine)(hS:∀ v∈vs,S (v,v))
  (coll:∀ {Q':List NK->NO->Prop} {E':NK->NO->Prop},(∀ h' tk,s.heap.objs.size<=h'.objs.size->(∀ b u,s.heap.get? b=some u->h'.get? b=some u)->Q' vs { s with heap:=h',toks:=tk })->NT (N1 prog w) A.in1 (Vi x) Q' E' s)
  (kind:∀ h' tk,(∀ b o,s.heap.get? b=some o->h'.get? b=some o)->∀ {Q:ON->NO->Prop} {E:NK->NO->Prop},vs≠[]->Q kd { s with heap:=h',toks:=tk }->NT (N1 prog w) A.in1.in1 (QY vs.toArray) Q E { s with heap:=h',toks:=tk })
  (lt:∀ h' tk E,(∀ b o,s.heap.get? b=some o->h'.get? b=some o)->f6 (N1 prog w) A.in1.in1 E { s with heap:=h',toks:=tk } kd rk S)
  (h:∀(o:List NK) a c h' tk,o.Perm vs->o.Pairwise (fun x y=>rk (x,x)<=rk (y,y))->s.heap.objs.size<=a->(∀ b u,s.heap.get? b=some u->h'.get? b=some u)->h'.get? a=some (OB "list" o.toArray c)->Q (.ref a) { s with heap:=h',toks:=tk }) :
  NT (N1 prog w) A (call (.builtin "sorted") [x]) Q E s:=by
 refine P8 Va US UT (UU _) ?_
 unfold OY.«sorted»
 refine NL (m:=checkCount "sorted" 1 1 _) (NP ?_)
 refine NL (coll fun h0 tk le k0=>?_)
 refine NL (Qv ?_ hz)
 have hoL:(h0.push (OB "list" vs.toArray 0)).get? h0.objs.size=some (OB "list" vs.toArray 0):=N0 _ rfl
 have keep:∀ b o,s.heap.get? b=some o->(h0.push (OB "list" vs.toArray 0)).get? b=some o:=fun b o q=>NR _ (k0 b o q)
 show NT _ _ _ _ _ { s with heap:=h0.push (OB "list" vs.toArray 0),toks:=tk }
 have ne:∀ b o,s.heap.get? b=some o->b≠h0.objs.size:=fun b o e=>yp (NY (k0 b o e))
 generalize h0.push (OB "list" vs.toArray 0)=h1 at hoL keep ⊢
 refine NL (Oj (OI TY ⟨_,hoL,rfl⟩ Tw ?body (TZ _)))
 case body=>
  refine om (s:={ s with heap:=h1,toks:=tk }) (kd:=kd) (rk:=rk) (S:=S) hoL hz hS (fun h' k {Q} hne q=>kind h' tk (fun b o e=>k b o (ne b o e) (keep b o e)) hne q) (fun h' k=>lt h' tk _ fun b o e=>k b o (ne b o e) (keep b o e)) fun o c h' g1 g2 g3 g4=>?_
  exact⟨_,rfl,NP ⟨_,rfl,h o _ c h' tk g1 g2 le (fun b u e=>g3 b u (ne b u e) (keep b u e)) g4⟩⟩
end
end ZS
namespace L2
open PySem PySem.Spec PyProof.Rows
section
variable{X:Cx}
abbrev tL(H:Hp):List V->List (List Int)->Prop:=Pw fun v k=>k≠[]/\∃ b,v=.ref b/\H b=some (.tup (k.map V.int))
theorem mP{α β:Type}{F:α->β->Prop}:∀ {l:List α} {m:List β},Pw F l m->∀(i:Nat) (a:α) (b:β),l[i]?=some a->m[i]?=some b->F a b
 | _,_,.nil,i,a,b,h,_=>by simp at h
 | _,_,.cons f _,0,a,b,h,g=>by
  cases h
  cases g
  exact f
 | _,_,.cons _ t,i + 1,a,b,h,g=>mP t i a b (by simpa using h) (by simpa using g)
theorem pM(hc:X.calm=true):bG X (.builtin "sorted") (fun xs H Q=>∃ d kvs ks,xs=[.ref d]/\Rd H d (.dT kvs)/\kvs.map (·.1)=ks.map kI/\(∀ k∈ks,k≠[])/\∀ zs ls,tL H zs ls->ls.Perm ks->ls.Pairwise (fun x y=>ZS.ltL y x=false)->(kvs.map (·.1)).Nodup->New (.lst zs) H Q):=by
 intro pins s σ H xs us Q I r h
 obtain⟨d,kvs,ks,rfl,hd,ek,hne,q⟩:=h
 obtain⟨u,rfl,ru⟩:=vals1 r
 cases ru
 obtain⟨z,lo,xs,kt,o,es,ep,g1,g2,g3,g4,g5⟩:=(show bg X.prog X.w H s.heap d (.dT kvs)from hd.ok I.hok)
 have hlen:xs.length=kvs.length:=(OF kt).symm
 have hes:es.size=xs.length:=by rw[<-g_,g4,a_]
 have rel:∀(l:List NN),Vals (l.map V.ref) (l.map Oa):=fun l=>by
  induction l with
  | nil=>exact .nil
  | cons a t ih=>exact .cons rfl ih
 have rows:∀ {kvs':List (List Key × V)} {xs':List (List Key × NN × NK)} {ks':List (List Int)},KT H kvs' xs'->kvs'.map (·.1)=ks'.map kI->(∀ k∈ks',k≠[])->nJ X.K H ((xs'.map fun x=>x.2.1).map V.ref) ks':=fun{kvs' xs' ks'} k=>by
  induction k generalizing ks' with
  | nil=>
   intro e _
   cases ks' with
   | nil=>exact .nil
   | cons a b=>simp at e
  | cons h t ih=>
   intro e hn
   cases ks' with
   | nil=>simp at e
   | cons a b=>
    rw[d_,d_,Kg]at e
    refine .cons ⟨hn a v_,_,rfl,SqT.of ?_⟩ (ih e.2 fun k hk=>hn k (l_ _ hk))
    rw[h.2.1,e.1,G9]
 have rowsH:∀ {kvs':List (List Key × V)} {xs':List (List Key × NN × NK)} {ks':List (List Int)},KT H kvs' xs'->kvs'.map (·.1)=ks'.map kI->Pw (fun(v:NK) (k:List Int)=>∃ b,v=.ref b/\H b=some (.tup (k.map V.int))) ((xs'.map fun x=>x.2.1).map Oa) ks':=fun{kvs' xs' ks'} k=>by
  induction k generalizing ks' with
  | nil=>
   intro e
   cases ks' with
   | nil=>exact .nil
   | cons a b=>simp at e
  | cons h t ih=>
   intro e
   cases ks' with
   | nil=>simp at e
   | cons a b=>
    rw[d_,d_,Kg]at e
    refine .cons ⟨_,rfl,?_⟩ (ih e.2)
    rw[h.2.1,e.1,G9]
 have eqk:∀ {kvs':List (List Key × V)} {xs':List (List Key × NN × NK)},KT H kvs' xs'->kvs'.map (·.1)=xs'.map fun x=>x.1:=fun{kvs' xs'} k=>by
  induction k with
  | nil=>rfl
  | cons h t ih=>rw[d_,d_,ih,h.1]
 obtain⟨f1,f2⟩:=mQ I (rel (xs.map fun x=>x.2.1)) (rows kt ek hne)
 obtain⟨its,eits⟩:∃ its,its=(xs.map fun x=>x.2.1).map Oa:=⟨_,rfl⟩
 rw[<-eits]at f1 f2
 have li:its.length=xs.length:=by rw[eits,a_,a_]
 refine ZS.rG (vs:=its) (kd:=TV true) (rk:=fun x=>ZS.rnk ZS.ltL ks (ZS.fP s.heap x.1)) (S:=fun x=>x.1∈its) (by lia) (fun v hv=>hv)
  (fun{Q' E'} hq=>ZS.qk lo g1 g2 g3 (I.ok.hd hc) (by lia) fun h' tk acc le kp it=>?_)
  (fun h' tk kp {Q} {E} hne q=>ZS.u6 (h0:=s.heap) (fun v hv=>(f1 v hv).1) (fun b o e _=>kp b o e) hne q)
  (fun h' tk E kp=>ZS.tq (h0:=s.heap) (ks:=ks) (fun x hx=>⟨(f1 _ hx).1,by rw[<-f2];exact I_ hx⟩) fun b o e _=>kp b o e) fun o a c h' tk op os ha kp e=>?_
 ·have hacc:acc.toList=its:=by
   rw[eits]
   refine Nb fun j=>?_
   rw[i',s_,s_]
   by_cases hj:j < es.size
   ·have hx:j < xs.length:=by lia
    have hja:j < acc.size:=by rw[it.1];exact hj
    have ha:acc[j]?=some acc[j]:=x_ hja
    obtain⟨en,e1,e2⟩:=it.2 j _ ha
    rw[ha,e2,b_ hx]
    rw[<-i',g4,s_,b_ hx]at e1
    cases e1
    rfl
   rw[K5 (by rw[it.1];lia),Kj (by lia)]
   rfl
  rw[hacc]
  exact hq h' tk le kp
 have mem:∀ v∈o,v∈its:=fun v hv=>op.mem_iff.mp hv
 have raw:∀ v∈its,∃ b,v=.ref b/\H b=some (.tup ((ZS.fP s.heap v).map V.int)):=fun v hv=>by
  obtain⟨i,hi,ev⟩:=KD.mp hv
  have h1:its[i]?=some v:=by rw[b_ hi,ev]
  have h2:ks[i]?=some (ZS.fP s.heap v):=by rw[<-f2,s_,h1];rfl
  have pr:=rowsH kt ek
  rw[<-eits]at pr
  exact mP pr i _ _ h1 h2
 have mk:∀(l:List NK),(∀ v∈l,v∈its)->∃ zs,Vals zs l/\tL H zs (l.map (ZS.fP s.heap))/\zs.length=l.length:=by
  intro l
  induction l with
  | nil=>exact fun _=>⟨[],.nil,.nil,rfl⟩
  | cons v t ih=>
   intro hl
   obtain⟨zs,k1,k2,k3⟩:=ih fun v hv=>hl v (.tail _ hv)
   obtain⟨_,_,_,k4,_⟩:=f1 v (hl v (.head _))
   obtain⟨b,e,k5⟩:=raw v (hl v (.head _))
   exact⟨.ref b::zs,.cons e k1,.cons ⟨k4,b,rfl,k5⟩ k2,by rw[j_,j_,k3]⟩
 obtain⟨zs,k1,k2,k3⟩:=mk o mem
 refine⟨.ref a,_,I.laid (t':=tk) kp ha (show bg X.prog X.w _ h' _ (.lst zs)from⟨by rw[k3,op.length_eq];lia,o,c,k1,e⟩),rfl,(q zs _ k2 ?_ ?_ (by rw[eqk kt];exact g5)).at (I.hok.fresh ha)⟩
 ·rw[<-f2]
  exact op.map _
 rw[JW]
 refine Kl (fun{x y} hx hy hxy=>?_) os
 cases z:ZS.ltL (ZS.fP s.heap y) (ZS.fP s.heap x)
 ·rfl
 have:=ZS.nH ZS.qi (ks:=ks) (by rw[<-f2];exact I_ (mem y hy)) z
 exact absurd this (Mh.mpr hxy)
end
end L2
namespace ZS
open PySem PyProof.Rows
def ltI(a b:Int):Bool:=decide (a < b)
theorem FI:Tot ltI:=⟨fun a=>decide_eq_false (Int.lt_irrefl a),fun a b c h g=>decide_eq_true (Int.lt_trans (of_decide_eq_true h) (of_decide_eq_true g)),fun a b h g=>by
 have h:=of_decide_eq_false h
 have g:=of_decide_eq_false g
 lia⟩
section
variable{prog:NW}{w:N3}{A:N_}{E:NK->NO->Prop}{s:NO}
theorem Bo{ns:List Int}{S:NQ->Prop}(hS:∀ x,S x->∃ i t,x.1=.int i t/\i∈ns):f6 (N1 prog w) A E s QZ (fun x=>rnk ltI ns (d9 x.1)) S:=by
 intro x y st Q sx sy kd q
 obtain⟨i,t,ex,mi⟩:=hS x sx
 obtain⟨j,u,ey,mj⟩:=hS y sy
 rw[lt'_eq]
 refine NU (PQ ?_)
 rw[kd,ex,ey,T1]
 refine NU (QX (O5 (oneLt_int ⟨rfl,?_⟩)))
 refine NZ ?_
 dsimp only at q
 rw[qL FI (show d9 x.1∈ns by rw[ex];exact mi),ex,ey]at q
 exact q
theorem A4{M:Pz}{v1:NK}{vs:List NK}{ns:List Int}{Q:ON->NO->Prop}(hI:QR (v1::vs) ns)(q:Q QZ s):NT M A (QY (v1::vs).toArray) Q E s:=by
 have e:QY (v1::vs).toArray=pure QZ:=by
  rw[Vc,LJ,mapM_first_ints hI]
  simp only[map_pure,pure_bind]
  rw[if_neg (by simp),if_neg (by simp),Tx,LJ,mapM_typeOf_ints hI]
  simp only[map_pure,pure_bind]
  have hal:((JS (fun _=>OJ "int") (v1::vs)).toArray.all fun x=>x == OJ "int")=true:=by
   simp only[Nm,Lc,Li]
   exact fun _ _=>rfl
  have hz:(JS (fun _=>OJ "int") (v1::vs)).toArray[0]?=some (OJ "int"):=by simp
  rw[hz]
  simp only[hal,if_true,pure_bind,MY]
 rw[e]
 exact NP q
end
end ZS
namespace L2
open PySem PySem.Spec PyProof.Rows
section
variable{X:Cx}
theorem qr:bG X (.builtin "sorted") (fun xs H Q=>∃ p ns,xs=[.ref p]/\SqL X.K H p (ns.map V.int)/\∀ ms:List Int,ms.Perm ns->ms.Pairwise (·<=·)->New (.lst (ms.map V.int)) H Q):=by
 intro pins s σ H xs us Q I r h
 obtain⟨p,ns,rfl,hq,q⟩:=h
 obtain⟨u,rfl,ru⟩:=vals1 r
 cases ru
 obtain⟨its,rv,pl,hz⟩:=I.list hq
 have hlen:=rv.length
 rw[a_]at hlen hz
 obtain⟨ps,e1,e2⟩:=eN rv
 have hI:QR its ns:=intsAre_of rv
 have each:∀ v∈its,∃ i t,v=.int i t/\i∈ns:=fun v hv=>by
  rw[e1]at hv
  obtain⟨a,ha,e⟩:=y_.mp hv
  exact⟨a.1,a.2,e.symm,by rw[<-e2];exact I_ ha⟩
 have keys:its.map ZS.d9=ns:=by rw[e1,H_,<-e2];rfl
 refine ZS.jn (kd:=QZ) (rk:=fun x=>ZS.rnk ZS.ltI ns (ZS.d9 x.1)) (S:=fun x=>x.1∈its) pl.isList (by lia) (fun v hv=>hv) (fun h' kp {Q} {E} hne q=>?_) (fun h' E kp=>ZS.Bo fun x hx=>each _ hx) fun o a c h' op os ha kp e=>?_
 ·obtain⟨v1,vs,ev⟩:=List.exists_cons_of_ne_nil hne
  rw[ev]at hI ⊢
  exact ZS.A4 hI q
 have mem:∀ v∈o,v∈its:=fun v hv=>op.mem_iff.mp hv
 have mk:∀(l:List NK),(∀ v∈l,v∈its)->Vals ((l.map ZS.d9).map V.int) l:=by
  intro l
  induction l with
  | nil=>exact fun _=>.nil
  | cons v t ih=>
   intro hl
   obtain⟨i,t',e,_⟩:=each v (hl v (.head _))
   refine .cons ?_ (ih fun v hv=>hl v (.tail _ hv))
   rw[e]
   exact⟨t',rfl⟩
 refine⟨.ref a,_,I.laid (t':=s.toks) kp ha (show bg X.prog X.w _ h' _ (.lst ((o.map ZS.d9).map V.int))from⟨by rw[a_,a_,op.length_eq];lia,o,c,mk o mem,e⟩),rfl,(q _ ?_ ?_).at (I.hok.fresh ha)⟩
 ·rw[<-keys]
  exact op.map _
 rw[JW]
 refine Kl (fun{x y} hx hy hxy=>?_) os
 by_cases z:ZS.d9 x<=ZS.d9 y
 ·exact z
 have:=ZS.nH ZS.FI (ks:=ns) (a:=ZS.d9 y) (b:=ZS.d9 x) (by rw[<-keys];exact I_ (mem y hy)) (decide_eq_true (by lia))
 exact absurd this (Mh.mpr hxy)
end
end L2
namespace PL
open PySem PySem.Spec PyProof.Rows L2
section
variable{κ:Type}{lt:κ->κ->Bool}
def xS(lt:κ->κ->Bool)(x:κ):List κ->List κ
 | []=>[x]
 | y::r=>if lt y x=true then y::xS lt x r else x::y::r
def yG(lt:κ->κ->Bool):List κ->List κ
 | []=>[]
 | x::r=>xS lt x (yG lt r)
theorem kB(x:κ):∀ l:List κ,(xS lt x l).Perm (x::l)
 | []=>.refl _
 | y::r=>by
  rw[xS]
  split
  ·exact((kB x r).cons y).trans (.swap _ _ _)
  exact .refl _
theorem gQ:∀ l:List κ,(yG lt l).Perm l
 | []=>.refl _
 | x::r=>(kB x _).trans ((gQ r).cons x)
theorem lQ(T:ZS.Tot lt)(x:κ):∀ {l:List κ},l.Pairwise (fun a b=>lt b a=false)->(xS lt x l).Pairwise (fun a b=>lt b a=false)
 | [],_=>LF _ _
 | y::r,h=>by
  rw[Kv]at h
  rw[xS]
  split
  ·rename_i hy
   rw[Kv]
   refine⟨fun b hb=>?_,lQ T x h.2⟩
   rcases t_.mp ((kB x r).mem_iff.mp hb)with rfl | hb
   ·cases z:lt b y
    ·rfl
    have:=T.tr _ _ _ z hy
    rw[T.irr]at this
    cases this
   exact h.1 b hb
  rename_i hy
  have hy:lt y x=false:=K9.mpr hy
  rw[Kv]
  refine⟨fun b hb=>?_,Kv.mpr h⟩
  rcases t_.mp hb with rfl | hb
  ·exact hy
  cases z:lt b x
  ·rfl
  have h1:=h.1 b hb
  cases w:lt y b
  ·have:=T.tot _ _ h1 w
   subst this
   rw[z]at hy;cases hy
  have:=T.tr _ _ _ w z
  rw[hy]at this;cases this
theorem lH(T:ZS.Tot lt):∀ l:List κ,(yG lt l).Pairwise (fun a b=>lt b a=false)
 | []=>LG
 | x::r=>lQ T x (lH T r)
theorem lR(T:ZS.Tot lt):∀ {l m:List κ},l.Perm m->l.Pairwise (fun a b=>lt b a=false)->m.Pairwise (fun a b=>lt b a=false)->l=m
 | [],m,p,_,_=>(List.Perm.nil_eq p)
 | a::l,[],p,_,_=>(List.Perm.eq_nil p)
 | a::l,b::m,p,h,g=>by
  rw[Kv]at h g
  have e:a=b:=by
   have ha:a∈b::m:=p.mem_iff.mp v_
   have hb:b∈a::l:=p.mem_iff.mpr v_
   rcases t_.mp ha with e | ha
   ·exact e
   rcases t_.mp hb with e | hb
   ·exact e.symm
   exact T.tot _ _ (g.1 a ha) (h.1 b hb)
  subst e
  rw[lR T (List.Perm.cons_inv p) h.2 g.2]
theorem jY(T:ZS.Tot lt){l m:List κ}(p:l.Perm m)(h:l.Pairwise (fun a b=>lt b a=false)):l=yG lt m:=
 lR T (p.trans (gQ m).symm) h (lH T m)
end
abbrev lW(ks:List (List Int)):List (List Int):=yG ZS.ltL ks
abbrev Et(ks:List Int):List Int:=yG ZS.ltI ks
def rowOf:T->Option (List Int)
 | .tup ts=>match intsOf ts with
  | some (n::r)=>some (n::r)
  | _=>none
 | _=>none
def rowsOf:List T->Option (List (List Int))
 | []=>some []
 | t::r=>match rowOf t,rowsOf r with
  | some k,some ks=>some (k::ks)
  | _,_=>none
theorem Bf{t:T}{k:List Int}(h:rowOf t=some k):t=iT k/\k≠[]:=by
 cases t <;> first | cases h | skip
 rename_i ts
 rw[rowOf]at h
 split at h
 ·rename_i n r e
  cases h
  exact⟨by rw[gL e];rfl,by simp⟩
 cases h
theorem AI{k:List Int}(h:k≠[]):rowOf (iT k)=some k:=by
 cases k with
 | nil=>exact absurd rfl h
 | cons n r=>
  show(match intsOf ((n::r).map T.int)with | some (n::r)=>some (n::r) | _=>none)=_
  rw[uZ]
theorem pD:∀ {ts:List T} {ks:List (List Int)},rowsOf ts=some ks->ts=ks.map iT/\∀ k∈ks,k≠[]
 | [],ks,h=>by cases h;exact⟨rfl,fun k hk=>by cases hk⟩
 | t::ts,ks,h=>by
  rw[rowsOf]at h
  split at h
  ·rename_i k r e1 e2
   cases h
   obtain⟨h1,h2⟩:=Bf e1
   obtain⟨h3,h4⟩:=pD e2
   refine⟨by rw[h1,h3];rfl,fun q hq=>?_⟩
   rcases t_.mp hq with rfl | hq
   ·exact h2
   exact h4 q hq
  cases h
theorem vo{ks:List (List Int)}(h:∀ k∈ks,k≠[]):rowsOf (ks.map iT)=some ks:=by
 induction ks with
 | nil=>rfl
 | cons k r ih=>
  rw[d_,rowsOf,AI (h k v_),ih fun q hq=>h q (l_ _ hq)]
noncomputable def wc:P1s
 | [.lst _ ts],k=>match intsOf ts with
  | some ns=>k (.lst true ((Et ns).map T.int))
  | none=>got (rowsOf ts) fun ks=>k (.lst true ((lW ks).map iT))
 | [.dT _ kvs],k=>∃ ks,kvs.map (·.1)=ks.map kI/\(∀ q∈ks,q≠[])/\(ks.Nodup->k (.lst true ((lW ks).map iT)))
 | _,_=>False
section
variable{X:Cx}
theorem rQ{K:NM}{H:Hp}{Γ:Fm}:∀ {ks:List (List Int)} {vs:List V},(∀ k∈ks,k≠[])->(ks.map iT).length=vs.length->Rp K H (zz (ks.map iT) vs++Γ)->nJ K H vs ks/\∀ v∈vs,∃(b:NN) (k:List Int),v=.ref b/\H b=some (.tup (k.map V.int))
 | [],[],_,_,_=>⟨.nil,fun v hv=>by cases hv⟩
 | [],_::_,_,l,_=>by cases l
 | _::_,[],_,l,_=>by cases l
 | k::ks,v::vs,n,l,h=>by
  have h:Rp K H ((iT k,some v)::(zz (ks.map iT) vs++Γ)):=h
  obtain⟨a,us,rfl,ha,la,h2⟩:=qI h
  have eu:=gv la h2
  subst eu
  obtain⟨r1,r2⟩:=rQ (fun q hq=>n q (l_ _ hq)) (by simpa using l) h.tail
  refine⟨.cons ⟨n k v_,a,rfl,SqT.of ha⟩ r1,fun w hw=>?_⟩
  rcases t_.mp hw with rfl | hw
  ·exact⟨a,k,rfl,ha⟩
  exact r2 w hw
theorem kl{K:NM}{H:Hp}{Γ:Fm}:∀ {ks:List (List Int)} {vs:List V},tL H vs ks->Rp K H Γ->Rp K H (zz (ks.map iT) vs++Γ)/\(ks.map iT).length=vs.length
 | [],_,r,h=>by cases r;exact⟨h,rfl⟩
 | k::ks,_,r,h=>by
  rcases r with _ | ⟨hd,t⟩
  rename_i v vs
  obtain⟨_,b,e,hb⟩:=hd
  obtain⟨h1,l1⟩:=kl t h
  subst e
  refine⟨?_,by simp at l1 ⊢;exact l1⟩
  show Rp K H ((iT k,some (.ref b))::(zz (ks.map iT) vs++Γ))
  exact gB (ts:=k.map T.int) (vs:=k.map V.int) (rp_intsP k h1) (by rw[a_,a_]) .d6 hb
where
 rp_intsP {Γ:Fm}:∀(ns:List Int),Rp K H Γ->Rp K H (zz (ns.map T.int) (ns.map V.int)++Γ)
 | [],h=>h
 | _::r,h=>cz (rp_intsP r h) fun _=>.int
theorem wC{K:NM}{H:Hp}{Γ:Fm}:∀(ns:List Int),Rp K H Γ->Rp K H (zz (ns.map T.int) (ns.map V.int)++Γ)
 | [],h=>h
 | _::r,h=>cz (wC r h) fun _=>.int
theorem wK{K:NM}{H:Hp}:∀ {zs:List V} {ls:List (List Int)},(∀ v∈zs,∀ b,v=.ref b->∀ xs,SqT K H b xs->H b=some (.tup xs))->nJ K H zs ls->tL H zs ls
 | _,_,_,.nil=>.nil
 | _,_,h,.cons ⟨n,b,e,hb⟩ t=>.cons ⟨n,b,e,h _ v_ b e _ hb⟩ (wK (fun v hv=>h v (l_ _ hv)) t)
theorem Fp{ms:List Int}(h:ms.Pairwise (·<=·)):ms.Pairwise (fun a b=>ZS.ltI b a=false):=h.imp fun{a b} hab=>by
 unfold ZS.ltI
 exact decide_eq_false (by omega)
theorem pV(hc:X.calm=true):gu X (.builtin "sorted") wc:=by
 rintro pins s σ H xs us Q I r ⟨ts,Γ,k,l,rp,g,c⟩
 unfold wc at g
 split at g
 ·rename_i k o ts
  obtain⟨x,rfl⟩:=zz1 l rfl
  have rp:Rp X.K H ((.lst o ts,some x)::Γ):=rp
  obtain⟨a,vs,rfl,hq,l2,rp2⟩:=iV rp
  cases e:intsOf ts with
  | some ns=>
   rw[e]at g
   have et:=gL e
   subst et
   have ev:=gv l2 rp2
   subst ev
   refine qr pins s σ H _ us Q I r ⟨a,ns,rfl,.inl hq,fun ms pm sm p H' hp g' e'=>c _ _ _ g ?_⟩
   have es:ms=Et ns:=jY ZS.FI pm (Fp sm)
   rw[<-es]
   exact fO (wC ms rp.tail) (by rw[a_,a_]) hp g' e'
  | none=>
   rw[e]at g
   obtain⟨ks,ek,kt⟩:=aI g
   obtain⟨et,ne⟩:=pD ek
   subst et
   obtain⟨rv,ex⟩:=rQ ne l2 rp2
   refine qK pins s σ H _ us Q I r ⟨a,vs,ks,rfl,.inl hq,rv,fun zs ls rz mem pm sm p H' hp g' e'=>c _ _ _ kt ?_⟩
   have es:ls=lW ks:=jY ZS.qi pm sm
   rw[<-es]
   have rH:=wK (fun v hv b eb xs hs=>by
    obtain⟨b',k',e1,e2⟩:=ex v (mem v hv)
    rw[eb]at e1
    cases e1
    rw[e2,I.iS hs (SqT.of e2)]) rz
   obtain⟨rp3,l3⟩:=kl rH rp.tail
   exact fO rp3 l3 hp g' e'
 ·rename_i k o kvs
  obtain⟨x,rfl⟩:=zz1 l rfl
  have rp:Rp X.K H ((.dT o kvs,some x)::Γ):=rp
  obtain⟨a,vs,rfl,hq,ek,rp2⟩:=hV rp
  obtain⟨ks,e1,e2,kt⟩:=g
  refine pM hc pins s σ H _ us Q I r ⟨a,vs,ks,rfl,hq,by rw[<-ek];exact e1,e2,fun zs ls rz pm sm nd p H' hp g' e'=>?_⟩
  have nd':ks.Nodup:=by
   rw[<-ek,e1]at nd
   exact(JW.mp nd).imp fun{a b} h z=>h (by rw[z])
  refine c _ _ _ (kt nd') ?_
  have es:ls=lW ks:=jY ZS.qi pm sm
  rw[<-es]
  obtain⟨rp3,l3⟩:=kl rz rp.tail
  exact fO rp3 l3 hp g' e'
 exact N4 g
end
section
variable{X:Cx}{pos:Pos}
noncomputable def EZ:P1s:=fun ts k=>match ts with
 | [.lst b us]=>isD (.lst b us)=true/\shD (dt (.lst b us))=true/\dpt (dt (.lst b us)) < 180/\(toPy (dt (.lst b us))).bulk<=2 ^ 20/\k (.str (toPy (dt (.lst b us))).shown)
 | [.tup us]=>isD (.tup us)=true/\shD (dt (.tup us))=true/\dpt (dt (.tup us)) < 180/\(toPy (dt (.tup us))).bulk<=2 ^ 20/\k (.str (toPy (dt (.tup us))).shown)
 | _=>False
theorem wY{K:NM}{H:Hp}{ds:List Dt}{x:V}(h:Has K H (.lst ds) x\/Has K H (.tup ds) x):∃ a,x=.ref a:=by
 rcases h with h | h <;>(rw[Has]at h;obtain⟨a,_,rfl,_⟩:=h;exact⟨a,rfl⟩)
theorem pF{kr:Nat}(hr:Room kr X.A):gu X (.type "str") EZ:=by
 rintro pins s σ H xs us Q I r ⟨ts,Γ,k,l,rp,g,c⟩
 have hu:=hr.un
 unfold EZ at g
 split at g
 ·obtain⟨g1,g2,g3,g4,g5⟩:=g
  obtain⟨x,rfl⟩:=zz1 l rfl
  have rp:Rp X.K H ((_,some x)::Γ):=rp
  have h:=gD rp g1
  obtain⟨a,rfl⟩:=wY (.inl h)
  exact oB hr.gs pins s σ H _ us Q I r ⟨a,_,rfl,h,g2,by lia,g4,c _ _ _ g5 (cz rp.tail fun _=>.str)⟩
 ·obtain⟨g1,g2,g3,g4,g5⟩:=g
  obtain⟨x,rfl⟩:=zz1 l rfl
  have rp:Rp X.K H ((_,some x)::Γ):=rp
  have h:=gD rp g1
  obtain⟨a,rfl⟩:=wY (.inr h)
  exact oB hr.gs pins s σ H _ us Q I r ⟨a,_,rfl,h,g2,by lia,g4,c _ _ _ g5 (cz rp.tail fun _=>.str)⟩
 exact g.elim
theorem kj{κ:Type}[DecidableEq κ]:∀(a:List (κ × V)) (b:List (κ × V)),((a++b).map (·.1)).Nodup->b.foldl (fun acc kv=>putK acc kv.1 kv.2) a=a++b
 | a,[],_=>by rw[JO];rfl
 | a,(q,x)::b,h=>by
  have h':((a++[(q,x)]++b).map (·.1)).Nodup:=by rw[i_];exact h
  have nq:(a.any fun kv=>decide (kv.1=q))=false:=by
   rw[List.any_eq_false]
   intro y my e
   rw[r_,La]at h
   exact h.2.2 y.1 (I_ my) q (v_ ..) (of_decide_eq_true e)
  have e:putK a q x=a++[(q,x)]:=by unfold putK;rw[nq];rfl
  rw[Nv,e,kj (a++[(q,x)]) b h',i_];rfl
end
section
variable{b:Bool}{ts us:List T}{k:T->Prop}{i:Int}{t u:T}{env:Ev}{ke:T->Ev->Prop}
theorem bC(lo:Int)(n:Nat):(m4 lo n).length=n:=by rw[m4,a_,Kf]
theorem eK{lo:Int}{n i:Nat}{t:T}(h:(m4 lo n)[i]?=some t):i < n:=by
 have:=(f_.mp h).1
 rwa[bC]at this
theorem i7{lo:Int}{n i:Nat}{t:T}(h:(m4 lo n)[i]?=some t):t=.int (lo + (i:Int)):=by
 have hi:=eK h
 rw[m4,s_,KS hi]at h
 cases h
 rfl
theorem cx{α:Type}{g:α->T}{l:List α}{i:Nat}{t:T}(h:(l.map g)[i]?=some t):∃ x,l[i]?=some x/\t=g x:=by
 rw[s_]at h
 cases e:l[i]? with
 | none=>rw[e]at h;cases h
 | some x=>rw[e]at h;cases h;exact⟨x,rfl,rfl⟩
end
def HM(f g:PSt):PSt:=fun pe env=>∃ W:Ev->Prop,f { pe with nx:=W } env/\∀ e,W e->g pe e
theorem bc{X:Cx}{κ:Nat->Bool}{st:Of}{rest:List Of}{f g:PSt}(h1:GS κ X st f)(h2:GSs κ X rest g):GSs κ X (st::rest) (HM f g):=by
 refine PSs.imp (bj h1 h2) ?_
 rintro D σ H ⟨env,Fr,pe,rs,⟨W,q,w⟩,c⟩
 refine⟨env,Fr,_,rs,q,⟨fun env' σ' H' q1 rs1 k1=>⟨env',Fr,pe,rs1,w _ q1,c.later k1⟩,c.rt,c.bk,c.ct⟩⟩
theorem cv{f g:PSt}{pe:PEn}{env:Ev}(W:Ev->Prop)(h1:f { pe with nx:=W } env)(h2:∀ e,W e->g pe e):HM f g pe env:=⟨W,h1,h2⟩
section
variable{X:Cx}{pos:Pos}
def y6:T->Bool
 | .dK _ _=>true
 | .dT _ _=>true
 | _=>false
theorem zt{H:Hp}{Γ:Fm}{t:T}{y:V}(h:Rp X.K H ((t,some y)::Γ))(d:y6 t=true):∃ a,y=.ref a/\IsD H a:=by
 cases t with
 | dK o kvs=>
  obtain⟨a,vs,rfl,hq,_⟩:=qF h
  exact⟨a,rfl,.inl ⟨_,hq⟩⟩
 | dT o kvs=>
  obtain⟨a,vs,rfl,hq,_⟩:=hV h
  exact⟨a,rfl,.inr ⟨_,hq⟩⟩
 | _=>cases d
theorem dA{o:Bool}{kvs:List (List Key × T)}:y6 (.dT o kvs)=true:=rfl
end
end PL
namespace ZR
open PySem
theorem il{α β:Type}(f:α->β):∀(l:List α) (i:Nat),(l.map f).eraseIdx i=(l.eraseIdx i).map f
 | [],_=>rfl
 | _::_,0=>rfl
 | a::l,i + 1=>by
  simp only[d_,Mv]
  rw[il f l i]
theorem i5{prog:NW}{w:N3}{K:Type}[DecidableEq K]{knd:UW prog w K}{A:N_}{E:NK->NO->Prop}{s:NO}{d a:NN}{xs:List (K × NN × NK)}{k:K}{Q:Option O4->NO->Prop}(hr:knd.room A)(hk:knd.is s.heap k a)(D:QM knd s.heap d xs)(hsz:xs.length<=sizeLine)
  (h0:(∀(j:Nat) (p:NN × NK),xs[j]?≠some (k,p))->∀ tk,Q none { s with toks:=tk })
  (h1:∀(j:Nat) (p:NN × NK),xs[j]?=some (k,p)->∀ h' tk,QM knd h' d (xs.eraseIdx j)->OL d s.heap h'->Q (some (QC knd (k,p))) { s with heap:=h',toks:=tk }) :
  NT (N1 prog w) A (Si d (.ref a)) Q E s:=by
 obtain⟨o,es,ep,ho,hx,hd,he,his,hnd⟩:=D
 unfold Si
 refine Oj (NL (knd.pyHash hr hk ?_))
 refine NL (wpAny_dictFind_heap hr hk ho hd he his hnd (fun hn=>?_) (fun j p hj=>?_))
 ·exact NP (h0 hn _)
 refine NL (OE ho hd ?_)
 have hj':es[j]?=some (QC knd (k,p)):=by
  rw[<-i',he,s_,hj]
  rfl
 rw[hj']
 have hes:es.size=xs.length:=by rw[<-g_,he,a_]
 have hjl:j < es.size:=by rw[hes];exact(f_.mp hj).1
 refine NL (wpAny_updateDictKeys ho hd ?_ (by lia) (by have:=size_eraseIdxIfInBounds_le es j;lia))
 refine NP (h1 j p hj _ _ ?_ (O7 _ _ _))
 refine⟨_,_,ep + 1,PN _ ho (Obj.isFreed_of_dict (Sj hd _)),hx.mapDictKeys _,Sj hd _,?_,fun x hxm=>?_,?_⟩
 ·rw[Array.toList_eraseIdxIfInBounds,he,ZR.il]
 ·exact knd.keeps (his x ((Lf xs j).subset hxm)) ho hd (O7 ..)
 exact List.Nodup.sublist ((Lf xs j).map _) hnd
theorem sP{prog:NW}{w:N3}{K:Type}[DecidableEq K](kn:UW prog w K)(dd ak:NN)(more:List NK)(hmore:more=[]\/∃ y,more=[y]) :
  Vg prog w (OY.«dict.pop» ⟨.ref dd::.ref ak::more,[]⟩) (fun A R s=>kn.room A.in1/\∃ k xs j p,kn.is s.heap k ak/\QM kn s.heap dd xs/\xs.length<=sizeLine/\xs[j]?=some (k,p)/\
   ∀ h' tk,QM kn h' dd (xs.eraseIdx j)->OL dd s.heap h'->R (.ok (.ret p.2)) { s with heap:=h',toks:=tk }):=
 .of_wp fun A R s ⟨hu,k,xs,j,p,hk,D,hsz,hj,fin⟩=>by
  have D':=D
  obtain⟨o,es,ep,ho,hx,hd,he,his,hnd⟩:=D'
  have hne:es.isEmpty=false:=by
   have hes:es.size=xs.length:=by rw[<-g_,he,a_]
   have hjl:=(f_.mp hj).1
   cases hb:es.isEmpty with
   | false=>rfl
   | true=>rw[Array.isEmpty_iff_size_eq_zero]at hb;lia
  unfold OY.«dict.pop»
  refine NL ?_
  unfold Ri
  refine NL (QA (Su D) ?_)
  have kp:(keyPart (.ref ak)).isSome=false:=rfl
  rcases hmore with rfl | ⟨y,rfl⟩
  ·show NT _ _ (pure (dd,Oa ak,none)) _ _ s
   refine NP ?_
   simp only[kp,B_,if_false]
   refine NL (OE ho hd (NL (NP ?_)))
   simp only[hne,B_,if_false]
   refine NL (ZR.i5 hu hk D hsz (fun hno=>absurd hj (hno j p)) (fun i q hi h' tk D2 sb=>?_))
   obtain rfl:=Vd hnd hi hj
   obtain rfl:q=p:=by
    rw[hj]at hi
    exact(congrArg (·.2) (G_ hi)).symm
   simp only[M5,B_,if_false]
   exact NL (Qq (NP ⟨_,rfl,fin h' tk D2 sb⟩))
  show NT _ _ (pure (dd,Oa ak,(some y))) _ _ s
  refine NP ?_
  simp only[kp,B_,if_false]
  refine NL (OE ho hd (NL (NP ?_)))
  simp only[hne,B_,if_false]
  refine NL (ZR.i5 hu hk D hsz (fun hno=>absurd hj (hno j p)) (fun i q hi h' tk D2 sb=>?_))
  obtain rfl:=Vd hnd hi hj
  obtain rfl:q=p:=by
   rw[hj]at hi
   exact(congrArg (·.2) (G_ hi)).symm
  simp only[M5,B_,if_false]
  exact NL (Qq (NP ⟨_,rfl,fin h' tk D2 sb⟩))
end ZR
namespace L2
open PySem PySem.Spec PyProof.Rows
theorem KT.erase {H:Hp}{kvs:List (List Key × V)}{xs:List (List Key × NN × NK)}(r:KT H kvs xs):∀ j,KT H (kvs.eraseIdx j) (xs.eraseIdx j):=by
 induction r with
 | nil=>intro j;exact .nil
 | cons h t ih=>
  intro j
  cases j with
  | zero=>exact t
  | succ j=>exact .cons h (ih j)
theorem KT.get {H:Hp}{kvs:List (List Key × V)}{xs:List (List Key × NN × NK)}(r:KT H kvs xs):∀ {j:Nat} {k:List Key} {v:V},kvs[j]?=some (k,v)->∃ p,xs[j]?=some (k,p)/\RelV v p.2:=by
 induction r with
 | nil=>intro j k v e;cases e
 | @cons p q ps qs h t ih=>
  intro j k v e
  cases j with
  | zero=>
   cases e
   obtain⟨q1,q2⟩:=q
   obtain⟨rfl,_,h3⟩:=h
   exact⟨q2,rfl,h3⟩
  | succ j=>exact ih e
section
variable{X:Cx}{A:N_}{E:NK->NO->Prop}{pins:List (NN × Obj)}{σ:St}{H:Hp}{s:NO}{a b:NN}
theorem B3{kvs:List (List Key × V)}{k:List Key}{v:V}{j:Nat}{more:List NK}{Q:NK->NO->Prop}(hu:A.units + 1 < cLine)(I:Inv X pins σ H s)(e:H a=some (.dT kvs))(eb:H b=some (.tup (k.map kV)))(hj:kvs[j]?=some (k,v))(hm:more=[]\/∃ x,more=[x])
  (h:∀ w' s',Inv X pins σ (upd H a (.dT (kvs.eraseIdx j))) s'->RelV v w'->Q w' s'):NT (N1 X.prog X.w) A (call (.builtin "dict.pop") (.ref a::.ref b::more)) Q E s:=by
 obtain⟨z,hd,xs,rel,dd⟩:=zG I.hok e
 have hz:xs.length<=sizeLine:=by rw[<-OF rel];exact z
 obtain⟨p,hx,rp⟩:=rel.get hj
 have ha:argsOk "dict.pop" ⟨.ref a::.ref b::more,[]⟩:=by
  rcases hm with q | ⟨x,q⟩
  ·subst q;exact PySem.F.args_dict_pop_2 _ _
  subst q;exact RE _ _ _
 refine SF PU dd.typeIs RU ha (ZR.sP (Py (bx X.prog X.w)) a b more hm) ⟨PH hu,k,xs,j,p,kK I.hok eb,dd,hz,hx,fun h' tk dd' hs=>h _ _ ?_ rp⟩
 obtain⟨q,es,ep,hq,h2,h3,h4,_,h5⟩:=dd'
 have hl:(kvs.eraseIdx j).length<=sizeLine:=n_ (List.length_eraseIdx_le ..) z
 refine jS I (by rw[e];exact O1) hs ⟨q,hq⟩ ⟨hl,hd,_,(rel.erase j).keeps fun c ys ec=>?_,q,es,ep,hq,h2,h3,h4,h5⟩
 rw[aH (xw ec e (fun z=>nomatch z))]
 exact ec
end
end L2
namespace PL
open PySem PySem.Spec PyProof.Rows L2
section
variable{X:Cx}{pos:Pos}
theorem sZ:∀ {ts:List T} {vs:List V} {j:Nat} {t:T} {v:V},ts[j]?=some t->vs[j]?=some v->(zz ts vs).Perm ((t,some v)::zz (ts.eraseIdx j) (vs.eraseIdx j))
 | [],_,_,_,_,h,_=>by cases h
 | _::_,[],_,_,_,_,h=>by cases h
 | a::ts,b::vs,0,t,v,h,g=>by cases h;cases g;exact .refl _
 | a::ts,b::vs,j + 1,t,v,h,g=>by
  have:=sZ (ts:=ts) (vs:=vs) (j:=j) h g
  exact(MG (a,some b) this).trans (.swap _ _ _)
theorem fu{α β:Type}(f:α->β):∀(l:List α) (j:Nat),(l.eraseIdx j).map f=(l.map f).eraseIdx j
 | [],_=>rfl
 | _::_,0=>rfl
 | a::l,j + 1=>by
  rw[Mv,d_,fu f l j];rfl
noncomputable def gw(kvs:List (List Key × T))(q:List Key):Option (T × List (List Key × T)):=(kvs.findIdx? fun kv=>decide (kv.1=q)).bind fun j=>(kvs[j]?).map fun kv=>(kv.2,kvs.eraseIdx j)
theorem nQ{kvs:List (List Key × T)}{q:List Key}{r:T × List (List Key × T)}(h:gw kvs q=some r):∃ j,kvs[j]?=some (q,r.1)/\r.2=kvs.eraseIdx j:=by
 unfold gw at h
 cases e:kvs.findIdx? fun kv=>decide (kv.1=q)with
 | none=>rw[e]at h;cases h
 | some j=>
  rw[e,Kq]at h
  obtain⟨hj,hq,_⟩:=KJ.mp e
  rw[b_ hj]at h
  cases h
  refine⟨j,?_,rfl⟩
  rw[b_ hj]
  have:=of_decide_eq_true hq
  rw[<-this]
def mK(t y:T)(k:T->T->Prop):Prop:=match t with
 | .dT true kvs=>match y with
  | .tup ks=>got (i9 ks) fun q=>got (gw kvs q) fun r=>k (.dT true r.2) r.1
  | _=>False
 | _=>False
def zu(i:Nat)(fe:PF):PF:=fun env k=>got (env[i]?) fun t0=>y6 t0=true/\fe env fun y env1=>got (env1[i]?) fun t=>mK t y fun t' u=>k u (env1.set i t')
theorem Bw{H:Hp}{Γ:Fm}{t y:T}{v w:V}{k:T->T->Prop}(h:Rp X.K H ((t,some w)::(y,some v)::Γ))(g:mK t y k):∃ a kvs q b j x u t',w=.ref a/\H a=some (.dT kvs)/\v=.ref b/\H b=some (.tup (q.map kV))/\kvs[j]?=some (q,x)/\k t' u/\∀ H',Put H a (.dT (kvs.eraseIdx j)) H'->Rp X.K H' ((u,some x)::(t',some (.ref a))::Γ):=by
 unfold mK at g
 split at g
 ·rename_i kvs
  cases y <;> first | exact N4 g | skip
  rename_i ks
  obtain⟨q,eq,g⟩:=aI g
  obtain⟨r,er,kt⟩:=aI g
  obtain⟨j,hj,e2⟩:=nQ er
  obtain⟨b,rfl,hb⟩:=jG eq (h.perm (.swap _ _ _))
  obtain⟨a,vs,ea,ha,la,rp2⟩:=mO h
  cases ea
  have hk:(vs.map (·.1))[j]?=some q:=by rw[<-la,s_,hj];rfl
  rw[s_]at hk
  cases ev:vs[j]? with
  | none=>rw[ev]at hk;cases hk
  | some p=>
   rw[ev]at hk
   obtain⟨p1,x⟩:=p
   have:p1=q:=by simpa using hk
   subst this
   refine⟨a,vs,p1,b,j,x,r.1,_,rfl,ha,rfl,hb,ev,kt,fun H' hp=>?_⟩
   have e3:(kvs.map (·.2))[j]?=some r.1:=by rw[s_,hj];rfl
   have e4:(vs.map (·.2))[j]?=some x:=by rw[s_,ev];rfl
   rw[e2]
   have rp3:Rp X.K H ((.bare,some (.ref a))::(zz ((kvs.eraseIdx j).map (·.2)) ((vs.eraseIdx j).map (·.2))++((r.1,some x)::Γ))):=by
    rw[fu,fu]
    have:Rp X.K H ((.tup ks,some (.ref b))::((.bare,some (.ref a))::(zz ((kvs.map (·.2)).eraseIdx j) ((vs.map (·.2)).eraseIdx j)++((r.1,some x)::Γ)))):=rp2.perm (by
     refine w_ (.cons _ ((sZ e3 e4).append_right _)) ?_
     refine w_ (.cons _ (.cons _ gV)) ?_
     refine w_ (.cons _ (.swap _ _ _)) ?_
     refine w_ (.swap _ _ _) (.cons _ (.cons _ ?_))
     exact gV.symm)
    exact this.tail
   exact(oR rp3 (by rw[fu,fu,la]) hp).perm (.swap _ _ _)
 exact N4 g
theorem Bq{kr i:Nat}{x:Str}{xp:Pos}{e:N2}{apos:Pos}{fe:PF}(hr:Room kr X.A)(he:GE X e fe)(m:M1 X (.Name x xp) "pop" apos e pos)(hN:X.N[i]?=some x:=by rfl)(hv:Vis X.env.scope x:=by first | exact e_ rfl | exact k_ (e_ rfl) | exact k_ (k_ rfl))(hd:(x ==("__debug__":Str))=false:=by decide)(hcd:(x ==("__classdict__":Str))=false:=by decide):GE X (.Call (.Attribute (.Name x xp) "pop" apos) [e] [] pos) (zu i fe):=by
 rintro pins s σ H Q I ⟨env,Fr,k,rs,q,c⟩
 obtain⟨t0,e0,d0,q⟩:=aI q
 obtain⟨y0,ey,rs2⟩:=rs.slot e0
 have na:isAny t0=false:=by cases t0 <;> first | rfl | cases d0
 obtain⟨w,rfl⟩:=fL rs2 na
 obtain⟨a,rfl,hD⟩:=zt rs2.head d0
 refine SS m.base m.few m.line RF PU R5 (thn (gA hN hv hd hcd pins s σ H (fun x H1=>x=.ref a/\H1=H) I ⟨_,ey,rfl,rfl⟩) fun u s1 ⟨x1,H1,I1,rx,e1,e2⟩=>?_)
 subst e1 e2
 obtain rfl:u=Oa a:=rx
 obtain⟨t1,t2,_⟩:=AO I1 hD
 refine⟨t1,t2,?_⟩
 rw[m.trees]
 refine PK rfl (QF (Qb (thn (he pins s1 σ H1 (fun yv H2=>∃ kvs q b j x,H2 a=some (.dT kvs)/\yv=.ref b/\H2 b=some (.tup (q.map kV))/\kvs[j]?=some (q,x)/\Q x (upd H2 a (.dT (kvs.eraseIdx j)))) I1 ⟨env,Fr,_,rs,q,fun ty env1 v H2 q2 rs3=>?_⟩) fun iv s2 ⟨y,H2,I2,ry,kvs,q2,b,j,x2,h1,h2,h3,h4,h5⟩=>Rk ?_)))
 ·obtain⟨t,et,g⟩:=aI q2
  obtain⟨y',ey',rs4⟩:=rs3.slot et
  rw[ey]at ey'
  cases ey'
  have hi':i < env1.length:=(f_.mp et).1
  have rp4:Rp X.K H2 ((t,some (.ref a))::(ty,some v)::((env1.set i .any).zip σ++Fr)):=rs4.head.perm (.cons _ gV)
  obtain⟨a',kvs,q3,b,j,x2,u2,t',ea,h1,h2,h3,h4,kt,fin⟩:=Bw rp4 g
  cases ea
  refine⟨kvs,q3,b,j,x2,h1,h2,h3,h4,c _ _ _ _ kt ?_⟩
  have rp5:=fin _ Put.up
  have r5:Rs X.K (upd H2 a (.dT (kvs.eraseIdx j))) (env1.set i .any) σ ((t',some (.ref a))::(u2,some x2)::Fr):=.of rs4.1 (rp5.perm (.trans (.swap _ _ _) (.cons _ gV.symm)))
  have r6:=Rs.jw (i:=i) r5 (by rw[JL];exact hi') ey
  rw[Lz]at r6
  exact r6
 subst h2
 cases (show iv=Oa b from ry)
 exact B3 (iF hr) I2 h1 h3 h4 (.inl rfl) fun w' s' I' rw'=>⟨_,_,I',rw',h5⟩
theorem bI{i:Nat}{fe:PF}{env:Ev}{k:T->Ev->Prop}:zu i fe env k=eP (env[i]?) (k:=⟨fun t0=>y6 t0=true/\fe env fun y env1=>eP (env1[i]?) (k:=⟨fun t=>mK t y fun t' u=>k u (env1.set i t')⟩)⟩):=rfl
theorem vQ{kvs:List (List Key × T)}{ks:List T}{k:T->T->Prop}:mK (.dT true kvs) (.tup ks) k=eP (i9 ks) (k:=⟨fun q=>eP (gw kvs q) (k:=⟨fun r=>k (.dT true r.2) r.1⟩)⟩):=rfl
end
end PL
namespace ZR
open PySem
theorem qt{prog:NW}{w:N3}{K:Type}[DecidableEq K](kn:UW prog w K)(dd ak:NN)(y:NK)(hS:(dd == Ol)=false) :
  Vg prog w (OY.«dict.pop» ⟨[.ref dd,.ref ak,y],[]⟩) (fun A R s=>kn.room A.in1/\∃ k xs,kn.is s.heap k ak/\QM kn s.heap dd xs/\xs.length<=sizeLine/\(∀(j:Nat) (p:NN × NK),xs[j]?≠some (k,p))/\
   ∀ tk,R (.ok (.ret y)) { s with toks:=tk }):=
 .of_wp fun A R s ⟨hu,k,xs,hk,D,hsz,hj,fin⟩=>by
  have D':=D
  obtain⟨o,es,ep,ho,hx,hd,he,his,hnd⟩:=D'
  unfold OY.«dict.pop»
  refine NL ?_
  unfold Ri
  refine NL (QA (Su D) ?_)
  have kp:(keyPart (.ref ak)).isSome=false:=rfl
  show NT _ _ (pure (dd,Oa ak,(some y))) _ _ s
  refine NP ?_
  simp only[kp,B_,if_false]
  refine NL (OE ho hd (NL (NP ?_)))
  cases hb:es.isEmpty with
  | true=>
   simp only[if_true]
   refine NL (PD ?_)
   refine NL (NP ?_)
   simp only[M6,if_true]
   refine NL (Ro hS ?_)
   exact NL (PD (NP ⟨_,rfl,fin s.toks⟩))
  | false=>
   simp only[B_,if_false]
   refine NL (ZR.i5 hu hk D hsz (fun hno tk=>?_) (fun i q hi h' tk D2 sb=>absurd hi (hj i q)))
   simp only[M6,if_true]
   refine NL (Ro hS ?_)
   exact NL (PD (NP ⟨_,rfl,fin tk⟩))
end ZR
namespace L2
open PySem PySem.Spec PyProof.Rows
theorem KT.back {H:Hp}{kvs:List (List Key × V)}{xs:List (List Key × NN × NK)}(r:KT H kvs xs):∀ {j:Nat} {k:List Key} {p:NN × NK},xs[j]?=some (k,p)->∃ v,kvs[j]?=some (k,v):=by
 induction r with
 | nil=>intro j k v e;cases e
 | @cons p q ps qs h t ih=>
  intro j k v e
  cases j with
  | zero=>
   cases e
   obtain⟨p1,p2⟩:=p
   obtain⟨rfl,_,_⟩:=h
   exact⟨p2,rfl⟩
  | succ j=>exact ih e
section
variable{X:Cx}{A:N_}{E:NK->NO->Prop}{pins:List (NN × Obj)}{σ:St}{H:Hp}{s:NO}{a b:NN}
theorem GK{kvs:List (List Key × V)}{k:List Key}{x:NK}{Q:NK->NO->Prop}(hu:A.units + 1 < cLine)(I:Inv X pins σ H s)(e:H a=some (.dT kvs))(eb:H b=some (.tup (k.map kV)))(hj:∀ p∈kvs,p.1≠k)
  (h:∀ s',Inv X pins σ H s'->Q x s'):NT (N1 X.prog X.w) A (call (.builtin "dict.pop") [.ref a,.ref b,x]) Q E s:=by
 obtain⟨z,hd,xs,rel,dd⟩:=zG I.hok e
 have hz:xs.length<=sizeLine:=by rw[<-OF rel];exact z
 refine SF PU dd.typeIs RU (RE _ _ _) (ZR.qt (Py (bx X.prog X.w)) a b x hd) ⟨PH hu,k,xs,kK I.hok eb,dd,hz,fun j p hx=>?_,fun tk=>h _ (I.kept (t':=tk) fun b ob q=>q)⟩
 obtain⟨v,ev⟩:=rel.back hx
 exact hj _ (JY ev) rfl
end
end L2
namespace PL
open PySem PySem.Spec PyProof.Rows L2
section
variable{X:Cx}{pos:Pos}
theorem Bj{kvs:List (List Key × T)}{q:List Key}(h:gw kvs q=none):∀ p∈kvs,p.1≠q:=by
 unfold gw at h
 cases e:kvs.findIdx? fun kv=>decide (kv.1=q)with
 | none=>
  intro p m z
  have:=Mi.mp e p m
  rw[decide_eq_true z]at this
  cases this
 | some j=>
  rw[e,Kq]at h
  obtain⟨hj,_,_⟩:=KJ.mp e
  rw[b_ hj]at h
  cases h
def kT(t y z:T)(k:T->T->Prop):Prop:=match t with
 | .dT true kvs=>match y with
  | .tup ks=>got (i9 ks) fun q=>match gw kvs q with
   | some r=>k (.dT true r.2) r.1
   | none=>k (.dT true kvs) z
  | _=>False
 | _=>False
def zM(i:Nat)(fe ff:PF):PF:=fun env k=>got (env[i]?) fun t0=>y6 t0=true/\fe env fun y env1=>ff env1 fun z env2=>got (env2[i]?) fun t=>kT t y z fun t' u=>k u (env2.set i t')
theorem BB{H:Hp}{Γ:Fm}{t y z:T}{v w u:V}{k:T->T->Prop}(h:Rp X.K H ((t,some w)::(y,some v)::(z,some u)::Γ))(g:kT t y z k):∃ a kvs q b,w=.ref a/\H a=some (.dT kvs)/\v=.ref b/\H b=some (.tup (q.map kV))/\
  ((∃ j x t' u',kvs[j]?=some (q,x)/\k t' u'/\∀ H',Put H a (.dT (kvs.eraseIdx j)) H'->Rp X.K H' ((u',some x)::(t',some (.ref a))::Γ))\/((∀ p∈kvs,p.1≠q)/\∃ t',k t' z/\Rp X.K H ((z,some u)::(t',some (.ref a))::Γ))):=by
 unfold kT at g
 split at g
 ·rename_i kvs
  cases y <;> first | exact N4 g | skip
  rename_i ks
  obtain⟨q,eq,g⟩:=aI g
  cases er:gw kvs q with
  | some r=>
   rw[er]at g
   have g1:mK (.dT true kvs) (.tup ks) k:=by rw[vQ];exact bz eq (bz er g)
   obtain⟨a,vs,q',b,j,x,u',t',e1,e2,e3,e4,e5,kt,fin⟩:=Bw h g1
   refine⟨a,vs,q',b,e1,e2,e3,e4,.inl ⟨j,x,t',u',e5,kt,fun H' hp=>?_⟩⟩
   have:=fin H' hp
   have:=this.perm (.trans (.cons _ (.swap _ _ _)) (.swap _ _ _))
   exact this.tail
  | none=>
   rw[er]at g
   obtain⟨b,rfl,hb⟩:=jG eq (h.perm (.swap _ _ _))
   obtain⟨a,vs,ea,ha,la,rp2⟩:=mO h
   cases ea
   refine⟨a,vs,q,b,rfl,ha,rfl,hb,.inr ⟨fun p m=>?_,_,g,?_⟩⟩
   ·have m1:p.1∈vs.map (·.1):=I_ m
    rw[<-la]at m1
    obtain⟨p',m',e'⟩:=y_.mp m1
    rw[<-e']
    exact Bj er p' m'
   have:=h.perm (.swap _ _ _)
   exact this.tail.perm (.swap _ _ _)
 exact N4 g
theorem AB{kr i:Nat}{x:Str}{xp:Pos}{e f:N2}{apos:Pos}{fe ff:PF}(hr:Room kr X.A)(he:GE X e fe)(hf:GE X f ff)(m:M2 X (.Name x xp) "pop" apos e f pos)(hN:X.N[i]?=some x:=by rfl)(hv:Vis X.env.scope x:=by first | exact e_ rfl | exact k_ (e_ rfl) | exact k_ (k_ rfl))(hd:(x ==("__debug__":Str))=false:=by decide)(hcd:(x ==("__classdict__":Str))=false:=by decide):GE X (.Call (.Attribute (.Name x xp) "pop" apos) [e,f] [] pos) (zM i fe ff):=by
 intro pins s σ H Q I ⟨env,Fr,k,rs,q,c⟩
 obtain⟨t0,e0,d0,q⟩:=aI q
 obtain⟨y0,ey,rs2⟩:=rs.slot e0
 have na:isAny t0=false:=by cases t0 <;> first | rfl | cases d0
 obtain⟨w,rfl⟩:=fL rs2 na
 obtain⟨a,rfl,hD⟩:=zt rs2.head d0
 refine SS m.base m.few m.line RF PU R5 (thn (gA hN hv hd hcd pins s σ H (fun x H1=>x=.ref a/\H1=H) I ⟨_,ey,rfl,rfl⟩) fun u s1 ⟨x1,H1,I1,rx,e1,e2⟩=>?_)
 subst e1 e2
 obtain rfl:u=Oa a:=rx
 obtain⟨t1,t2,_⟩:=AO I1 hD
 refine⟨t1,t2,?_⟩
 rw[m.trees]
 refine PK rfl (QF (Qb (thn (he pins s1 σ H1 _ I1 ⟨env,Fr,_,rs,q,fun ty env1 v H2 q2 rs3=>⟨env1,_,_,rs3,q2,fun tz env2 vz H3 q3 rs4=>?_⟩⟩) fun iv s2 ⟨y,H2,I2,ry,q2⟩=>Qb (thn (hf pins s2 σ H2 (fun zv H3=>∃ kvs q b,H3 a=some (.dT kvs)/\y=.ref b/\H3 b=some (.tup (q.map kV))/\((∃ j x,kvs[j]?=some (q,x)/\Q x (upd H3 a (.dT (kvs.eraseIdx j))))\/((∀ p∈kvs,p.1≠q)/\Q zv H3))) I2 q2) fun jv s3 ⟨z,H3,I3,rz,kvs,q3,b,h1,h2,h3,h4⟩=>Rk ?_))))
 ·subst h2
  cases (show iv=Oa b from ry)
  rcases h4 with⟨j,x2,h4,h5⟩ | ⟨h4,h5⟩
  ·exact B3 (iF hr) I3 h1 h3 h4 (.inr ⟨_,rfl⟩) fun w' s' I' rw'=>⟨_,_,I',rw',h5⟩
  exact GK (iF hr) I3 h1 h3 h4 fun s' I'=>⟨_,_,I',rz,h5⟩
 obtain⟨t,et,g⟩:=aI q3
 obtain⟨y',ey',rs5⟩:=rs4.slot et
 rw[ey]at ey'
 cases ey'
 have hi':i < env2.length:=(f_.mp et).1
 have rp4:Rp X.K H3 ((t,some (.ref a))::(ty,some v)::(tz,some vz)::((env2.set i .any).zip σ++Fr)):=rs5.head.perm (.cons _ (w_ gV (w_ (.cons _ gV) (.swap _ _ _))))
 obtain⟨a',kvs,q4,b,ea,h1,h2,h3,h4⟩:=BB rp4 g
 cases ea
 have back:∀(H':Hp) (t' u':T) (x:V),Rp X.K H' ((u',some x)::(t',some (.ref a))::((env2.set i .any).zip σ++Fr))->Rs X.K H' (env2.set i t') σ ((u',some x)::Fr):=fun H' t' u' x rp5=>by
  have r5:Rs X.K H' (env2.set i .any) σ ((t',some (.ref a))::(u',some x)::Fr):=.of rs5.1 (rp5.perm (.trans (.swap _ _ _) (.cons _ gV.symm)))
  have r6:=Rs.jw (i:=i) r5 (by rw[JL];exact hi') ey
  rw[Lz]at r6
  exact r6
 refine⟨kvs,q4,b,h1,h2,h3,?_⟩
 rcases h4 with⟨j,x2,t',u',h4,kt,fin⟩ | ⟨h4,t',kt,rp5⟩
 ·exact .inl ⟨j,x2,h4,c _ _ _ _ kt (back _ _ _ _ (fin _ Put.up))⟩
 exact .inr ⟨h4,c _ _ _ _ kt (back _ _ _ _ rp5)⟩
theorem bZ{i:Nat}{fe ff:PF}{env:Ev}{k:T->Ev->Prop}:zM i fe ff env k=eP (env[i]?) (k:=⟨fun t0=>y6 t0=true/\fe env fun y env1=>ff env1 fun z env2=>eP (env2[i]?) (k:=⟨fun t=>kT t y z fun t' u=>k u (env2.set i t')⟩)⟩):=rfl
theorem yQ{kvs:List (List Key × T)}{ks:List T}{z:T}{k:T->T->Prop}:kT (.dT true kvs) (.tup ks) z k=eP (i9 ks) (k:=⟨fun q=>match gw kvs q with
   | some r=>k (.dT true r.2) r.1
   | none=>k (.dT true kvs) z⟩):=rfl
end
section
variable{X:Cx}{κ:Nat->Bool}{es:List N2}{pos:Pos}{gs:lZ}
theorem k9{prog:NW}{w:N3}{A:N_}{E:NK->NO->Prop}{s:NO}{env:Env}{elts:List N2}{x1}{pos:Pos}{l:NN}{items:Array NK}{Q:Unit->NO->Prop}(hh:A.handled=none)(hl:s.heap.IsList l items)
  (hn:(Oy elts env).length=items.size) (hstar:(Oy elts env).findIdx? (·.1)=none)
  (h:∀ h',Qp s.heap.objs.size s.heap h'->NT (N1 prog w) A (Q9 ((Oy elts env).map (·.2)) items.toList) Q E { s with heap:=h' }) :
  NT (N1 prog w) A (Qa (.Tuple elts x1 pos) env (.ref l)) Q E s:=by
 rw[assign_Tuple]
 refine NL (Pq ?_)
 unfold unpack
 rw[hn,hstar]
 exact NL (Oj (PySem.W.kun_itemsOf hh hl h))
theorem G2{k:Nat}{t:TGs}{n:Nat}(hc:X.calm=true)(h:PGs X es t)
  (hn:(Oy es X.env).length=n:=by rfl) (hst:(Oy es X.env).findIdx? (·.1)=none:=by rfl):PG X (.Tuple es k pos) (fun v σ H Q=>∃ a xs,v=.ref a/\SqL X.K H a xs/\xs.length=n/\t xs σ H Q):=by
 intro pins s σ H v u Q I r hw
 obtain⟨a,xs,e1,hq,hl,hw⟩:=hw
 subst e1
 cases r
 obtain⟨its,rv,ht,hz⟩:=I.list hq
 refine k9 (I.ok.hd hc) ht.isList (by simp[hn,<-hl,rv.length]) hst fun h' hx=>?_
 have I1:L2.Inv X pins σ H { s with heap:=h' }:=I.kept (t':=s.toks) fun b o e=>hx b o (yp (NY e)) e
 exact h pins _ σ H xs _ Q I1 (by simpa using rv) hw
def gTq(n:Nat)(f:lZ):PG':=fun t env k=>match t with
 | .tup ts=>ts.length=n/\f ts env k
 | .cst ts=>ts.length=n/\f ts env k
 | .lst _ ts=>ts.length=n/\f ts env k
 | _=>False
theorem dk{n:Nat}{ts:List T}{env:Ev}{k:Ev->Prop}:gTq n gs (.tup ts) env k=(ts.length=n/\gs ts env k):=rfl
theorem dO{n:Nat}{o:Bool}{ts:List T}{env:Ev}{k:Ev->Prop}:gTq n gs (.lst o ts) env k=(ts.length=n/\gs ts env k):=rfl
theorem vW{x1 n:Nat}(hc:X.calm=true)(h:GGs κ X es gs)(hn:(Oy es X.env).length=n:=by rfl)(hst:(Oy es X.env).findIdx? (·.1)=none:=by rfl):GG κ X (.Tuple es x1 pos) (gTq n gs):=by
 rintro pins s σ H v u Q I r ⟨t,env,Fr,k,rs,q,c⟩
 cases t with
 | tup ts=>exact fm hc h hn hst pins s σ H v u Q I r ⟨.tup ts,env,Fr,k,rs,q,c⟩
 | cst ts=>exact fm hc h hn hst pins s σ H v u Q I r ⟨.cst ts,env,Fr,k,rs,q,c⟩
 | lst o ts=>
  obtain⟨a,vs,rfl,hq,l,rp⟩:=aF rfl rs.head
  refine G2 hc h hn hst pins s σ H _ u Q I r ⟨a,vs,rfl,hq,by rw[<-l];exact q.1,ts,env,Fr,k,l,⟨rs.1,?_⟩,q.2,c⟩
  exact rp.perm (o_ _ _ _)
 | _=>exact N4 q
end
open PySem L2
def qc:P1s
 | [.dT _ kvs],k=>∃ ks:List (List Int),kvs.map (·.1)=ks.map kI/\(∀ q∈ks,q≠[])/\(ks.Nodup->k (.lst true (ks.map iT)))
 | _,_=>False
section
variable{X:Cx}
theorem xQ{H:Hp}:∀ {bs:List NN} {kvs:List (List Key × V)} {ks:List (List Int)},Pw (fun(b:NN) (p:List Key × V)=>H b=some (.tup (p.1.map kV))) bs kvs->kvs.map (·.1)=ks.map kI->(∀ k∈ks,k≠[])->tL H (bs.map V.ref) ks:=by
 intro bs kvs ks h
 induction h generalizing ks with
 | nil=>
  intro e _
  cases ks with
  | nil=>exact .nil
  | cons a b=>simp at e
 | cons h t ih=>
  intro e hn
  cases ks with
  | nil=>simp at e
  | cons a b=>
   rw[d_,d_,Kg]at e
   refine .cons ⟨hn a v_,_,rfl,?_⟩ (ih e.2 fun k hk=>hn k (l_ _ hk))
   rw[h,e.1,G9]
theorem gy(hc:X.calm=true):gu X (.type "list") qc:=by
 rintro pins s σ H xs us Q I r ⟨ts,Γ,k,l,rp,g,c⟩
 unfold qc at g
 split at g
 ·rename_i k o kvs
  obtain⟨x,rfl⟩:=zz1 l rfl
  have rp:Rp X.K H ((.dT o kvs,some x)::Γ):=rp
  obtain⟨a,vs,rfl,hq,ek,rp2⟩:=hV rp
  obtain⟨ks,e1,e2,kt⟩:=g
  refine v9 hc pins s σ H _ us Q I r ⟨a,vs,rfl,hq,fun bs pr nd p H' hp g' e'=>?_⟩
  have nd':ks.Nodup:=by
   rw[<-ek,e1]at nd
   exact(JW.mp nd).imp fun{a b} h z=>h (by rw[z])
  refine c _ _ _ (kt nd') ?_
  obtain⟨rp3,l3⟩:=kl (xQ pr (by rw[<-ek];exact e1) e2) rp.tail
  exact fO rp3 l3 hp g' e'
 exact N4 g
end
theorem Ba{o:Bool}{kvs:List (List Key × T)}{k:T->Prop}:qc [.dT o kvs] k=∃ ks:List (List Int),kvs.map (·.1)=ks.map kI/\(∀ q∈ks,q≠[])/\(ks.Nodup->k (.lst true (ks.map iT))):=rfl
section
variable{X:Cx}{pos pos2 p p2:Pos}{a e k tg:N2}{fe fa fk:PF}{fr:PFs}
theorem Bu{H:Hp}{ts:List T}{vs:List V}{Γ:Fm}{i:Nat}{t:T}{w:V}(h:Rp X.K H (zz ts vs++Γ))(e:ts[i]?=some t)(f:vs[i]?=some w)(n:aU t=true):Rp X.K H ((t,some w)::(zz ts vs++Γ)):=by
 obtain⟨r,p⟩:=qm e f
 have h1:Rp X.K H ((t,some w)::(r++Γ)):=h.perm (p.append_right Γ)
 exact(iu h1 n).perm (.cons _ (p.symm.append_right Γ))
theorem qY{H:Hp}{ts:List T}{vs:List V}{Γ:Fm}(l:ts.length=vs.length)(n:ba ts=true)(h:Rp X.K H (zz ts vs++Γ)):∀(is:List Nat),Rp X.K H (zz (is.filterMap (ts[·]?)) (is.filterMap (vs[·]?))++(zz ts vs++Γ))/\(is.filterMap (ts[·]?)).length=(is.filterMap (vs[·]?)).length:=by
 intro is
 induction is with
 | nil=>exact⟨h,rfl⟩
 | cons i is ih=>
  by_cases hi:i < ts.length
  ·have e1:ts[i]?=some ts[i]:=b_ hi
   have e2:vs[i]?=some (vs[i]'(by omega)):=b_ _
   rw[KP e1,KP e2]
   refine⟨?_,congrArg NJ ih.2⟩
   have hn:aU ts[i]=true:=by
    rw[ju,Li]at n
    exact n _ (Kc hi)
   have h2:=Bu (Γ:=zz (is.filterMap (ts[·]?)) (is.filterMap (vs[·]?))++Γ) (ih.1.perm (o_ _ _ _)) e1 e2 hn
   exact h2.perm (.cons _ (o_ _ _ _))
  rw[KQ (Kj (by omega)),KQ (Kj (by omega))]
  exact ih
noncomputable def Gq(fe fa fk:PF):PF:=fun env k=>fe env fun t env1=>fa env1 fun u env2=>fk env2 fun v env3=>∃ o ts i j,t=.lst o ts/\u=.int i/\v=.int j/\ba ts=true/\0<=i/\0 < j/\k (.lst true (bt ts i j)) env3
theorem xH(he:GE X e fe)(ha:GE X a fa)(hk:GE X k fk):GE X (.Subscript e (.Slice (some a) none (some k) p2) pos) (Gq fe fa fk):=by
 refine PE.imp (yl he ha hk) ?_
 rintro σ H Q ⟨env,Fr,k,rs,q,c⟩
 refine⟨env,Fr,_,rs,q,fun t env1 v H1 q1 rs1=>⟨env1,_,_,rs1,q1,fun u env2 w H2 q2 rs2=>⟨env2,_,_,rs2,q2,fun x env3 y H3 q3 rs3=>?_⟩⟩⟩
 obtain⟨o,ts,i,j,rfl,rfl,rfl,hn,h0,h1,q⟩:=q3
 have ey:=aV rs3.head
 have ew:=aV rs3.drop.head
 obtain⟨a,vs,ea,hq,l,rp⟩:=aF rfl rs3.drop.drop.head
 refine⟨i,j,a,vs,ew,ey,h0,h1,ea,hq,fun p H' hp g e=>c _ _ _ _ q (.of rs3.1 ?_)⟩
 obtain⟨r1,r2⟩:=qY l hn rp (Ql (max 0 (min i ts.length)) ts.length j)
 have r3:Rp X.K H3 (zz (bt ts i j) (bt vs i j)++(env3.zip σ++Fr)):=by
  unfold bt
  rw[<-l]
  exact(r1.perm (o_ _ _ _)).part
 exact fO r3 (by unfold bt;rw[<-l];exact r2) hp g e
end
end PL
namespace ZS
open PySem PyProof.Rows
open PySem.SeqAt PySem.MeetsSeq PySem.MeetsSeq2 PySem.MeetsSeq3
open AutoSeq1 (wpAny_loadPart')
theorem BO:∀(x y:List Int),x=[]\/y=[]->ltL x y=decide (x.length < y.length)
 | [],[],_=>rfl
 | [],_::_,_=>by rw[ltL];simp
 | _::_,[],_=>by rw[ltL];simp
 | _::_,_::_,h=>by rcases h with h | h <;> cases h
theorem zJ(l b:NN)(items items2:Array NK)(n n2:Nat)(dd dd2:Option NN)(sl sl2:Array (Option NK))(ia:AllInt items.toList)(ib:AllInt items2.toList)(k:Nat) :
  ∀ i:Nat,items.size - i=k->Tp (OY.«list.__eq__.loop» ⟨[.ref l,.ref b,O' i,O' 0],[]⟩)
   (fun A R s=>s.heap.get? l=some { cls:=.type "list",dict:=dd,data:=.seq items n,slots:=sl }/\s.heap.get? b=some { cls:=.type "list",dict:=dd2,data:=.seq items2 n2,slots:=sl2 }/\i<=items.size/\i<=items2.size/\
    R (.ok (.ret (.bool (ltL ((items.toList.map d9).drop i) ((items2.toList.map d9).drop i))))) s):=by
 have fin:∀ i:Nat,i<=items.size->i<=items2.size->(i=items.size\/i=items2.size)->Tp (OY.«list.__eq__.loop» ⟨[.ref l,.ref b,O' i,O' 0],[]⟩)
   (fun A R s=>s.heap.get? l=some { cls:=.type "list",dict:=dd,data:=.seq items n,slots:=sl }/\s.heap.get? b=some { cls:=.type "list",dict:=dd2,data:=.seq items2 n2,slots:=sl2 }/\R (.ok (.ret (.bool (ltL ((items.toList.map d9).drop i) ((items2.toList.map d9).drop i))))) s):=by
  intro i h1 h2 h3 prog w A R s h
  obtain⟨hp,g,d,tk,os⟩:=s;obtain⟨hl,hb,h⟩:=h
  have e1:ltL ((items.toList.map d9).drop i) ((items2.toList.map d9).drop i)=decide (items.size < items2.size):=by
   rw[BO _ _ (by rw[MM,MM,a_,a_,g_,g_];omega),C',C',a_,a_,g_,g_,decide_eq_decide]
   omega
  rw[e1]at h
  wp_walk using OK hl,OK hb
  have hi:items[((i:Nat):Int).toNat]?=none\/items2[((i:Nat):Int).toNat]?=none:=by
   rcases h3 with h3 | h3
   ·left;simp;omega
   right;simp;omega
  split
  ·rename_i e2
   rcases hi with hi | hi
   ·rw[hi]at e2;cases (Nc e2).1
   rw[hi]at e2;cases (Nc e2).2
  wp_walk using OK hl,OK hb
  exact h
 have at':∀(xs:Array NK) (i:Nat) (h:i < xs.size),AllInt xs.toList->∃ a t,xs[i]=.int a t/\(xs.toList.map d9).drop i=a::(xs.toList.map d9).drop (i + 1):=fun xs i h ha=>by
  have hm:xs[i]∈xs.toList:=by simp
  obtain⟨a,t,e⟩:=ha _ hm
  refine⟨a,t,e,?_⟩
  rw[KI (by rw[a_,g_];exact h)]
  congr 1
  rw[List.getElem_map,Array.getElem_toList,e]
  rfl
 induction k with
 | zero=>
  intro i hk prog w A R s h
  exact fin i h.2.2.1 h.2.2.2.1 (by omega) prog w A R s ⟨h.1,h.2.1,h.2.2.2.2⟩
 | succ k ih=>
  intro i hk prog w A R s h
  by_cases h3:i=items2.size
  ·exact fin i h.2.2.1 h.2.2.2.1 (.inr h3) prog w A R s ⟨h.1,h.2.1,h.2.2.2.2⟩
  obtain⟨hp,g,d,tk,os⟩:=s;obtain⟨hl,hb,l1,l2,h⟩:=h
  have hlt:i < items.size:=by omega
  have hlt2:i < items2.size:=by omega
  obtain⟨a,ta,ea,da⟩:=at' items i hlt ia
  obtain⟨c,tc,ec,dc⟩:=at' items2 i hlt2 ib
  have hi1:items[((i:Nat):Int).toNat]?=some (.int a ta):=by simp[hlt,ea]
  have hi2:items2[((i:Nat):Int).toNat]?=some (.int c tc):=by simp[hlt2,ec]
  have hc:((i:Int) + 1)=((i + 1:Nat):Int):=by push_cast;rfl
  rw[da,dc,ltL]at h
  wp_walk using OK hl,OK hb
  rw[hi1,hi2]
  refine NL (Rt ?_)
  by_cases z:a=c
  ·rw[if_pos z]at h
   rw[show(a == c)=true by simpa using z]
   wp_walk
   rw[hc]
   exact⟨Sn plain_eq_loop _,QL entry_eq_loop (by
    rw[PZ plain_eq_loop _]
    exact ih (i + 1) (by omega) prog w A R _ ⟨hl,hb,by omega,by omega,h⟩)⟩
  rw[if_neg z]at h
  rw[show(a == c)=false by simpa using z]
  wp_walk using OK hl,OK hb
  rw[hi1,hi2]
  show NT _ _ (richCompare .Lt (.int a ta) (.int c tc) >>= fun r=>ret r) _ _ _
  exact NL (richCompare_gives (op:=.Lt) (Tg _ a ta) (Tg _ c tc) F.slot_int_lt F.entry_int_lt (F.args_int_lt_2 _ _) (gives_int_lt a c ta tc) (fun x=>nomatch x) (NP h))
theorem A1(l b:NN)(items items2:Array NK)(n n2:Nat)(dd dd2:Option NN)(sl sl2:Array (Option NK))(ia:AllInt items.toList)(ib:AllInt items2.toList) :
  Tp (OY.«list.__lt__» ⟨[.ref l,.ref b],[]⟩)
   (fun A R s=>s.heap.get? l=some { cls:=.type "list",dict:=dd,data:=.seq items n,slots:=sl }/\s.heap.get? b=some { cls:=.type "list",dict:=dd2,data:=.seq items2 n2,slots:=sl2 }/\
    R (.ok (.ret (.bool (ltL (items.toList.map d9) (items2.toList.map d9))))) s):=by
 intro prog w A R s h
 obtain⟨hp,g,d,tk,os⟩:=s;obtain⟨hl,hb,h⟩:=h
 have f3:=Ve
 wp_walk using OK hl,OK hb
 exact⟨Sn plain_eq_loop _,QL entry_eq_loop (by
  rw[PZ plain_eq_loop _]
  exact zJ l b items items2 n n2 dd dd2 sl sl2 ia ib _ 0 rfl prog w A R _ ⟨hl,hb,z_ _,z_ _,h⟩)⟩
section
variable{prog:NW}{w:N3}{A:N_}{E:NK->NO->Prop}{s:NO}
def CO(h:N5)(v:NK):Prop:=∃ a xs,v=.ref a/\h.IsList a xs/\AllInt xs.toList
theorem yE{a b:NN}{xs ys:Array NK}{Q:Bool->NO->Prop}(hu:A.units < cLine)(ha:s.heap.IsList a xs)(hb:s.heap.IsList b ys)(ia:AllInt xs.toList)(ib:AllInt ys.toList)(h:Q (ltL (xs.toList.map d9) (ys.toList.map d9)) s):NT (N1 prog w) A (oneLt' true (.ref a) (.ref b)) Q E s:=by
 obtain⟨⟨cls,dd,data,sl⟩,ho,hc,n,hd⟩:=id ha
 obtain⟨⟨cls2,dd2,data2,sl2⟩,ho2,hc2,n2,hd2⟩:=id hb
 simp only at hc hd hc2 hd2
 subst hc hd hc2 hd2
 rw[oneLt'_eq]
 simp only[if_true]
 refine NL (wpAny_cRoomFor hu ?_)
 refine NL (wpAny_callSpecialIfBound?_slot ⟨_,ho,rfl⟩ T3 (R' T3 ⟨_,ho,rfl⟩ F.entry_list_lt (F.args_list_lt_2 _ _) (A1 a b xs ys n n2 dd dd2 sl sl2 ia ib) ⟨ho,ho2,?_⟩))
 exact Oo h
theorem mN{h:N5}{a:NN}{xs:Array NK}(e:h.IsList a xs):fP h (.ref a)=xs.toList.map d9:=by
 obtain⟨o,ho,_,n,hd⟩:=e
 exact m8 ho hd
theorem zE{h0:N5}{ks:List (List Int)}{S:NQ->Prop}(hu:A.units < cLine)(hS:∀ x,S x->CO h0 x.1/\fP h0 x.1∈ks)(hk:∀ b xs,h0.IsList b xs->s.heap.IsList b xs) :
  f6 (N1 prog w) A E s QZ (fun x=>rnk ltL ks (fP h0 x.1)) S:=by
 intro x y st Q sx sy kd q
 obtain⟨⟨a,xs,ea,ga,ia⟩,ma⟩:=hS x sx
 obtain⟨⟨b,ys,eb,gb,ib⟩,mb⟩:=hS y sy
 rw[lt'_eq]
 refine NU (PQ ?_)
 rw[kd,ea,eb,T1]
 refine NU (QX (O5 (yE hu (hk _ _ ga) (hk _ _ gb) ia ib ⟨rfl,?_⟩)))
 refine NZ ?_
 dsimp only at q
 rw[qL qi ma,ea,eb,mN ga,mN gb]at q
 exact q
theorem Ah{M:Pz}{vs:List NK}{Q:ON->NO->Prop}(hv':∀ v∈vs,CO s.heap v)(hne:vs≠[])(q:Q QZ s):NT M A (QY vs.toArray) Q E s:=by
 rw[Vc,LJ,map_eq_pure_bind]
 have ty:∀ v∈vs,∀(Q':NK->NO->Prop),Q' (.type "list") s->NT M A (Ti v) Q' E s:=fun v hv Q' hq=>by
  obtain⟨a,xs,rfl,⟨o,ho,hc,_⟩,_⟩:=hv' v hv
  exact UL (T:="list") ⟨o,ho,hc⟩ hq
 refine NL (NL (Tc (r:=none) _ (fun v hv Q' hq=>?_) (NP ?_)))
 ·rw[PySem.W.kas_first_eq]
  refine NL (ty v hv _ ?_)
  rw[if_pos (by decide)]
  exact NP hq
 obtain⟨v1,vr,rfl⟩:∃ v1 vr,vs=v1::vr:=by
  cases vs with
  | nil=>exact absurd rfl hne
  | cons v r=>exact⟨v,r,rfl⟩
 rw[if_neg (by simp),if_neg (by simp),Tx,LJ,map_eq_pure_bind]
 refine NL (NL (NL (Tc (r:=OJ "list") _ ty (NP ?_))))
 have hall2:((JS (fun _=>OJ "list") (v1::vr)).toArray.all fun x=>x == OJ "list")=true:=by
  simp only[Nm,Lc,Li]
  exact fun _ _=>rfl
 have h0:(JS (fun _=>OJ "list") (v1::vr)).toArray[0]?=some (OJ "list"):=by simp
 rw[h0]
 simp only[hall2,if_true]
 exact NP (NP q)
end
end ZS
namespace L2
open PySem PySem.Spec PyProof.Rows
theorem oD{α β:Type}{f:α->β}{o m:List β}(h:o.Perm m):∀(l:List α),l.map f=m->∃ l':List α,l'.Perm l/\l'.map f=o:=by
 induction h with
 | nil=>exact fun l e=>⟨l,.refl _,e⟩
 | cons x p ih=>
  intro l e
  cases l with
  | nil=>cases e
  | cons a l=>
   rw[d_]at e
   obtain⟨l',p',e'⟩:=ih l (JZ e).2
   exact⟨a::l',p'.cons a,by rw[d_,e',(JZ e).1]⟩
 | swap x y l=>
  intro l2 e
  cases l2 with
  | nil=>cases e
  | cons a l2=>
   cases l2 with
   | nil=>cases e
   | cons b l2=>
    rw[d_,d_]at e
    have e1:=(JZ e).1
    have e2:=(JZ (JZ e).2).1
    exact⟨b::a::l2,.swap _ _ _,by rw[d_,d_,e1,e2,(JZ (JZ e).2).2]⟩
 | trans p q ih1 ih2=>
  intro l e
  obtain⟨l2,p2,e2⟩:=ih2 l e
  obtain⟨l1,p1,e1⟩:=ih1 l2 e2
  exact⟨l1,p1.trans p2,e1⟩
section
variable{X:Cx}
theorem HW{k:Nat}{A:N_}(r:Room k A):A.in1.in1.units < cLine:=by
 have:=r.un
 show A.units + 1 + 1 < cLine
 lia
def CP:V->NK
 | .ref b=>.ref b
 | _=>.none
theorem qx{k:Nat}(hr:Room k X.A):bG X (.builtin "sorted") (fun xs H Q=>∃ p,∃ vk:List (V × List Int),xs=[.ref p]/\SqL X.K H p (vk.map (·.1))/\(∀ e∈vk,∃ b,e.1=.ref b/\SqL X.K H b (e.2.map V.int))/\∀ wk:List (V × List Int),wk.Perm vk->(wk.map (·.2)).Pairwise (fun x y=>ZS.ltL y x=false)->New (.lst (wk.map (·.1))) H Q):=by
 intro pins s σ H xs us Q I r h
 obtain⟨p,vk,rfl,hq,hr2,q⟩:=h
 obtain⟨u,rfl,ru⟩:=vals1 r
 cases ru
 obtain⟨its,rv,pl,hz⟩:=I.list hq
 have hlen:=rv.length
 have f0:∀(l:List (V × List Int)) (vs:List NK),(∀ e∈l,∃ b,e.1=.ref b/\SqL X.K H b (e.2.map V.int))->Vals (l.map (·.1)) vs->l.map (fun e=>CP e.1)=vs:=by
  intro l
  induction l with
  | nil=>intro vs _ r;cases r;rfl
  | cons e l ih=>
   intro vs h r
   cases r with
   | cons r1 r2=>
    obtain⟨b,eb,_⟩:=h e (.head _)
    rw[d_,ih _ (fun e he=>h e (.tail _ he)) r2]
    congr 1
    dsimp only at r1
    rw[eb]at r1 ⊢
    cases r1
    rfl
 have f1:∀ e∈vk,ZS.CO s.heap (CP e.1)/\ZS.fP s.heap (CP e.1)=e.2:=fun e he=>by
  obtain⟨b,eb,hb⟩:=hr2 e he
  rw[eb]
  obtain⟨its',r',pl',_⟩:=I.list hb
  obtain⟨ps,e1,e2⟩:=eN r'
  refine⟨⟨b,_,rfl,pl'.isList,fun v hv=>?_⟩,?_⟩
  ·have hv:v∈its':=hv
   rw[e1]at hv
   obtain⟨p,_,e⟩:=y_.mp hv
   exact⟨p.1,p.2,e.symm⟩
  show ZS.fP s.heap (.ref b)=_
  rw[ZS.mN pl'.isList]
  show its'.map ZS.d9=_
  rw[e1,H_,<-e2]
  rfl
 have f2:=f0 vk its hr2 rv
 have f3:∀ v∈its,ZS.CO s.heap v/\ZS.fP s.heap v∈vk.map (·.2):=fun v hv=>by
  rw[<-f2]at hv
  obtain⟨e,he,rfl⟩:=y_.mp hv
  obtain⟨h1,h2⟩:=f1 e he
  exact⟨h1,by rw[h2];exact I_ he⟩
 have hu:=HW hr
 refine ZS.jn (kd:=QZ) (rk:=fun x=>ZS.rnk ZS.ltL (vk.map (·.2)) (ZS.fP s.heap x.1)) (S:=fun x=>x.1∈its) pl.isList (by lia) (fun v hv=>hv) (fun h' kp {Q} {E} hne q=>ZS.Ah (fun v hv=>?_) hne q)
  (fun h' E kp=>ZS.zE (h0:=s.heap) (ks:=vk.map (·.2)) hu (fun x hx=>f3 _ hx) fun b xs ⟨o,ho,z⟩=>⟨o,kp _ _ ho,z⟩) fun o a c h' op os ha kp e=>?_
 ·obtain⟨a,xs,e1,⟨o,ho,z⟩,e3⟩:=(f3 v hv).1
  exact⟨a,xs,e1,⟨o,kp _ _ ho,z⟩,e3⟩
 rw[<-f2]at op
 obtain⟨wk,wp,we⟩:=oD op vk rfl
 have mem:∀ e∈wk,e∈vk:=fun e he=>wp.mem_iff.mp he
 have vv:∀(l:List (V × List Int)),(∀ e∈l,e∈vk)->Vals (l.map (·.1)) (l.map fun e=>CP e.1):=by
  intro l
  induction l with
  | nil=>exact fun _=>.nil
  | cons e l ih=>
   intro h
   obtain⟨b,eb,_⟩:=hr2 e (h e (.head _))
   exact .cons (by dsimp only;rw[eb];rfl) (ih fun e he=>h e (.tail _ he))
 have v1:=vv wk mem
 rw[we]at v1
 refine⟨.ref a,_,I.laid (t':=s.toks) kp ha (show bg X.prog X.w _ h' _ (.lst (wk.map (·.1)))from⟨by rw[a_,wp.length_eq,<-a_ (f:=(·.1))];lia,o,c,v1,e⟩),rfl,(q wk wp ?_).at (I.hok.fresh ha)⟩
 rw[JW]
 rw[<-we,JW]at os
 refine Kl (fun{x y} hx hy hxy=>?_) os
 cases z:ZS.ltL y.2 x.2
 ·rfl
 have e1:=(f1 x (mem x hx)).2
 have e2:=(f1 y (mem y hy)).2
 have:=ZS.nH ZS.qi (ks:=vk.map (·.2)) (I_ (mem y hy)) z
 dsimp only at hxy
 rw[e1,e2]at hxy
 exact absurd this (Mh.mpr hxy)
end
end L2
namespace PL
open PySem PySem.Spec PyProof.Rows L2
def rwT(b:Bool)(k:List Int):T:=if b then .lst false (k.map T.int)else iT k
def BU(t:T)[k:Th (T->Prop)]:Prop:=∃(b o:Bool) (ks:List (List Int)),t=.lst o (ks.map (rwT b))/\(∀ q∈ks,q≠[])/\k.v (.lst true ((lW ks).map (rwT b)))
def mL:P1s:=fun ts k=>match ts with
 | [t]=>BU t (k:=⟨k⟩)
 | _=>False
theorem aZ{t:T}{k:T->Prop}:mL [t] k=BU t (k:=⟨k⟩):=rfl
theorem m9{o:Bool}(b:Bool)(ks:List (List Int)){t:T}{k:Th (T->Prop)}(e:t=.lst o (ks.map (rwT b)))(h:∀ q∈ks,q≠[])(q:k.v (.lst true ((lW ks).map (rwT b)))):BU t (k:=k):=⟨b,o,ks,e,h,q⟩
theorem zf{α:Type}{g:α->T}:∀ {ks:List α} {vs:List V},ks.length=vs.length->zz (ks.map g) vs=(vs.zip ks).map fun e=>(g e.2,some e.1)
 | [],[],_=>rfl
 | [],_::_,l=>by cases l
 | _::_,[],l=>by cases l
 | k::ks,v::vs,l=>by
  show(g k,some v)::zz (ks.map g) vs=(g k,some v)::(vs.zip ks).map _
  rw[zf (Ku l)]
theorem r9{α:Type}{g:α->T}:∀(wk:List (V × α)),wk.map (fun e=>(g e.2,some e.1))=zz ((wk.map (·.2)).map g) (wk.map (·.1))
 | []=>rfl
 | e::wk=>by
  show(g e.2,some e.1)::wk.map _=(g e.2,some e.1)::zz ((wk.map (·.2)).map g) (wk.map (·.1))
  rw[r9 wk]
theorem cE{X:Cx}{kr:Nat}(hr:Room kr X.A)(hc:X.calm=true):gu X (.builtin "sorted") mL:=by
 rintro pins s σ H xs us Q I r ⟨ts,Γ,k,l,rp,g,c⟩
 unfold mL at g
 split at g
 ·rename_i t
  obtain⟨b,o,ks,rfl,hne,kt⟩:=g
  cases b with
  | false=>
   refine pV hc pins s σ H xs us Q I r ⟨_,Γ,k,l,rp,?_,c⟩
   show(match intsOf (ks.map iT)with
    | some ns=>k (.lst true ((Et ns).map T.int))
    | none=>got (rowsOf (ks.map iT)) fun ks=>k (.lst true ((lW ks).map iT)))
   cases ks with
   | nil=>exact kt
   | cons a r=>
    rw[show intsOf ((a::r).map iT)=none from rfl,vo hne]
    exact Ad rfl kt
  | true=>
   obtain⟨x,rfl⟩:=zz1 l rfl
   have rp:Rp X.K H ((.lst o (ks.map (rwT true)),some x)::Γ):=rp
   obtain⟨a,vs,rfl,hq,l2,rp2⟩:=iV rp
   rw[a_]at l2
   rw[zf l2]at rp2
   have e1:(vs.zip ks).map (·.1)=vs:=List.map_fst_zip (Lv l2.symm)
   have e2:(vs.zip ks).map (·.2)=ks:=List.map_snd_zip (Lv l2)
   refine qx hr pins s σ H _ us Q I r ⟨a,vs.zip ks,rfl,.inl (by rw[e1];exact hq),fun e he=>?_,fun wk wp sm p H' hp g' e'=>c _ _ _ kt ?_⟩
   ·obtain⟨s1,s2,es⟩:=List.append_of_mem he
    rw[es,r_,d_]at rp2
    have rp3:=rp2.perm (gV.append_right Γ)
    obtain⟨b,ws,eb,hb,l3,rp4⟩:=iV (o:=false) (ts:=e.2.map T.int) rp3
    have:=gv l3 rp4
    subst this
    exact⟨b,eb,.inl hb⟩
   have es:wk.map (·.2)=lW ks:=jY ZS.qi (by rw[<-e2];exact wp.map _) sm
   rw[<-es]
   have rp3:=rp2.perm ((wp.symm.map fun e=>((rwT true e.2,some e.1):T × Option V)).append_right Γ)
   rw[r9]at rp3
   exact fO rp3 (by rw[a_,a_,a_]) hp g' e'
 exact N4 g
end PL
namespace L2
open PySem PySem.Spec PyProof.Rows
theorem zb(its:List NK){j:Int}(h1:0 < j):Q4 its.toArray none none (some j)=(bt its 0 j).toArray:=by
 unfold Q4 bt
 have e:O0 none none (some j) its.toArray.size=(max 0 (min 0 (its.length:Int)),(its.length:Int),j):=by
  unfold O0
  simp only[Mm,m_]
  rw[if_pos h1,if_pos h1]
  congr 1
 rw[e]
 simp
section
variable{X:Cx}{e k:N2}{te tk:TE}{pos p2:Pos}
theorem vg(he:PE X e te)(hk:PE X k tk):PE X (.Subscript e (.Slice none none (some k) p2) pos) (fun σ H Q=>te σ H fun x H1=>tk σ H1 fun z H3=>∃ j l xs,z=.int j/\0 < j/\x=.ref l/\SqL X.K H3 l xs/\New (.lst (bt xs 0 j)) H3 Q):=by
 intro pins s σ H Q I h
 refine Rm (thn (he pins s σ H _ I h) fun v s1 ⟨x,H1,I1,r1,q1⟩=>?_)
 refine SV ?_
 rw[Rc]
 refine NP ?_
 refine NP ?_
 rw[Rf]
 refine thn (hk pins s1 σ H1 _ I1 q1) fun vk s3 ⟨z,H3,I3,rz,q3⟩=>?_
 obtain⟨j,l,xs,rfl,h1,rfl,hx,q⟩:=q3
 obtain⟨tj,rfl⟩:=rz
 cases r1
 have J:Inv X pins σ H3 { s3 with heap:=s3.heap.push { cls:=.type "slice",data:=.fields #[.none,.none,.int j tj] } }:=I3.kept (t':=s3.toks) fun b ob q=>NR _ q
 show NT (N1 X.prog X.w) X.A (Pu e (.Slice none none (some k) p2) (.ref l) (.ref s3.heap.objs.size)) (EP X pins σ Q) X.xe { s3 with heap:=s3.heap.push { cls:=.type "slice",data:=.fields #[.none,.none,.int j tj] } }
 obtain⟨its,r,ht,hz⟩:=J.list hx
 have hlen:=r.length
 refine S4 (ops:=[.ref l,.ref s3.heap.objs.size]) ht.isList.typeIs slot_list_getitem.lookup ?_ (by with_unfolding_all rfl)
 refine Qe ht.isList (Q3 ..) .none .none (.int _ _) (fun z=>by cases z;omega) ?_ (by rw[m_] <;> omega)
 rw[zb its h1]
 have hv:Vals (bt xs 0 j) (bt its 0 j):=by
  unfold bt
  rw[hlen]
  exact oH r _
 exact⟨.ref _,_,J.laid (t':=s3.toks) (o:=.lst (bt xs 0 j)) (fun b ob q=>NR _ q) (c_ _) ⟨n_ (tV xs (Nf 0) h1) hz,_,0,hv,N0 _ rfl⟩,rfl,q.at (J.hok.fresh (c_ _))⟩
end
end L2
namespace PL
open PySem PySem.Spec PyProof.Rows L2
section
variable{X:Cx}{e k:N2}{fe fk:PF}{pos p2:Pos}
def Ga(fe fk:PF):PF:=fun env k=>fe env fun t env1=>fk env1 fun v env3=>∃ o ts j,t=.lst o ts/\v=.int j/\ba ts=true/\0 < j/\k (.lst true (bt ts 0 j)) env3
theorem uD(he:GE X e fe)(hk:GE X k fk):GE X (.Subscript e (.Slice none none (some k) p2) pos) (Ga fe fk):=by
 refine PE.imp (vg he hk) ?_
 rintro σ H Q ⟨env,Fr,k,rs,q,c⟩
 refine⟨env,Fr,_,rs,q,fun t env1 v H1 q1 rs1=>⟨env1,_,_,rs1,q1,fun x env3 y H3 q3 rs3=>?_⟩⟩
 obtain⟨o,ts,j,rfl,rfl,hn,h1,q⟩:=q3
 have ey:=aV rs3.head
 obtain⟨a,vs,ea,hq,l,rp⟩:=aF rfl rs3.drop.head
 refine⟨j,a,vs,ey,h1,ea,hq,fun p H' hp g e=>c _ _ _ _ q (.of rs3.1 ?_)⟩
 obtain⟨r1,r2⟩:=qY l hn rp (Ql (max 0 (min 0 (ts.length:Int))) ts.length j)
 have r3:Rp X.K H3 (zz (bt ts 0 j) (bt vs 0 j)++(env3.zip σ++Fr)):=by
  unfold bt
  rw[<-l]
  exact(r1.perm (o_ _ _ _)).part
 exact fO r3 (by unfold bt;rw[<-l];exact r2) hp g e
end
def slH(t:T)(i j:Int)[k:Th (T->Prop)]:Prop:=∃ o ts,t=.lst o ts/\ba ts=true/\0<=i/\0 < j/\k.v (.lst true (bt ts i j))
theorem zo{o:Bool}{ts:List T}{i j:Int}{k:Th (T->Prop)}(h0:0<=i)(h1:0 < j)(hn:ba ts=true)(q:k.v (.lst true (bt ts i j))):slH (.lst o ts) i j (k:=k):=⟨o,ts,rfl,hn,h0,h1,q⟩
theorem dy{fe fk:PF}{env:Ev}{k:T->Ev->Prop}:Ga fe fk env k=fe env fun t env1=>fk env1 fun v env3=>asI v (k:=⟨fun j=>slH t 0 j (k:=⟨fun u=>k u env3⟩)⟩):=by
 unfold Ga
 refine congrArg (fe env) (funext fun t=>funext fun env1=>congrArg (fk env1) (funext fun v=>funext fun env3=>propext ?_))
 constructor
 ·rintro⟨o,ts,j,rfl,rfl,a,b,c⟩
  exact⟨o,ts,rfl,a,Nf 0,b,c⟩
 intro h
 cases v <;> first | exact N4 h | skip
 obtain⟨o,ts,e,a,_,b,c⟩:=h
 exact⟨o,ts,_,e,rfl,a,b,c⟩
theorem dY{fe fa fk:PF}{env:Ev}{k:T->Ev->Prop}:Gq fe fa fk env k=fe env fun t env1=>fa env1 fun u env2=>fk env2 fun v env3=>asI u (k:=⟨fun i=>asI v (k:=⟨fun j=>slH t i j (k:=⟨fun u=>k u env3⟩)⟩)⟩):=by
 unfold Gq
 refine congrArg (fe env) (funext fun t=>funext fun env1=>congrArg (fa env1) (funext fun u=>funext fun env2=>congrArg (fk env2) (funext fun v=>funext fun env3=>propext ?_)))
 constructor
 ·rintro⟨o,ts,i,j,rfl,rfl,rfl,a,b,b2,c⟩
  exact⟨o,ts,rfl,a,b,b2,c⟩
 intro h
 cases u <;> first | exact N4 h | skip
 have h:asI v (k:=_):=h
 cases v <;> first | exact N4 h | skip
 obtain⟨o,ts,e,a,b,b2,c⟩:=h
 exact⟨o,ts,_,_,e,rfl,rfl,a,b,b2,c⟩
end PL
namespace L2
open PySem PySem.Spec PyProof.Rows
noncomputable def Itf(o:Obj)(d:NN):It:=
  ⟨fun i H=>∃ kvs,Rd H d (.frz o (.dT kvs))/\i < kvs.length,
   fun i H v H'=>H'=H/\∀ kvs,Rd H d (.frz o (.dT kvs))->∃ k x b,kvs[i]?=some (k,x)/\v=.ref b/\H b=some (.tup (k.map kV)),
   fun i H=>∃ kvs,Rd H d (.frz o (.dT kvs))/\kvs.length<=i⟩
theorem C0{H:Hp}{d:NN}{o:Obj}{a b:List (List Key × V)}(h:Rd H d (.frz o (.dT a)))(g:Rd H d (.frz o (.dT b))):a=b:=by
 rcases h with h | ⟨o1,h⟩ <;> rcases g with g | ⟨o2,g⟩ <;> rw[h]at g <;> cases g <;> rfl
theorem rK{X:Cx}{pins:List (NN × Obj)}{σ:St}{H:Hp}{s:NO}{o:Obj}{d:NN}{kvs:List (List Key × V)}(I:Inv X pins σ H s)(e:Rd H d (.frz o (.dT kvs))) :
  s.heap.get? d=some o/\(d == Ol)=false/\∃ xs es ep,KT H kvs xs/\o.ExactDict/\o.data=.dict es ep/\es.toList=xs.map (QC (Py (bx X.prog X.w)))/\es.size=kvs.length:=by
 obtain⟨h0,h1,h2,xs,kt,o',es,ep,g1,g2,g3,g4,g5⟩:=(show bg X.prog X.w H s.heap d (.frz o (.dT kvs))from e.ok I.hok)
 rw[h0]at g1
 cases g1
 refine⟨h0,h2,xs,es,ep,kt,g2,g3,g4,?_⟩
 rw[<-g_,g4,a_]
 exact(OF kt).symm
theorem uR{P:NW}{w:N3}{K:NM}{tg:N2}(o:Obj)(d it:NN)(es:Array O4)(ep:Nat)(hdat:o.data=.dict es ep):Turn P w K tg (Itf o d) [it] it (fun i h=>h.IsKeyIter it d i es.size ep) where
 mem:=by simp
 obj:=fun i h st b hb=>by
  have e:b=it:=by simpa using hb
  subst e
  obtain⟨oi,q1,q2,q3⟩:=st
  exact⟨oi,q1,fun v z=>by rw[q3]at z;cases z⟩
 keep:=fun i h h' st k=>st.at fun oo e=>k it (by simp) oo e
 item:=by
  intro X hP hw hK hc i pins s σ H E I hf st hg
  subst hP hw hK
  obtain⟨kvs,hq,hx⟩:=hg
  obtain⟨h0,h1,xs,es',ep',kt,g2,g3,g4,g5⟩:=rK I hq
  rw[hdat]at g3
  cases g3
  obtain⟨f0,f1,f2,f3,f4,f5⟩:=hf it (by simp)
  have hi:i < es.size:=by lia
  have hxs:i < xs.length:=by rw[<-g_,g4,a_]at hi;exact hi
  have he:es[i]?=some (QC (Py (bx X.prog X.w)) xs[i]):=by
   rw[<-i',g4,s_,b_ hxs]
   rfl
  refine ZG.Eg st h0 hdat he fun h' st' sb=>?_
  have I1:Inv X pins σ H { s with heap:=h' }:=I.turned (t':=s.toks) (fun b ob hb e=>(sb.2 b hb).trans e) f0 f1 f3 f4 f5
  obtain⟨oi,q1,q2,q3⟩:=id st'
  refine⟨_,rfl,vx (s:={ s with heap:=h' }) q1 q2 q3 (by decide) ⟨.ref xs[i].2.1,H,I1,rfl,⟨rfl,fun kvs' hk'=>?_⟩,st',fun b hb=>(hf b hb).1⟩⟩
  cases C0 hq hk'
  obtain⟨p,p1,p2,p3,p4⟩:=mW kt (b_ hxs)
  exact⟨p.1,p.2,_,p1,rfl,p3⟩
 done:=by
  intro X hP hw hK hc i pins s σ H E I hf st hg
  subst hP hw hK
  obtain⟨kvs,hq,hx⟩:=hg
  obtain⟨h0,h1,xs,es',ep',kt,g2,g3,g4,g5⟩:=rK I hq
  rw[hdat]at g3
  cases g3
  obtain⟨f0,f1,f2,f3,f4,f5⟩:=hf it (by simp)
  exact ZG.Hc (I.ok.hd hc) st h0 hdat (by rw[K5];lia) fun h' eb=>⟨rfl,I.turned (t':=s.toks) (fun b ob hb e=>eb b ob hb e) f0 f1 f3 f4 f5⟩
 self:=fun _ _ _ _ _ st h=>Sh st h
noncomputable def IG(te:TE):TI:=fun σ H R=>te σ H fun x H1=>∃ d kvs,x=.ref d/\((H1 d=some (.dT kvs)/\∀ o H2,Put H1 d (.frz o (.dT kvs)) H2->R (Itf o d) H2)\/∃ o,H1 d=some (.frz o (.dT kvs))/\R (Itf o d) H1)
theorem zS{X:Cx}{tg l:N2}{tl:TE}(hl:PE X l tl):PI X tg l (IG tl):=by
 intro pins s σ H R I h
 refine thn (hl pins s σ H _ I h) ?_
 rintro v s1 ⟨x,H1,I1,r1,q1⟩
 obtain⟨d,kvs,e,q1⟩:=q1
 subst e
 cases r1
 have key:∀(o:Obj) (H2:Hp),Inv X pins σ H2 s1->H2 d=some (.frz o (.dT kvs))->R (Itf o d) H2->NT (N1 X.prog X.w) X.A (RX (.ref d)) (PIE X pins σ tg R) X.xe s1:=fun o H2 I2 e2 q2=>by
  obtain⟨h0,h1,xs,es,ep,kt,g2,g3,g4,g5⟩:=CC I2 e2
  refine ZG.DV h1 h0 g2 g3 ⟨s1.heap.objs.size,[s1.heap.objs.size],_,_,H2,rfl,I2.kept (t':=s1.toks) fun b ob z=>NR _ z,uR o d _ es ep g3,⟨_,N0 _ rfl,rfl,rfl⟩,fun b hb=>?_,q2⟩
  have e:b=s1.heap.objs.size:=by simpa using hb
  subst e
  exact I2.rO (c_ _) (I2.hok.fresh (c_ _))
 rcases q1 with⟨e1,q⟩ | ⟨o,e1,q⟩
 ·obtain⟨z,hd,xs,kt,o,es,ep,g1,g2,g3,g4,g5⟩:=(show bg X.prog X.w H1 s1.heap d (.dT kvs)from I1.hok d _ e1)
  refine key o (upd H1 d (.frz o (.dT kvs))) ?_ aR (q o _ Put.up)
  refine jS (h':=s1.heap) (t':=s1.toks) (ob:=.frz o (.dT kvs)) I1 (by rw[e1];exact O1) ⟨rfl,fun _ _=>rfl⟩ ⟨o,g1⟩ ⟨g1,z,hd,xs,KT.keeps kt fun c zs ec=>?_,o,es,ep,g1,g2,g3,g4,g5⟩
  rw[aH (xw ec e1 (fun z=>nomatch z))]
  exact ec
 exact key o H1 I1 e1 q
end L2
namespace PL
open PySem PySem.Spec PyProof.Rows L2
def kyI:Key->T
 | .inl i=>.int i
 | .inr s=>.str s
def kyT(k:List Key):T:=.tup (k.map kyI)
def kpG(o:Obj)(d:NN)(vs:List (List Key × V)):Hp:=fun b=>if b=d then some (.frz o (.dT vs))else none
section
variable{K:NM}
theorem wQ{H H2:Hp}{d:NN}{o:Obj}{ts:List (List Key × T)}{vs:List (List Key × V)}{Γ:Fm}(h:Rp K H ((.dT false ts,some (.ref d))::Γ))(h1:H d=some (.dT vs)\/H d=some (.frz o (.dT vs)))(h2:H2 d=some (.frz o (.dT vs)))(h3:∀ b,b≠d->H2 b=H b):Rp K H2 ((.kp (kpG o d vs),some .non)::(.dT false ts,some (.ref d))::Γ):=by
 obtain⟨Hz,N,h,nd,g,dj⟩:=h
 have hz:∃ w,Hz d=some w:=by
  cases h with
  | cons e h c=>
   rcases h with⟨z,_⟩ | ⟨v,ev,h⟩
   ·cases z
   cases ev
   cases h with
   | dTZ r _=>exact Rd.some r
 let Z:Hp:=fun b=>if b=d then some (.frz o (.dT vs))else Hz b
 have zd:Z d=some (.frz o (.dT vs)):=if_pos rfl
 have ze:∀ b,b≠d->Z b=Hz b:=fun b hb=>if_neg hb
 have gz:Gr Hz Z:=fun b u r=>by
  by_cases e:b=d
  ·subst e
   rcases g b u r with q | ⟨o',q⟩ <;> rcases h1 with h1 | h1 <;> rw[h1]at q <;> cases q
   ·exact .inr ⟨o,zd⟩
   ·exact .inl zd
   exact .inr ⟨o,zd⟩
  unfold Rd at *
  rw[ze b e]
  exact r
 have gh:Gr Z H2:=fun b u r=>by
  by_cases e:b=d
  ·subst e
   unfold Rd at *
   rw[zd]at r
   rw[h2]
   exact r
  unfold Rd at r
  rw[ze b e]at r
  have:=g b u r
  unfold Rd at *
  rw[h3 b e]
  exact this
 have hd:∀ b∈N,b≠d:=fun b m z=>by
  obtain⟨w,e⟩:=hz
  rw[<-z,dj b m]at e
  cases e
 refine⟨Z,[]++N,.cons rfl (.inr ⟨_,rfl,.kp fun b u r=>?_⟩) (h.move (fun b xs e=>?_) gz fun b m u e=>?_),nd,gh,fun b m=>?_⟩
 ·by_cases e:b=d
  ·subst e
   unfold Rd kpG at r
   rw[if_pos rfl]at r
   unfold Rd
   rw[zd]
   exact r
  unfold Rd kpG at r
  rw[if_neg e]at r
  rcases r with r | ⟨_,r⟩ <;> cases r
 ·by_cases z:b=d
  ·subst z
   rcases h1 with h1 | h1 <;> rw[h1]at e <;> cases e
  rw[h3 b z]
  exact e
 ·rw[h3 b (hd b m)]
  exact⟨e,fun n=>n⟩
 have m:b∈N:=m
 rw[ze b (hd b m)]
 exact dj b m
theorem vf{H:Hp}{Γ:Fm}:∀(k:List Key),Rp K H Γ->Rp K H (zz (k.map kyI) (k.map kV)++Γ)
 | [],h=>h
 | .inl _::r,h=>cz (vf r h) fun _=>.int
 | .inr _::r,h=>cz (vf r h) fun _=>.str
theorem Am{o:Obj}{d:NN}{vs:List (List Key × V)}:ItOk K (Itf o d) (vs.map fun p=>kyT p.1) [(.kp (kpG o d vs),some .non)] where
 turn:=fun i t H Γ ei rp=>by
  have rd:Rd H d (.frz o (.dT vs)):=by
   obtain⟨Hz,N,h,_,g,_⟩:=rp
   cases h with
   | cons e h c=>
    rcases h with⟨z,_⟩ | ⟨v,ev,h⟩
    ·cases z
    cases h with
    | kp gr=>exact g _ _ (gr d _ (.inl (if_pos rfl)))
  rw[s_]at ei
  cases e:vs[i]? with
  | none=>rw[e]at ei;cases ei
  | some p=>
   rw[e]at ei
   cases ei
   refine⟨⟨vs,rd,(f_.mp e).1⟩,fun x H' hy=>?_⟩
   obtain⟨rfl,hy⟩:=hy
   obtain⟨k,w,b,e1,rfl,hb⟩:=hy vs rd
   rw[e]at e1
   cases e1
   exact gB (ts:=k.map kyI) (vs:=k.map kV) (vf k rp) (by rw[a_,a_]) .d6 hb
 stop:=fun H Γ rp=>by
  have rd:Rd H d (.frz o (.dT vs)):=by
   obtain⟨Hz,N,h,_,g,_⟩:=rp
   cases h with
   | cons e h c=>
    rcases h with⟨z,_⟩ | ⟨v,ev,h⟩
    ·cases z
    cases h with
    | kp gr=>exact g _ _ (gr d _ (.inl (if_pos rfl)))
  exact⟨vs,rd,by rw[a_];exact c_ _⟩
end
def G6(fe:PF):PIt:=fun env k=>fe env fun t env1=>match t with
 | .dT _ kvs=>k (kvs.map fun p=>kyT p.1) env1
 | _=>False
section
variable{X:Cx}{pos:Pos}{e tg:N2}{fe:PF}
theorem vF(h:GE X e fe):GI X tg e (G6 fe):=by
 rintro pins s σ H R I ⟨env,Fr,k,rs,q,c⟩
 refine zS h pins s σ H R I ⟨env,Fr,_,rs,q,fun t env1 v H1 q1 rs1=>?_⟩
 cases t <;> first | exact q1.elim | skip
 rename_i o ts
 have rf:Rp X.K H1 ((.dT false (erT ts),some v)::(env1.zip σ++Fr)):=lC rs1.head
 obtain⟨d,vs,rfl,hq,ek,rp2⟩:=hV rf
 have ek2:ts.map (·.1)=vs.map (·.1):=by
  rw[<-ek]
  clear ek rf q1 rs1 rp2
  induction ts with
  | nil=>rfl
  | cons a l ih=>rw[erT,d_,d_,ih]
 have e3:(ts.map fun p=>kyT p.1)=vs.map fun p=>kyT p.1:=by
  have:=congrArg (JS kyT) ek2
  rw[H_,H_]at this
  exact this
 have q1:k (ts.map fun p=>kyT p.1) env1:=q1
 rw[e3]at q1
 refine⟨d,vs,rfl,?_⟩
 rcases hq with hq | ⟨ob,hq⟩
 ·refine .inl ⟨hq,fun ob H2 p=>c _ _ _ [(.kp (kpG ob d vs),some .non)] _ q1 ?_ Am⟩
  have r:=wQ (o:=ob) (H2:=H2) rf (.inl hq) p.at_ fun b hb=>p.else_ b hb
  exact .of rs1.1 (r.perm (.swap _ _ _)).tail
 refine .inr ⟨ob,hq,c _ _ _ [(.kp (kpG ob d vs),some .non)] _ q1 ?_ Am⟩
 have r:=wQ (o:=ob) (H2:=H1) rf (.inr hq) hq fun b hb=>rfl
 exact .of rs1.1 (r.perm (.swap _ _ _)).tail
end
def asD(t:T)[k:Th (List (List Key × T)->Prop)]:Prop:=match t with
 | .dT _ kvs=>k.v kvs
 | _=>False
theorem gZ{o:Bool}{kvs:List (List Key × T)}{k:Th (List (List Key × T)->Prop)}:asD (.dT o kvs) (k:=k)=k.v kvs:=rfl
theorem eg{env:Ev}{fe:PF}{ki:List T->Ev->Prop}:G6 fe env ki=fe env fun t env1=>asD t (k:=⟨fun kvs=>ki (kvs.map fun p=>kyT p.1) env1⟩):=by
 unfold G6 asD
 refine congrArg (fe env) (funext fun t=>funext fun env1=>?_)
 cases t <;> rfl
end PL
namespace ZD
open PySem PyProof.Rows
open AutoSeq1 (wpAny_loadPart')
theorem yX(l b:NN)(es:Array O4)(ep eb:Nat)(dd dd2:Option NN)(sl sl2:Array (Option NK))(hl:(l == Ol)=false)(hb:(b == Ol)=false) :
  Tp (OY.«dict.__ne__» ⟨[.ref l,.ref b],[]⟩)
   (fun A R s=>s.heap.get? l=some { cls:=.type "dict",dict:=dd,data:=.dict es ep,slots:=sl }/\s.heap.get? b=some { cls:=.type "dict",dict:=dd2,data:=.dict #[] eb,slots:=sl2 }/\R (.ok (.ret (.bool (es.size != 0)))) s):=.of_wp fun prog w A R s h=>by
 obtain⟨hp,g,d,tk,os⟩:=s
 obtain⟨h1,h2,h⟩:=h
 have f2:=F.sub_dict_dict
 wp_walk using OE h1 rfl,OE h2 rfl
 by_cases hz:es.size=0
 ·have e0:es=#[]:=Array.eq_empty_of_size_eq_zero hz
  subst e0
  rw[if_neg (by decide)]
  refine NL (QI h1 rfl ?_)
  simp only[Array.size_empty,Sv,Vj]
  rw[show List.range' 0 ((0 - 0 + 1 - 1) / 1)=[]from rfl,L6]
  exact NL (NP (NP (NP ⟨_,rfl,h⟩)))
 rw[if_pos (by simpa using hz)]
 wp_walk
 exact⟨_,rfl,by rw[show(false == false)=(es.size != 0) by simp[hz]];exact h⟩
end ZD
namespace L2
open PySem PySem.Spec PyProof.Rows
section
variable{X:Cx}
theorem G1{kr:Nat}(hr:Room kr X.A):OpR X (Ob .NotEq) (fun x y H Q=>∃ a b kvs,x=.ref a/\y=.ref b/\Rd H a (.dT kvs)/\Rd H b (.dT [])/\Q (.bl (kvs.length != 0)) H):=by
 intro pins s σ H x y v u Q I rx ry h
 obtain⟨a,b,kvs,rfl,rfl,ha,hb,q⟩:=h
 cases rx
 cases ry
 obtain⟨z,lo,xs,kt,o,es,ep,g1,g2,g3,g4,g5⟩:=(show bg X.prog X.w H s.heap a (.dT kvs)from ha.ok I.hok)
 obtain⟨z',lo',xs',kt',o',es',ep',g1',g2',g3',g4',g5'⟩:=(show bg X.prog X.w H s.heap b (.dT [])from hb.ok I.hok)
 have e1:es.size=kvs.length:=by
  rw[<-g_,g4,a_]
  exact(OF kt).symm
 have e2:es'=#[]:=by
  cases kt'
  exact Array.toList_inj.mp g4'
 subst e2
 obtain⟨c1,c2,c3⟩:=g2
 obtain⟨c1',c2',c3'⟩:=g2'
 obtain⟨cls,dd,dat,sl⟩:=o
 obtain⟨cls',dd',dat',sl'⟩:=o'
 dsimp only at *
 subst c1 c1' g3 g3'
 exact richCompare_meets_room (op:=.NotEq) ⟨_,g1,rfl⟩ ⟨_,g1',rfl⟩ F.slot_dict_ne F.entry_dict_ne (F.args_dict_ne_2 _ _) (ZD.yX a b es ep ep' dd dd' sl sl' lo lo') ⟨g1,g1',(fun x=>nomatch x),.bl (kvs.length != 0),H,I,by rw[e1];rfl,q⟩ (by have:=HW hr;exact G' (show X.A.units<=X.A.units + 1 + 1 by omega) this)
end
end L2
namespace PL
open PySem PySem.Spec PyProof.Rows L2
def Ht:P2:=fun t u k=>∃ o kvs o',t=.dT o kvs/\u=.dT o' []/\k (.bl (kvs.length != 0))
theorem Dj{X:Cx}{kr:Nat}(hr:Room kr X.A):OpP X (Ob .NotEq) Ht:=.of (G1 hr) fun tx ty x y H Γ k Q rp g c=>by
 obtain⟨o,kvs,o',rfl,rfl,g⟩:=g
 obtain⟨b,vs',rfl,hb,eb,_⟩:=hV rp
 obtain⟨a,vs,rfl,ha,ea,_⟩:=hV rp.tail
 have e0:vs'=[]:=L4.mp eb.symm
 subst e0
 have e1:kvs.length=vs.length:=by rw[<-a_ (f:=(·.1)),ea,a_]
 rw[e1]at g
 exact⟨a,b,vs,rfl,rfl,ha,hb,c _ _ _ g (cz rp.tail.tail fun _=>.bl)⟩
theorem fE{o o':Bool}{kvs:List (List Key × T)}{k:T->Prop}:Ht (.dT o kvs) (.dT o' []) k=k (.bl (kvs.length != 0)):=propext ⟨fun⟨_,_,_,e1,_,g⟩=>by cases e1;exact g,fun g=>⟨_,_,_,rfl,rfl,g⟩⟩
end PL
namespace Mp
open PySem L2
def top(i:Nat):Of:=PySem.Challenge.pw_millpath_k21_why_left.main.body.getD i (.Pass ⟨0,0,0,0⟩)
noncomputable abbrev s_inner_point:Of:=top 2
noncomputable abbrev s_octo_of:Of:=top 4
noncomputable abbrev s_added:Of:=top 5
noncomputable abbrev s_moved:Of:=top 6
noncomputable abbrev s_quarters_in:Of:=top 7
noncomputable abbrev s_is_flat:Of:=top 8
noncomputable abbrev s_holds:Of:=top 9
noncomputable abbrev s_mark_of:Of:=top 11
noncomputable abbrev s_near_quarters:Of:=top 13
noncomputable abbrev s_noted:Of:=top 14
noncomputable abbrev s_why_left:Of:=top 16
noncomputable abbrev s_corners_about:Of:=top 17
noncomputable abbrev s_first_missing:Of:=top 18
noncomputable abbrev s_begin:Of:=top 20
noncomputable abbrev s_take:Of:=top 21
noncomputable abbrev s_same:Of:=top 22
noncomputable abbrev s_box:Of:=top 23
noncomputable abbrev s_angled:Of:=top 24
noncomputable abbrev s_outline:Of:=top 25
noncomputable abbrev s_mark:Of:=top 26
noncomputable abbrev s_in_mark:Of:=top 27
noncomputable abbrev s_inside:Of:=top 28
noncomputable abbrev s_crossed:Of:=top 29
noncomputable abbrev s_tool:Of:=top 30
noncomputable abbrev s_island:Of:=top 31
noncomputable abbrev s_pocket:Of:=top 32
noncomputable abbrev s_strewn:Of:=top 33
noncomputable abbrev s_marks:Of:=top 34
noncomputable abbrev s_holding:Of:=top 35
noncomputable abbrev s_first:Of:=top 36
noncomputable abbrev s_why:Of:=top 37
noncomputable abbrev s_tools:Of:=top 38
noncomputable abbrev s_some:Of:=top 39
noncomputable abbrev s_law:Of:=top 40
theorem rm{kvs:List (Key × V)}{k:Key}{v:V}:fN ((k,v)::kvs) k=some v:=by
 unfold fN
 rw[JP,show(decide ((k,v).1=k))=true from decide_eq_true rfl]
 rfl
theorem ox{kvs:List (Key × V)}{k k':Key}{v:V}(h:¬ k=k'):fN ((k,v)::kvs) k'=fN kvs k':=by
 unfold fN
 rw[JP,show(decide ((k,v).1=k'))=false from decide_eq_false h]
theorem key_ne:¬((Oe ("cells":Str):Key)=Oe ("turn":Str)):=by decide +kernel
def stK(c:NN)(t:Int):List (Key × V):=[(Oe ("cells":Str),V.ref c),(Oe ("turn":Str),V.int t)]
theorem tQ(c:NN)(t:Int):fN (stK c t) (Oe ("cells":Str))=some (.ref c):=rm
theorem vw(c:NN)(t:Int):fN (stK c t) (Oe ("turn":Str))=some (.int t):=by
 unfold stK
 rw[ox key_ne]
 exact rm
theorem G8(c:NN)(t u:Int):putK (stK c t) (Oe ("turn":Str)) (.int u)=stK c u:=by
 have e:((stK c t).any fun kv=>decide (kv.1=(Oe ("turn":Str):Key)))=true:=by
  rw[jz,vw];rfl
 unfold putK
 rw[if_pos e]
 show [(if(Oe ("cells":Str):Key)=Oe ("turn":Str)then _ else _),(if(Oe ("turn":Str):Key)=Oe ("turn":Str)then _ else _)]=stK c u
 rw[if_neg key_ne,if_pos rfl]
 rfl
structure StAt (H:Hp) (st c:NN) (cs:List Int) (t:Int):Prop where
 d:H st=some (.dK (stK c t))
 l:H c=some (.lst (cs.map V.int))
 pos:0 < cs.length
 len:cs.length<=63
theorem StAt.ne {H:Hp}{st c:NN}{cs:List Int}{t:Int}(S:StAt H st c cs t):st≠c:=xw S.d S.l (by intro z;cases z)
theorem StAt.same {H H':Hp}{st c:NN}{cs:List Int}{t:Int}(S:StAt H st c cs t)(e:bo H H'):StAt H' st c cs t:=⟨e _ _ S.d,e _ _ S.l,S.pos,S.len⟩
structure Txt (mg:Str->Option NK):Prop where
 len:mg "len"=none
 list:mg "list"=none
 divmod:mg "divmod"=none
 isinstance:mg "isinstance"=none
 dict:mg "dict"=none
 tuple:mg "tuple"=none
 str:mg "str"=none
 int:mg "int"=none
 bool:mg "bool"=none
 all:mg "all"=none
 any:mg "any"=none
 zip:mg "zip"=none
 range:mg "range"=none
 max:mg "max"=none
 min:mg "min"=none
 abs:mg "abs"=none
 sum:mg "sum"=none
 sorted:mg "sorted"=none
 enumerate:mg "enumerate"=none
 set:mg "set"=none
 reversed:mg "reversed"=none
noncomputable def DK(K:NM):Sp:=fun vs H Q _=>∃(a:NN) (ns:List Int),vs=[.ref a]/\SqL K H a (ns.map V.int)/\ns.length<=63/\∀(st c:NN) (cs:List Int) (H':Hp),H st=none->H c=none->StAt H' st c cs 0->bo H H'->Q (.ref st) H'
noncomputable def H0:Sp:=fun vs H Q _=>∃(st c:NN) (cs:List Int) (t m:Int),vs=[.ref st,.int m]/\StAt H st c cs t/\0<=t/\t < 2 ^ 40/\0 < m/\m < 1073741824/\
 ∀(r:Int) (cs':List Int) (H':Hp),0<=r->r < m->StAt H' st c cs' (t + 1)->Kp st c H H'->Q (.int r) H'
section
variable{P:NW}{w:N3}{K:NM}{mg:Str->Option NK}{base:N5}
theorem scB:FnScope ["_law_script","_law_cells"] ["_law_script"] (aA s_begin):=⟨rfl,rfl,rfl,by decide +kernel,rfl,by decide +kernel,by decide +kernel⟩
theorem yR{f:NN}{fd:N9}(F:Fun K "_law_begin" "_law_begin" s_begin f fd)(T:Txt mg):FnOk P w K mg base CX0 1 f fd ["_law_script"] (DK K):=by
 refine F.ok scB (fun vs H Q E h=>?_) (fun cdv A outer s H vs Q E hr h=>?_)
 ·obtain⟨a,ns,rfl,_⟩:=h
  rfl
 obtain⟨a,ns,rfl,hS,h63,q⟩:=h
 have sc:=@scB
 refine⟨_,(bj (iJ (i:=1) sc.nd rfl (e_ rfl) (oN kx (by rfl) T.list (by decide +kernel) (aG (su vV (pv 0) wN (wV d7)) cu)))
  (bj (jL (j5 AS (pv 1) (A7 cu) (aL _)) (eZ (iJ (i:=1) sc.nd rfl (e_ rfl) (A7 (aG d7 cu)))) fX)
  (eZ (gF (CZ (tI jt (pv 1) (tI jt d7 BH)) rfl rfl (by intro z;cases z) (by decide)))))),?_⟩
 refine⟨_,rfl,_,rfl,a,_,rfl,hS,fun p hp=>⟨p,_,rfl,.inl (SqL.of aR),fun l hl=>?_⟩⟩
 obtain⟨zs,ez,lz⟩:∃ zs:List Int,iw (ns.map V.int) none (some 63)=zs.map V.int/\zs.length<=63:=by
  refine⟨_,by unfold iw;rw[<-MR,<-MT],?_⟩
  exact n_ (List.length_take_le' _ _) (n_ (by rw[C'];omega) h63)
 have hp0:H p=none:=hp
 have hl0:H l=none:=(cw hp _).none hl
 have g1:bo H (upd (upd H p (.lst (iw (ns.map V.int) none (some 63)))) l (.lst (iw (ns.map V.int) none (some 63)))):=(cw hp _).trans' (cw hl _)
 refine⟨_,rfl,(by show 0<=sizeLine;decide),fun e he=>?_⟩
 have hul:∀ o,upd (upd (upd H p (.lst (iw (ns.map V.int) none (some 63)))) l (.lst (iw (ns.map V.int) none (some 63)))) e o l=some (.lst (zs.map V.int)):=fun o=>by
  rw[aH (cy aR he),aR,ez]
 have he0:H e=none:=g1.none he
 have g2:=g1.trans' (cw he (.lst []))
 refine⟨.lst (di zs),.lst (di []),qZ (SqL.of (hul _)),qZ (SqL.of aR),?_,_,rfl,?_⟩
 ·have:=iF hr
  rw[dpt,oy]
  exact this
 have fin:∀(c:NN) (cs:List Int) (H2:Hp),H c=none->bo H H2->H2 c=some (.lst (cs.map V.int))->0 < cs.length->cs.length<=63->∀ p,H2 p=none->StAt (upd (upd H2 p (.dK [])) p (.dK (iB [] [(Oe ("cells":Str),V.ref c),(Oe ("turn":Str),V.int 0)]))) p c cs 0/\bo H (upd (upd H2 p (.dK [])) p (.dK (iB [] [(Oe ("cells":Str),V.ref c),(Oe ("turn":Str),V.int 0)]))):=fun c cs H2 hc g h1 h2 h3 p hp=>by
  have em:iB [] [((Oe ("cells":Str):Key),V.ref c),(Oe ("turn":Str),V.int 0)]=stK c 0:=by
   show putK (putK ([]:List (Key × V)) (Oe ("cells":Str)) (V.ref c)) (Oe ("turn":Str)) (V.int 0)=stK c 0
   rw[kj _ (show fN ([]:List (Key × V)) (Oe ("cells":Str))=none from rfl),LV,kj _ (show fN [((Oe ("cells":Str):Key),V.ref c)] (Oe ("turn":Str))=none by rw[ox key_ne];rfl)]
   rfl
  rw[em,BI]
  exact⟨⟨aR,by rw[aH (cy h1 hp)];exact h1,h2,h3⟩,g.trans' (cw hp _)⟩
 refine IH (fun c=>?_) (fun c=>?_)
 ·
  refine⟨(by show 1<=sizeLine;decide),fun c7 h7=>?_⟩
  have g3:=g2.trans' (cw h7 (.lst [V.int 7]))
  intro p' hp'
  obtain⟨S,g4⟩:=fin c7 [7] _ (g2.none h7) g3 aR (by decide) (by decide) p' hp'
  refine⟨_,rfl,?_,[(Oe ("cells":Str),V.ref c7),(Oe ("turn":Str),V.int 0)],rfl,(by show 2<=15;decide),?_⟩
  ·exact aR
  exact q p' c7 [7] _ (g3.none hp') (g2.none h7) S g4
 have c0:0 < zs.length:=by
  cases zs with
  | nil=>rw[iH]at c;cases c
  | cons a r=>exact Lg _
 intro p' hp'
 obtain⟨S,g4⟩:=fin l zs _ hl0 g2 (hul _) c0 lz p' hp'
 refine⟨_,rfl,?_,[(Oe ("cells":Str),V.ref l),(Oe ("turn":Str),V.int 0)],rfl,(by show 2<=15;decide),?_⟩
 ·exact aR
 exact q p' l zs _ (g2.none hp') hl0 S g4
theorem scT:FnScope ["_law_state","_law_many","_law_turn","_law_place","_law_cell","_law_digit","_law_mixed"] ["_law_state","_law_many"] (aA s_take):=⟨rfl,rfl,rfl,by decide +kernel,rfl,by decide +kernel,by decide +kernel⟩
theorem DC{f:NN}{fd:N9}(F:Fun K "_law_take" "_law_take" s_take f fd)(T:Txt mg):FnOk P w K mg base CX0 1 f fd ["_law_state","_law_many"] H0:=by
 refine F.ok scT (fun vs H Q E h=>?_) (fun cdv A outer s H vs Q E hr h=>?_)
 ·obtain⟨st,c,cs,t,m,rfl,_⟩:=h
  rfl
 obtain⟨st,c,cs,t,m,rfl,S,ht0,ht,hm0,hm1,q⟩:=h
 have sc:=@scT
 have hu:=iF hr
 refine⟨_,(bj (iJ (i:=2) sc.nd rfl (e_ rfl) (eV mU (mI hu (pv 0) jt (fun _ _=>rfl)) d7))
  (bj (Cc hu (pv 0) jt (pv 2) rfl)
  (bj (iJ (i:=3) sc.nd rfl (e_ rfl) (eV jl (pv 2) (bE fV (by rfl) T.len (by decide +kernel) (aG (mI hu (pv 0) jt (fun _ _=>rfl)) cu))))
  (bj (iJ (i:=4) sc.nd rfl (e_ rfl) (Ea x5 (mI hu (pv 0) jt (fun _ _=>rfl)) (pv 3) (fun _ _=>rfl)))
  (bj (jL (j5 IZ (pv 4) (eV EF d7 d7) (aL _)) (bj (BA (bE sI (by rfl) T.divmod (by decide +kernel) (aG (pv 4) (aG (pv 1) cu))) (uV rfl (iI (zk (mI hu (pv 0) jt (fun _ _=>rfl)) (pv 3) set_list) (iI (ml (i:=5) sc.nd rfl (e_ rfl)) pT))))
  (eZ (gF (pv 5)))) fX)
  (bj (iJ (i:=6) sc.nd rfl (e_ rfl) (eV jl (eV jx (eV mU (eV mU (eV jl (pv 4) d7) (eV jx (eV jx (pv 2) (pv 2)) d7)) d7) d7) d7))
  (bj (iJ (i:=6) sc.nd rfl (e_ rfl) (eV jl (eV jx (pv 6) (pv 6)) d7))
  (eZ (gF (eV jl (eV x6 (eV jl (eV jx (eV mU (pv 6) (eV jx (pv 2) d7)) d7) d7) d7) (pv 1))))))))))),?_⟩
 have D0:kF H st (.str ("turn":Str)) (some (.int t)):=by rw[<-vw c t];exact kF.k (k:=Oe ("turn":Str)) S.d
 refine⟨_,rfl,st,_,rfl,D0,_,_,rfl,rfl,?_⟩
 have hP:xR H st (.str ("turn":Str)) (.int (t + 1)) (upd H st (.dK (stK c (t + 1)))):=by
  rw[<-G8 c t (t + 1)]
  exact xR.k (k:=Oe ("turn":Str)) S.d (by show 2 < sizeLine;decide)
 refine⟨_,rfl,_,rfl,st,_,rfl,hP,?_⟩
 have S1:StAt (upd H st (.dK (stK c (t + 1)))) st c cs (t + 1):=⟨aR,by rw[aH S.ne.symm];exact S.l,S.pos,S.len⟩
 have K1:Kp st c H (upd H st (.dK (stK c (t + 1)))):=fun b o e n1 n2=>by rw[aH n1];exact e
 generalize upd H st (.dK (stK c (t + 1)))=H1 at S1 K1 ⊢
 have D1:kF H1 st (.str ("cells":Str)) (some (.ref c)):=by rw[<-tQ c (t + 1)];exact kF.k (k:=Oe ("cells":Str)) S1.d
 have hl:(cs.map V.int).length=cs.length:=a_ _
 have hpos:(0:Int) < (((cs.map V.int).length:Nat):Int):=by rw[hl];have:=S.pos;omega
 refine⟨_,rfl,_,rfl,st,_,rfl,D1,c,_,rfl,.inl (SqL.of S1.l),_,_,rfl,rfl,hpos,?_⟩
 have j0:0<=(t + 1) % (((cs.map V.int).length:Nat):Int):=LW _ (by omega)
 have j1:(t + 1) % (((cs.map V.int).length:Nat):Int) < (cs.length:Int):=by
  have:=LB (t + 1) hpos
  rw[hl]at this ⊢
  exact this
 obtain⟨v,hat⟩:∃ v:Int,atI (cs.map V.int) ((t + 1) % (((cs.map V.int).length:Nat):Int))=some (.int v):=⟨_,AN j0 j1⟩
 refine⟨_,rfl,st,_,rfl,D1,_,rfl,c,_,_,_,rfl,rfl,SqL.of S1.l,hat,?_⟩
 refine⟨_,rfl,_,_,rfl,rfl,⟨by decide,by decide,by decide⟩,_,_,rfl,rfl,_,rfl,?_⟩
 refine IH (fun hc=>?_) (fun hc=>?_)
 ·
  refine⟨_,rfl,_,rfl,_,_,rfl,⟨hm0,hm1⟩,fun p hp=>?_⟩
  have g:=cw hp (.tup [.int (v / m),.int (v % m)])
  have S2:=S1.same g
  have D2:kF (upd H1 p (.tup [.int (v / m),.int (v % m)])) st (.str ("cells":Str)) (some (.ref c)):=by rw[<-tQ c (t + 1)];exact kF.k (k:=Oe ("cells":Str)) S2.d
  refine⟨p,_,rfl,SqT.of aR,rfl,_,_,rfl,?_⟩
  refine⟨_,rfl,st,_,rfl,D2,_,rfl,c,_,_,((t + 1) % (((cs.map V.int).length:Nat):Int)).toNat,rfl,rfl,S2.l,wL j0 (by rw[hl];rw[hl]at j1;exact j1),?_⟩
  refine⟨_,_,rfl,rfl,?_⟩
  refine⟨_,rfl,?_⟩
  have es:∀ j:Nat,(cs.map V.int).set j (.int (v / m))=(cs.set j (v / m)).map V.int:=fun j=>by rw[List.map_set]
  refine q (v % m) (cs.set ((t + 1) % (((cs.map V.int).length:Nat):Int)).toNat (v / m)) _ (LW _ (by omega)) (LB _ hm0) ⟨?_,?_,?_,?_⟩ ?_
  ·rw[aH S2.ne];exact S2.d
  ·rw[aR,es]
  ·rw[JL];exact S.pos
  ·rw[JL];exact S.len
  intro b o e n1 n2
  rw[aH n2]
  exact g b o (K1 b o e n1 n2)
 
 have mulR:∀(x y:Int),-(2 ^ 64) < y->y < 2 ^ 64->uw x y:=fun x y h1 h2=>.inr ⟨h1,h2⟩
 refine⟨_,rfl,_,_,rfl,rfl,(by show(0:Int) < 2147483629;decide),_,rfl,_,rfl,_,_,rfl,rfl,mulR _ _ (by omega) (by omega),_,_,rfl,rfl,mulR _ _ (by decide) (by decide),_,_,rfl,rfl,_,_,rfl,rfl,_,_,rfl,rfl,mulR _ _ (by decide) (by decide),_,_,rfl,rfl,(by show(0:Int) < 2147483647;decide),?_⟩
 generalize hM:(v % 2147483629 + (t + 1) * (t + 1) * 7919 + 11) * 48271 % 2147483647=M
 have m0:0<=M:=by rw[<-hM];exact LW _ (by decide)
 have m1:M < 2147483647:=by rw[<-hM];exact LB _ (by decide)
 refine⟨_,rfl,_,rfl,_,_,rfl,rfl,mulR _ _ (by omega) (by omega),_,_,rfl,rfl,(by show(0:Int) < 2147483587;decide),?_⟩
 refine⟨_,rfl,_,rfl,_,_,rfl,rfl,mulR _ _ (by decide) (by decide),_,_,rfl,rfl,_,_,rfl,rfl,mulR _ _ (by decide) (by decide),_,_,rfl,rfl,(by show(0:Int) < 2147483629;decide),_,_,rfl,rfl,⟨by decide,by decide⟩,_,rfl,_,_,rfl,rfl,hm0,?_⟩
 exact q _ cs H1 (LW _ (by omega)) (LB _ hm0) S1 K1
end
mutual
def gd:Dt->Bool
 | .bl _=>false
 | .lst ds=>decide (ds.length<=100000) && gdL ds
 | .tup ds=>decide (ds.length<=100000) && gdL ds
 | _=>true
def gdL:List Dt->Bool
 | []=>true
 | d::r=>gd d && gdL r
end
theorem pW:∀ {ds:List Dt} {i:Nat} {d:Dt},gdL ds=true->ds[i]?=some d->gd d=true
 | [],i,d,_,e=>by simp at e
 | c::r,0,d,h,e=>by
  rw[gdL,F_]at h
  simp at e
  subst e
  exact h.1
 | c::r,i + 1,d,h,e=>by
  rw[gdL,F_]at h
  exact pW h.2 (i:=i) (by simpa using e)
def lg(K:NM)(n:Nat):Sp:=fun vs H Q _=>∃(x y:V) (d:Dt),vs=[x,y]/\Has K H d x/\Has K H d y/\gd d=true/\dpt d < n/\∀ H',bo H H'->Q (.bl true) H'
theorem tR{α:Type}(n:Nat)(c:α):(p_ n).map (fun _=>c)=J_ n c:=by
 induction n with
 | zero=>rfl
 | succ n ih=>rw[Ka,r_,ih,List.map_singleton,List.replicate_succ']
theorem lU(n:Nat):(p_ n).filter (fun _=>true)=p_ n:=by simp
section
variable{P:NW}{w:N3}{K:NM}{mg:Str->Option NK}{base:N5}
theorem scS:FnScope ["_law_found","_law_due"] ["_law_found","_law_due"] (aA s_same):=⟨rfl,rfl,rfl,by decide +kernel,rfl,by decide +kernel,by decide +kernel⟩
set_option maxHeartbeats 1000000 in
theorem C2{n:Nat}{f:NN}{fd:N9}(F:Fun K "_law_same" "_law_same" s_same f fd)(T:Txt mg)(G_same:Cal P w K mg base n "_law_same" ["_law_found","_law_due"] (lg K n)) :
  FnOk P w K mg base CX0 (n + 1) f fd ["_law_found","_law_due"] (lg K (n + 1)):=by
 refine F.ok scS (fun vs H Q E h=>?_) (fun cdv A outer s H vs Q E hr h=>?_)
 ·obtain⟨x,y,d,rfl,_⟩:=h
  rfl
 obtain⟨x,y,d,rfl,hx,hy,hg,hd,q⟩:=h
 have sc:=@scS
 have nd2:(["_law_one","_law_other"]:List Str).Nodup:=by decide +kernel
 refine⟨_,(bj (jL (EH (B6 (pv 1))) (eZ (gF (GP (B6 (pv 0))))) fX)
  (bj (jL (qb (bE bD (by rfl) T.isinstance (by decide +kernel) (aG (pv 1) (aG (eY (v:=.ty (Ty.nm .dct)) (by rfl) T.dict (by decide +kernel) rfl) cu)))) yx fX)
  (bj (jL (PW.pt (Bs (qb (bE bD (by rfl) T.isinstance (by decide +kernel) (aG (pv 1) (aG (eY (v:=.ty (Ty.nm .lst)) (by rfl) T.list (by decide +kernel) rfl) cu)))) (uT (qb (bE bD (by rfl) T.isinstance (by decide +kernel) (aG (pv 1) (aG (eY (v:=.ty (Ty.nm .tup)) (by rfl) T.tuple (by decide +kernel) rfl) cu)))))))
   (bj (jL (j5 Al (bE bD (by rfl) T.isinstance (by decide +kernel) (aG (pv 0) (aG (eY (v:=.ty (Ty.nm .lst)) (by rfl) T.list (by decide +kernel) rfl) cu))) (bE bD (by rfl) T.isinstance (by decide +kernel) (aG (pv 1) (aG (eY (v:=.ty (Ty.nm .lst)) (by rfl) T.list (by decide +kernel) rfl) cu))) (aL _)) (eZ (gF zV)) fX)
   (bj (jL (PW.pt (Bs (j5 Al (bE bD (by rfl) T.isinstance (by decide +kernel) (aG (pv 0) (aG (eY (v:=.ty (Ty.nm .tup)) (by rfl) T.tuple (by decide +kernel) rfl) cu))) (bE bD (by rfl) T.isinstance (by decide +kernel) (aG (pv 1) (aG (eY (v:=.ty (Ty.nm .tup)) (by rfl) T.tuple (by decide +kernel) rfl) cu))) (aL _)) (uT (j5 Al (bE fV (by rfl) T.len (by decide +kernel) (aG (pv 0) cu)) (bE fV (by rfl) T.len (by decide +kernel) (aG (pv 1) cu)) (aL _))))) (eZ (gF zV)) fX)
   (eZ (gF (bE (rR rfl) (by rfl) T.all (by decide +kernel) (aG (rM sc ["_law_one","_law_other"] [none,none] nd2 (by decide +kernel) (zA (by rfl) T.zip (aG (pv 0) (aG (pv 1) cu))) (fun _ _ _=>(uV rfl (iI (ml (i:=0) nd2 rfl (e_ rfl) (k_ rfl)) (iI (ml (i:=1) nd2 rfl (e_ rfl) (k_ rfl)) pT)))) (fun _ _ _=>wa) (fun _ _ _=>(zi G_same hr (by rfl) (aG (pv 0) (aG (pv 1) cu))))) cu)))))) fX)
  (bj (jL (qb (bE bD (by rfl) T.isinstance (by decide +kernel) (aG (pv 1) (aG (eY (v:=.ty (Ty.nm .str)) (by rfl) T.str (by decide +kernel) rfl) cu)))) (eZ (gF (qf (bE bD (by rfl) T.isinstance (by decide +kernel) (aG (pv 0) (aG (eY (v:=.ty (Ty.nm .str)) (by rfl) T.str (by decide +kernel) rfl) cu))) (vb (qO DO (pv 0) (pv 1) (aL _)))))) fX)
  (eZ (gF (qf (bE bD (by rfl) T.isinstance (by decide +kernel) (aG (pv 0) (aG (eY (v:=.ty (Ty.nm .int)) (by rfl) T.int (by decide +kernel) rfl) cu))) (qf (FO (bE bD (by rfl) T.isinstance (by decide +kernel) (aG (pv 0) (aG (eY (v:=.ty (Ty.nm .bl)) (by rfl) T.bool (by decide +kernel) rfl) cu)))) (vb (qO DO (pv 0) (pv 1) (aL _))))))))))),?_⟩
 cases d with
 | bl b=>simp[gd]at hg
 | non=>
  rw[Has]at hx hy
  subst hx hy
  refine⟨_,rfl,_,rfl,nh (by decide) ⟨_,rfl,?_⟩⟩
  exact sA (by decide) (q H .d6)
 | int i=>
  rw[Has]at hx hy
  subst hx hy
  refine⟨_,rfl,_,rfl,eO (by simp) ?_⟩
  refine⟨_,rfl,_,_,.int,[.dct],rfl,.int i,.inl ⟨_,rfl,rfl⟩,_,rfl,eO (by decide) ?_⟩
  refine⟨_,rfl,_,_,.int,[.lst],rfl,.int i,.inl ⟨_,rfl,rfl⟩,_,rfl,eO (by decide) ?_⟩
  refine⟨_,rfl,_,_,.int,[.tup],rfl,.int i,.inl ⟨_,rfl,rfl⟩,_,rfl,eO (by decide) ?_⟩
  refine⟨_,rfl,_,_,.int,[.str],rfl,.int i,.inl ⟨_,rfl,rfl⟩,_,rfl,eO (by decide) ?_⟩
  refine⟨_,rfl,_,_,.int,[.int],rfl,.int i,.inl ⟨_,rfl,rfl⟩,_,rfl,nh (by decide) ?_⟩
  refine⟨_,rfl,_,_,.int,[.bl],rfl,.int i,.inl ⟨_,rfl,rfl⟩,_,rfl,_,rfl,nh (by decide) ?_⟩
  refine⟨_,rfl,_,rfl,rfl,?_⟩
  exact sA (by simp) (q H .d6)
 | str i=>
  rw[Has]at hx hy
  subst hx hy
  refine⟨_,rfl,_,rfl,eO (by simp) ?_⟩
  refine⟨_,rfl,_,_,.str,[.dct],rfl,.str i,.inl ⟨_,rfl,rfl⟩,_,rfl,eO (by decide) ?_⟩
  refine⟨_,rfl,_,_,.str,[.lst],rfl,.str i,.inl ⟨_,rfl,rfl⟩,_,rfl,eO (by decide) ?_⟩
  refine⟨_,rfl,_,_,.str,[.tup],rfl,.str i,.inl ⟨_,rfl,rfl⟩,_,rfl,eO (by decide) ?_⟩
  refine⟨_,rfl,_,_,.str,[.str],rfl,.str i,.inl ⟨_,rfl,rfl⟩,_,rfl,nh (by decide) ?_⟩
  refine⟨_,rfl,_,_,.str,[.str],rfl,.str i,.inl ⟨_,rfl,rfl⟩,_,rfl,nh (by decide) ?_⟩
  refine⟨_,rfl,_,rfl,rfl,?_⟩
  exact sA (by simp) (q H .d6)
 | lst ds=>
  rw[Has]at hx hy
  obtain⟨a,xs,rfl,s1,l1⟩:=hx
  obtain⟨b,ys,rfl,s2,l2⟩:=hy
  have m1:=l1.len
  have m2:=l2.len
  have hg2:ds.length<=100000/\gdL ds=true:=by simpa[gd]using hg
  have hd2:cN ds < n:=by rw[dpt]at hd;omega
  refine⟨_,rfl,_,rfl,eO (by simp) ?_⟩
  refine⟨_,rfl,_,_,.lst,[.dct],rfl,.lst s2,.inl ⟨_,rfl,rfl⟩,_,rfl,eO (by decide) ?_⟩
  refine⟨_,rfl,_,_,.lst,[.lst],rfl,.lst s2,.inl ⟨_,rfl,rfl⟩,_,rfl,nh (by decide) ?_⟩
  refine⟨_,rfl,_,_,.lst,[.lst],rfl,.lst s1,.inl ⟨_,rfl,rfl⟩,_,rfl,_,_,.lst,[.lst],rfl,.lst s2,.inl ⟨_,rfl,rfl⟩,rfl,_,rfl,eO (by simp) ?_⟩
  refine⟨_,rfl,_,_,.lst,[.tup],rfl,.lst s1,.inl ⟨_,rfl,rfl⟩,_,rfl,_,_,.lst,[.tup],rfl,.lst s2,.inl ⟨_,rfl,rfl⟩,rfl,_,rfl,eO (by simp) ?_⟩
  refine⟨_,rfl,a,_,rfl,.inl s1,_,rfl,b,_,rfl,.inl s2,rfl,_,rfl,eO (by rw[<-m1,<-m2];simp) ?_⟩
  refine⟨_,rfl,_,rfl,false,a,false,b,rfl,⟨xs,s1⟩,⟨ys,s2⟩,rP (K:=K) (fun σ'=>σ'.length=2) ds.length (by have:=hg2.1;show ds.length < 2 ^ 24;omega) (fun _=>.bl true) (fun _=>true) (fun _=>by simp[sj]) rfl
   (zP (b1:=false) (b2:=false) s1 s2 m1.symm m2.symm) (rg (b1:=false) (b2:=false) s1 s2 m1.symm m2.symm) ?_ ?_⟩
  ·intro s3 H3' fp i σ' H' hi ok sm x H2 hy Nx Ap _ hA
   obtain⟨p',u,v,rfl,sm2,hp',hu,hv⟩:=vX (b1:=false) (b2:=false) s1 s2 sm hy
   obtain⟨z0,z1,rfl⟩:∃ z0 z1,σ'=[z0,z1]:=by
    match σ',ok with
    | [z0,z1],_=>exact⟨z0,z1,rfl⟩
   have sm3:=sm.trans' sm2
   refine⟨p',_,rfl,SqT.of hp',rfl,u,[v],rfl,v,[],rfl,rfl,?_⟩
   refine sr ?_
   refine⟨_,rfl,_,rfl,u,v,ds[i],rfl,Has.same sm3 (l1.get (b_ hi) hu),Has.same sm3 (l2.get (b_ hi) hv),pW hg2.2 (b_ hi),G' (jZ (b_ hi)) hd2,fun H5 s5=>?_⟩
   exact hA rfl _ _ H5 rfl (sm2.trans' s5) (by rw[Has])
  ·intro p acc H' hp sm hacc hl
   have e:((p_ ds.length).filter fun _=>true).map (fun _=>Dt.bl true)=(J_ ds.length true).map Dt.bl:=by rw[lU,tR,M7]
   rw[e]at hl
   have hb:=jk hl
   rw[hb]at hacc
   refine⟨p,_,rfl,SqL.of hacc,?_⟩
   exact sA (by simp) (q H' sm)
 | tup ds=>
  rw[Has]at hx hy
  obtain⟨a,xs,rfl,s1,l1⟩:=hx
  obtain⟨b,ys,rfl,s2,l2⟩:=hy
  have m1:=l1.len
  have m2:=l2.len
  have hg2:ds.length<=100000/\gdL ds=true:=by simpa[gd]using hg
  have hd2:cN ds < n:=by rw[dpt]at hd;omega
  refine⟨_,rfl,_,rfl,eO (by simp) ?_⟩
  refine⟨_,rfl,_,_,.tup,[.dct],rfl,.tup s2,.inl ⟨_,rfl,rfl⟩,_,rfl,eO (by decide) ?_⟩
  refine⟨_,rfl,_,_,.tup,[.lst],rfl,.tup s2,.inl ⟨_,rfl,rfl⟩,_,rfl,eO (by decide) ?_⟩
  refine⟨_,rfl,_,_,.tup,[.tup],rfl,.tup s2,.inl ⟨_,rfl,rfl⟩,_,rfl,nh (by decide) ?_⟩
  refine⟨_,rfl,_,_,.tup,[.lst],rfl,.tup s1,.inl ⟨_,rfl,rfl⟩,_,rfl,_,_,.tup,[.lst],rfl,.tup s2,.inl ⟨_,rfl,rfl⟩,rfl,_,rfl,eO (by simp) ?_⟩
  refine⟨_,rfl,_,_,.tup,[.tup],rfl,.tup s1,.inl ⟨_,rfl,rfl⟩,_,rfl,_,_,.tup,[.tup],rfl,.tup s2,.inl ⟨_,rfl,rfl⟩,rfl,_,rfl,eO (by simp) ?_⟩
  refine⟨_,rfl,a,_,rfl,.inr s1,_,rfl,b,_,rfl,.inr s2,rfl,_,rfl,eO (by rw[<-m1,<-m2];simp) ?_⟩
  refine⟨_,rfl,_,rfl,true,a,true,b,rfl,⟨xs,s1⟩,⟨ys,s2⟩,rP (K:=K) (fun σ'=>σ'.length=2) ds.length (by have:=hg2.1;show ds.length < 2 ^ 24;omega) (fun _=>.bl true) (fun _=>true) (fun _=>by simp[sj]) rfl
   (zP (b1:=true) (b2:=true) s1 s2 m1.symm m2.symm) (rg (b1:=true) (b2:=true) s1 s2 m1.symm m2.symm) ?_ ?_⟩
  ·intro s3 H3' fp i σ' H' hi ok sm x H2 hy Nx Ap _ hA
   obtain⟨p',u,v,rfl,sm2,hp',hu,hv⟩:=vX (b1:=true) (b2:=true) s1 s2 sm hy
   obtain⟨z0,z1,rfl⟩:∃ z0 z1,σ'=[z0,z1]:=by
    match σ',ok with
    | [z0,z1],_=>exact⟨z0,z1,rfl⟩
   have sm3:=sm.trans' sm2
   refine⟨p',_,rfl,SqT.of hp',rfl,u,[v],rfl,v,[],rfl,rfl,?_⟩
   refine sr ?_
   refine⟨_,rfl,_,rfl,u,v,ds[i],rfl,Has.same sm3 (l1.get (b_ hi) hu),Has.same sm3 (l2.get (b_ hi) hv),pW hg2.2 (b_ hi),G' (jZ (b_ hi)) hd2,fun H5 s5=>?_⟩
   exact hA rfl _ _ H5 rfl (sm2.trans' s5) (by rw[Has])
  intro p acc H' hp sm hacc hl
  have e:((p_ ds.length).filter fun _=>true).map (fun _=>Dt.bl true)=(J_ ds.length true).map Dt.bl:=by rw[lU,tR,M7]
  rw[e]at hl
  have hb:=jk hl
  rw[hb]at hacc
  refine⟨p,_,rfl,SqL.of hacc,?_⟩
  exact sA (by simp) (q H' sm)
theorem same_none{f:NN}{fd:N9}:FnOk P w K mg base CX0 0 f fd ["_law_found","_law_due"] (lg K 0):=by
 have no:∀ vs H Q E,¬ lg K 0 vs H Q E:=fun vs H Q E h=>by
  obtain⟨x,y,d,_,_,_,_,h,_⟩:=h
  omega
 exact⟨fun vs H Q E h=>absurd h (no vs H Q E),fun A outer s H args us vs Q E _ _ _ _ h=>absurd h (no vs H Q E)⟩
theorem sM(D:Dfn K mg "_law_same" s_same ["_law_found","_law_due"])(T:Txt mg):∀ n,Cal P w K mg base n "_law_same" ["_law_found","_law_due"] (lg K n)
 | 0=>D.cal fun _ _ _=>same_none
 | n + 1=>D.cal fun _ _ F=>C2 F T (sM D T n)
end
open PySem L2 PL
structure Cells where
 cs:List Int
 pos:0 < cs.length
 len:cs.length<=63
def stT(c:Cells)(n:Nat):T:=.dK true [(Oe ("cells":Str),.lst true (c.cs.map T.int)),(Oe ("turn":Str),.int (n:Int))]
theorem dU{c:Cells}{n:Nat}:isAny (stT c n)=false:=rfl
def Scr(K:NM)(t:T)(ns:List Int):Prop:=t=.lst false (ns.map T.int)\/∃ a,t=.hole (.ref a)/\∀ H,SqL K H a (ns.map V.int)
def qa(K:NM):FP:=fun ts k=>∃ t,∃ ns:List Int,ts=[t]/\Scr K t ns/\ns.length<=63/\∀ c,k (stT c 0) ts
noncomputable def gG:FP:=fun ts k=>∃ c n m,ts=[stT c n,.int m]/\n < 2 ^ 40/\0 < m/\m < 1073741824/\∀ r c',0<=r->r < m->k (.int r) [stT c' (n + 1),.int m]
def nU(n:Nat):FP:=fun ts k=>∃ f d,ts=[f,d]/\isD f=true/\isD d=true/\dt f=dt d/\gd (dt d)=true/\dpt (dt d) < n/\k (.bl true) ts
section
variable{P:NW}{w:N3}{K:NM}{mg:Str->Option NK}{base:N5}
theorem pY{α β:Type}{l:List (α × β)}{a b:α}(h:[a,b]=l.map (·.1)):∃ v w,l=[(a,v),(b,w)]:=by
 cases l with
 | nil=>cases h
 | cons x l=>
  cases l with
  | nil=>cases h
  | cons y l=>
   cases l with
   | nil=>
    have h1:=(JZ h).1
    have h2:=(JZ (JZ h).2).1
    exact⟨x.2,y.2,by rw[h1,h2]⟩
   | cons z l=>cases (JZ (JZ h).2).2
theorem rn{H:Hp}{a:NN}{o:HO}(h:H a=some o):Put H a o H:=⟨h,fun _ _=>rfl⟩
theorem IE{H:Hp}{Γ:Fm}{c:Cells}{n:Nat}{v:V}(h:Rp K H ((stT c n,some v)::Γ)):∃ st l,v=.ref st/\StAt H st l c.cs n/\Rp K H ((.bare,some (.ref st))::(.bare,some (.ref l))::Γ):=by
 obtain⟨st,kvs,ev,hs,ek,h2⟩:=sS h
 cases ev
 obtain⟨v1,v2,rfl⟩:=pY ek
 have h2:Rp K H ((.bare,some (.ref st))::(.lst true (c.cs.map T.int),some v1)::(.int (n:Int),some v2)::Γ):=h2
 have e2:v2=.int n:=aV h2.tail.tail
 subst e2
 have h3:=h2.perm (.swap _ _ _)
 obtain⟨l,vs,el,hl,ll,h4⟩:=hU h3
 cases el
 have ev:vs=c.cs.map V.int:=gv ll h4.tail
 subst ev
 refine⟨st,l,rfl,⟨hs,hl,c.pos,c.len⟩,?_⟩
 have h5:Rp K H ((.bare,some (.ref l))::(.bare,some (.ref st))::(.int (n:Int),some (.int n))::Γ):=by
  have:Rp K H (zz (c.cs.map T.int) (c.cs.map V.int)++((.bare,some (.ref l))::(.bare,some (.ref st))::(.int (n:Int),some (.int n))::Γ)):=h4.perm gV.symm
  exact this.part
 exact(h5.perm (by
  refine w_ (.cons _ (.swap _ _ _)) ?_
  refine w_ (.swap _ _ _) ?_
  exact .cons _ (.swap _ _ _))).tail
theorem tJ{H:Hp}{Γ:Fm}:∀(ns:List Int),Rp K H Γ->Rp K H (zz (ns.map T.int) (ns.map V.int)++Γ)
 | [],h=>h
 | n::r,h=>cz (tJ r h) fun _=>.int
theorem Ak{H:Hp}{Γ:Fm}{cs:List Int}{n:Nat}{st l:NN}(S:StAt H st l cs n)(h:Rp K H ((.bare,some (.ref st))::(.bare,some (.ref l))::Γ)):∃ c,Rp K H ((stT c n,some (.ref st))::Γ):=by
 refine⟨⟨cs,S.pos,S.len⟩,?_⟩
 have h1:Rp K H ((.bare,some (.ref l))::(zz (cs.map T.int) (cs.map V.int)++((.bare,some (.ref st))::Γ))):=(tJ cs (h.perm (.swap _ _ _))).perm gV
 have h2:=gM h1 (by rw[a_,a_]) (rn S.l)
 have h3:Rp K H ((.bare,some (.ref st))::((.lst true (cs.map T.int),some (.ref l))::(.int (n:Int),some (.int n))::Γ)):=by
  refine(cz (t:=.int (n:Int)) h2 fun _=>.int).perm ?_
  refine w_ (.swap _ _ _) ?_
  refine w_ (.cons _ (.swap _ _ _)) ?_
  exact .swap _ _ _
 exact oJ (ts:=[(Oe ("cells":Str),.lst true (cs.map T.int)),(Oe ("turn":Str),.int (n:Int))]) (vs:=stK l n) h3 rfl (rn S.d)
theorem Hi{H H':Hp}{a c:NN}{Γ:Fm}(h:Rp K H ((.bare,some (.ref a))::(.bare,some (.ref c))::Γ))(k:Kp a c H H')(ha:∃ u,H' a=some u/\∀ xs,u≠.tup xs)(hc:∃ u,H' c=some u/\∀ xs,u≠.tup xs):Rp K H' ((.bare,some (.ref a))::(.bare,some (.ref c))::Γ):=by
 obtain⟨ua,ea,na⟩:=ha
 obtain⟨uc,ec,nc⟩:=hc
 obtain⟨Hz,N,h,nd,g,d⟩:=h
 cases h with
 | cons e1 h1 c1=>
  cases c1 with
  | cons e2 h2 c2=>
   rcases h1 with⟨z,_⟩ | ⟨v1,ev1,h1⟩
   ·cases z
   rcases h2 with⟨z,_⟩ | ⟨v2,ev2,h2⟩
   ·cases z
   cases ev1;cases ev2
   cases h1;cases h2
   rename_i M u1 hu1 nt1 u2 hu2 nt2
   subst e2;subst e1
   have nd':(a::c::M).Nodup:=nd
   rw[JK,JK]at nd'
   have keep:∀ b o,H b=some o->b≠a->b≠c->H' b=some o:=k
   have tk:TK H H':=fun b xs r=>keep b _ r (fun z=>nt1 xs (z ▸ r)) (fun z=>nt2 xs (z ▸ r))
   have za:Hz a=none:=d a v_
   have zc:Hz c=none:=d c (l_ _ v_)
   have g':Gr Hz H':=fun b u r=>by
    obtain⟨w',q⟩:=Rd.some r
    have b1:b≠a:=fun z=>by rw[z,za]at q;cases q
    have b2:b≠c:=fun z=>by rw[z,zc]at q;cases q
    rcases g b u r with r | ⟨o,r⟩
    ·exact .inl (keep b _ r b1 b2)
    exact .inr ⟨o,keep b _ r b1 b2⟩
   refine⟨Hz,[a]++([c]++M),.cons rfl (.inr ⟨_,rfl,.bare ea fun xs z=>?_⟩) (.cons rfl (.inr ⟨_,rfl,.bare ec fun xs z=>?_⟩) (c2.move tk .d6 fun b m u e=>?_)),nd,g',d⟩
   ·rw[ea]at z;exact na xs (G_ z)
   ·rw[ec]at z;exact nc xs (G_ z)
   have b1:b≠a:=fun z=>nd'.1 (by rw[<-z];exact l_ _ m)
   have b2:b≠c:=fun z=>nd'.2.1 (by rw[<-z];exact m)
   exact⟨keep b u e b1 b2,fun nt xs r=>nt xs (by rw[keep b u e b1 b2]at r;exact e.trans r)⟩
theorem Cn{H H':Hp}{a c:NN}{Γ:Fm}(h:Rp K H Γ)(ha:H a=none)(hc:H c=none)(ne:a≠c)(s:bo H H')(ea:∃ u,H' a=some u/\∀ xs,u≠.tup xs)(ec:∃ u,H' c=some u/\∀ xs,u≠.tup xs):Rp K H' ((.bare,some (.ref a))::(.bare,some (.ref c))::Γ):=by
 obtain⟨ua,ea,na⟩:=ea
 obtain⟨uc,ec,nc⟩:=ec
 obtain⟨Hz,N,h,nd,g,d⟩:=h
 have n1:a ∉ N:=fun m=>by
  obtain⟨⟨u,e⟩,_⟩:=h.there a m
  rw[ha]at e;cases e
 have n2:c ∉ N:=fun m=>by
  obtain⟨⟨u,e⟩,_⟩:=h.there c m
  rw[hc]at e;cases e
 refine⟨Hz,[a]++([c]++N),.cons rfl (.inr ⟨_,rfl,.bare ea fun xs z=>?_⟩) (.cons rfl (.inr ⟨_,rfl,.bare ec fun xs z=>?_⟩) (h.move (bo.tk s) .d6 fun b m u e=>j7 s b u e)),?_,g.trans (.of s),?_⟩
 ·rw[ea]at z;exact na xs (G_ z)
 ·rw[ec]at z;exact nc xs (G_ z)
 ·show(a::c::N).Nodup
  rw[JK,JK]
  exact⟨fun m=>(t_.mp m).elim (fun z=>ne z) n1,n2,nd⟩
 intro b m
 have m:b∈a::c::N:=m
 rcases t_.mp m with rfl | m
 ·exact g.none ha
 rcases t_.mp m with rfl | m
 ·exact g.none hc
 exact d b m
theorem B4(D:Dfn K mg "_law_take" s_take ["_law_state","_law_many"])(TX:Txt mg):Cal P w K mg base 1 "_law_take" ["_law_state","_law_many"] (aM K 2 gG):=by
 refine(D.cal fun _ _ F=>DC F TX).imp ?_
 rintro vs H Q E ⟨ts,Fr,k,l,hn,rp,⟨c,n,m,rfl,h1,h2,h3,pk⟩,q⟩
 obtain⟨x,y,rfl⟩:=zz2 l rfl
 have rp:Rp K H ((stT c n,some x)::(.int m,some y)::Fr):=rp
 have ey:=aV rp.tail
 subst ey
 obtain⟨st,lc,rfl,S,rp2⟩:=IE rp
 refine⟨st,lc,c.cs,n,m,rfl,S,by omega,by omega,h2,h3,fun r cs' H' hr0 hr1 S' kp=>?_⟩
 have rp3:=Hi rp2 kp ⟨_,S'.d,fun _ z=>by cases z⟩ ⟨_,S'.l,fun _ z=>by cases z⟩
 have S'':StAt H' st lc cs' ((n + 1:Nat):Int):=by push_cast;exact S'
 obtain⟨c',rp4⟩:=Ak S'' rp3
 exact q _ _ _ _ (pk r c' hr0 hr1) (cz rp4 fun _=>.int)
theorem ve{H:Hp}{Γ:Fm}{w y:V}(h:Rp K H ((.hole w,some y)::Γ)):y=w:=by
 obtain⟨_,_,r,_⟩:=iP h rfl
 cases r
 rfl
theorem y8(D:Dfn K mg "_law_begin" s_begin ["_law_script"])(TX:Txt mg):Cal P w K mg base 1 "_law_begin" ["_law_script"] (aM K 1 (qa K)):=by
 refine(D.cal fun _ _ F=>yR F TX).imp ?_
 rintro vs H Q E ⟨ts,Fr,k,l,hn,rp,⟨t,ns,rfl,hs,h1,pk⟩,q⟩
 obtain⟨x,rfl⟩:=zz1 l rfl
 have rp:Rp K H ((t,some x)::Fr):=rp
 obtain⟨a,rfl,hq⟩:∃ a,x=.ref a/\SqL K H a (ns.map V.int):=by
  rcases hs with rfl | ⟨a,rfl,hs⟩
  ·obtain⟨a,us,rfl,hq,l2,rp2⟩:=aF rfl rp
   have eu:=gv l2 rp2
   subst eu
   exact⟨a,rfl,hq⟩
  exact⟨a,ve rp,hs H⟩
 refine⟨a,ns,rfl,hq,h1,fun st lc cs H' hs hl S g=>?_⟩
 have rp3:=Cn rp hs hl S.ne g ⟨_,S.d,fun _ z=>by cases z⟩ ⟨_,S.l,fun _ z=>by cases z⟩
 obtain⟨c,rp4⟩:=Ak (n:=0) S rp3
 exact q _ _ _ _ (pk c) rp4
def A3(K:NM):FP:=fun ts k=>∃ t,∃ ns:List Int,ts=[t]/\Scr K t ns/\ns.length<=63/\∀ z,k (.bl true) [z]
def xu(K:NM):Sp:=fun vs H Q _=>∃(a:NN) (ns:List Int),vs=[.ref a]/\SqL K H a (ns.map V.int)/\ns.length<=63/\∀ H',Q (.bl true) H'
theorem sC{Hz H:Hp}:∀(ns:List Int),RepTs K Hz H (ns.map T.int) (ns.map V.int) []
 | []=>.nil
 | _::r=>.cons rfl .int (sC r)
theorem Fh{k:Nat}{f:NN}{fd:N9}(F:FnOk P w K mg base CX0 k f fd ["_law_script"] (aM K 1 (A3 K))):FnOk P w K mg base CX0 k f fd ["_law_script"] (xu K):=by
 refine F.imp ?_
 rintro vs H Q E ⟨a,ns,rfl,hq,h1,q⟩
 have key:∀ t,Scr K t ns->(∀ Hz,RepT K H Hz t (.ref a) [])->aM K 1 (A3 K) [.ref a] H Q E:=fun t sc ht=>
  ⟨[t],[],fun t _=>t=.bl true,rfl,rfl,⟨H,[],.cons rfl (.inr ⟨_,rfl,ht H⟩) .nil,MD,.d6,fun _ m=>by cases m⟩,⟨t,ns,rfl,sc,h1,fun _=>rfl⟩,fun t ts' v H' e rp=>by
   subst e
   rw[lS rp]
   exact q H'⟩
 rcases hq with hq | hq
 ·exact key _ (.inl rfl) fun Hz=>.lstZ hq (sC ns)
 exact key _ (.inr ⟨a,rfl,fun H=>.inr hq⟩) fun Hz=>.hole
theorem yS{x y:Str}(D:Dfn K mg "_law_same" s_same [x,y])(n:Nat)(C:Cal P w K mg base n "_law_same" [x,y] (lg K n)):Cal P w K mg base n "_law_same" [x,y] (aM K 2 (nU n)):=by
 refine C.imp ?_
 rintro vs H Q E ⟨ts,Fr,k,l,hn,rp,⟨f,d,rfl,h1,h2,h3,h4,h5,pk⟩,q⟩
 obtain⟨u,v,rfl⟩:=zz2 l rfl
 have rp:Rp K H ((f,some u)::(d,some v)::Fr):=rp
 have r1:=gD rp h1
 rw[h3]at r1
 exact⟨u,v,dt d,rfl,r1,gD rp.tail h2,h4,h5,fun H' g=>q _ _ _ _ pk (cz (rp.same g) fun _=>.bl)⟩
end
open PySem L2 PL
abbrev vM:T:=.cst [.cst [.int 3,.int 2],.cst [.int 2,.int 3],.cst [.int 1,.int 2],.cst [.int 2,.int 1]]
noncomputable def kZ:=f' @PL.BK (f' @PL.GX (f' @PL.G7 (f' @PL.Ff (f' @PL.CQ (f' @PL.yr (f' @PL.Bt (f' @PL.Cd (f' @PL.A6 (f' @PL.Co (f' @PL.G3 (f' @PL.BL (f' @PL.zR (f' @PL.FF (f' @PL.D7 (f' @PL.DF (f' @PL.AV (f' @PL.Dy (f' @PL.Gy (f' @PL.Dp (f' @PL.DE (f' @PL.Dx (f' @PL.Ac (f' @PL.Gf (f' @PL.GU (f' @PL.EB (f' @PL.F3 (f' @PL.GZ (f' @PL.Ez (f' @PL.Fz (f' @PL.Cp (f' @PL.CB (f' @PL.BE (f' @PL.FG (f' @PL.Fn (f' @PL.Fj (f' @PL.ES (f' @PL.EU (f' @PL.Ey (f' @PL.Dh (f' @PL.zH (f' @PL.DL (f' @PL.G4 (f' @PL.Cw (f' @PL.Ai (f' @PL.Cj (f' @PL.FN (f' @PL.Fb (f' @PL.GV (f' @PL.Gx (f' @PL.FY (f' @PL.Fu (f' @PL.Es (f' @PL.EV (f' @PL.zD (f' @PL.FA (f' @PL.HN (f' @PL.Fv (f' @PL.uB (f' @PL.uC (f' @PL.rN (@PL.CF)))))))))))))))))))))))))))))))))))))))))))))))))))))))))))))
noncomputable def kN:=f' @PL.Ck (f' @PL.zF (f' @PL.Hw (f' @PL.HP (f' @PL.Hu (f' @PL.HS (f' @PL.Iy (f' @PL.Ia (f' @PL.HX (f' @PL.Ja (f' @PL.sE (f' @PL.oI (f' @PL.BC (f' @PL.j4 (f' @PL.BN (f' @PL.jj (f' @PL.cW (f' @PL.dC (f' @PL.xX (f' @PL.fM (f' @PL.xJ (f' @PL.Dd (f' @PL.yI (f' @PL.yV (f' @PL.yw (f' @PL.yi (f' @PL.xP (f' @PL.DA (f' @PL.yh (f' @d_.{0,0} (f' @Ks.{0,0} (f' @a_.{0,0} (f' @List.zipWith_nil_right.{0,0,0} (f' @decide_eq_true_eq (f' @decide_true (f' @MP (f' @ME (f' @MQ (f' @LM (f' @Bool.and_self (f' @true_and (f' @and_true (f' @Lx (f' @Mq (@PySem.sizeLine_eq))))))))))))))))))))))))))))))))))))))))))))
abbrev Pt:=Int × Int
def ptP(p:Pt):T:=pt p.1 p.2
theorem fq{p:Pt}:er (ptP p)=ptP p:=rfl
theorem cH{p:Pt}:cD (ptP p)=true:=rfl
theorem bO{p:Pt}:aU (ptP p)=true:=rfl
theorem bY{p:Pt}:isAny (ptP p)=false:=rfl
theorem dF{p:Pt}{k:T->Prop}:ixT (ptP p) (.int 0) k=k (.int p.1):=rfl
theorem dX{p:Pt}{k:T->Prop}:ixT (ptP p) (.int 1) k=k (.int p.2):=rfl
theorem dD{n:Nat}{gs:lZ}{p:Pt}{env:Ev}{k:Ev->Prop}:gTp n gs (ptP p) env k=gTp n gs (.tup [.int p.1,.int p.2]) env k:=rfl
theorem map_take{α β:Type}{g:α->β}{l:List α}{i:Nat}{x:α}(h:l[i]?=some x):JS g (l.take (i + 1))=JS g (l.take i)++[g x]:=by rw[KA,h,r_];rfl
theorem sizeLine_eq:sizeLine=16777216:=rfl
abbrev Qt:=Int × Int × Nat
def qtT(q:Qt):T:=.tup [.int q.1,.int q.2.1,.int (q.2.2:Int)]
theorem fv{q:Qt}:er (qtT q)=qtT q:=rfl
theorem cU{q:Qt}:cD (qtT q)=true:=rfl
theorem bK{q:Qt}:aU (qtT q)=true:=rfl
theorem bP{q:Qt}:isAny (qtT q)=false:=rfl
theorem dS{q:Qt}{k:T->Prop}:ixT (qtT q) (.int 2) k=k (.int (q.2.2:Int)):=rfl
theorem du{q:Qt}{k:T->Prop}:ixT (qtT q) (.int 0) k=k (.int q.1):=rfl
theorem dh{q:Qt}{k:T->Prop}:ixT (qtT q) (.int 1) k=k (.int q.2.1):=rfl
theorem eh{n:Nat}{gs:lZ}{q:Qt}{env:Ev}{k:Ev->Prop}:gTp n gs (qtT q) env k=gTp n gs (.tup [.int q.1,.int q.2.1,.int (q.2.2:Int)]) env k:=rfl
theorem bX{q:Qt}:lJ (qtT q)=false:=rfl
theorem dm{q:Qt}:isV (qtT q)=true:=rfl
def Ju:List Pt:=[(3,2),(2,3),(1,2),(2,1)]
def inn(s:Nat):Pt:=Ju.getD s (0,0)
theorem GY{s:Nat}(h:s < 4):atI [T.cst [.int 3,.int 2],.cst [.int 2,.int 3],.cst [.int 1,.int 2],.cst [.int 2,.int 1]] (s:Int)=some (.cst [.int (inn s).1,.int (inn s).2]):=by
 match s,h with
 | 0,_=>rfl
 | 1,_=>rfl
 | 2,_=>rfl
 | 3,_=>rfl
def qE(q:Qt):Pt:=(4 * q.1 + (inn q.2.2).1,4 * q.2.1 + (inn q.2.2).2)
theorem c4(x:Int):uw 4 x:=.inl ⟨by decide,by decide⟩
structure Oc where
 a:Int
 b:Int
 c:Int
 d:Int
 e:Int
 f:Int
 g:Int
 h:Int
def ocT(o:Oc):T:=.tup [.int o.a,.int o.b,.int o.c,.int o.d,.int o.e,.int o.f,.int o.g,.int o.h]
theorem f9{o:Oc}:er (ocT o)=ocT o:=rfl
theorem cV{o:Oc}:cD (ocT o)=true:=rfl
theorem bM{o:Oc}:aU (ocT o)=true:=rfl
theorem cj{o:Oc}:isAny (ocT o)=false:=rfl
def yC(o q:Oc):Oc:=⟨o.a + q.a,o.b + q.b,o.c + q.c,o.d + q.d,o.e + q.e,o.f + q.f,o.g + q.g,o.h + q.h⟩
def oc1(p:Pt):Oc:=⟨p.1,p.1,p.2,p.2,p.1 + p.2,p.1 + p.2,p.1 - p.2,p.1 - p.2⟩
def ocL(o:Oc):List Int:=[o.a,o.b,o.c,o.d,o.e,o.f,o.g,o.h]
theorem fD{o:Oc}{i:Int}{k:T->Prop}:ixT (ocT o) (.int i) k=ixT (.tup [.int o.a,.int o.b,.int o.c,.int o.d,.int o.e,.int o.f,.int o.g,.int o.h]) (.int i) k:=rfl
def gO(j:Nat)(p:Pt):Int:=[p.1,p.2,p.1 + p.2,p.1 - p.2].getD j 0
noncomputable def E5(ps:List Pt)(o:Oc):Prop:=((fU (ps.map (gO 0)) o.a/\fT (ps.map (gO 0)) o.b)/\(fU (ps.map (gO 1)) o.c/\fT (ps.map (gO 1)) o.d))/\(fU (ps.map (gO 2)) o.e/\fT (ps.map (gO 2)) o.f)/\fU (ps.map (gO 3)) o.g/\fT (ps.map (gO 3)) o.h
theorem AE{f:Nat->Int × Int}{m M:Int}{i:Nat}:(p_ (i + 1)).flatMap (fun j=>[T.int (if j=i then(m,M)else f j).1,T.int (if j=i then(m,M)else f j).2])=(p_ i).flatMap (fun j=>[T.int (f j).1,T.int (f j).2])++[T.int m]++[T.int M]:=by
 rw[Ka,L5,i_]
 have ec:(p_ i).flatMap (fun j=>[T.int (if j=i then(m,M)else f j).1,T.int (if j=i then(m,M)else f j).2])=(p_ i).flatMap fun j=>[T.int (f j).1,T.int (f j).2]:=by
  rw[Nn,Nn]
  refine congrArg List.flatten (JV fun j hj=>?_)
  have:=KL.mp hj
  rw[if_neg (by lia)]
 rw[ec]
 congr 1
 show [T.int (if i=i then(m,M)else f i).1,T.int (if i=i then(m,M)else f i).2]++[]=_
 rw[if_pos rfl]
 rfl
theorem cG{α:Type}{ps:List α}{g:α->Int}:intsOf (ps.map fun p=>T.int (g p))=some (ps.map g):=by
 induction ps with
 | nil=>rfl
 | cons p ps ih=>rw[d_,intsOf,ih];rfl
theorem IV{p:Pt}{o:Oc}(h:E5 [p] o):o=oc1 p:=by
 obtain⟨⟨⟨h1,h2⟩,h3,h4⟩,⟨h5,h6⟩,h7,h8⟩:=h
 have k:∀ {x y:Int},fU [x] y->y=x:=fun h=>C_.mp h.1
 have k':∀ {x y:Int},fT [x] y->y=x:=fun h=>C_.mp h.1
 obtain⟨a,b,c,d,e,f,g,h⟩:=o
 have e1:=k h1;have e2:=k' h2;have e3:=k h3;have e4:=k' h4;have e5:=k h5;have e6:=k' h6;have e7:=k h7;have e8:=k' h8
 dsimp only at e1 e2 e3 e4 e5 e6 e7 e8
 rw[e1,e2,e3,e4,e5,e6,e7,e8]
 rfl
def mkO(r k:Int)(p:Pt):Oc:=yC ⟨-r,r,-r,r,-(r + k),r + k,-(r + k),r + k⟩ (oc1 p)
def rY(o:Oc):Bool:=decide (o.a=o.b) || (decide (o.c=o.d) || (decide (o.e=o.f) || decide (o.g=o.h)))
noncomputable def inP(o:Oc)(x y:Int):Prop:=(4 * o.a < x/\x < 4 * o.b)/\(4 * o.c < y/\y < 4 * o.d)/\(4 * o.e < x + y/\x + y < 4 * o.f)/\4 * o.g < x - y/\x - y < 4 * o.h
instance (o:Oc) (x y:Int):Decidable (inP o x y):=by unfold inP;infer_instance
def inO(o:Oc)(q:Qt):Bool:=decide (inP o (qE q).1 (qE q).2)
def cellQ(f:Nat->Bool)(x y:Int):List Qt:=((p_ 4).filter f).map fun s=>(x,y,s)
theorem lA(f:Nat->Bool)(x y:Int):(cellQ f x y).length<=4:=by
 unfold cellQ
 rw[a_]
 exact Ld _ (p_ 4)
theorem gY{f:Nat->Bool}{x y:Int}{q:Qt}(h:q∈cellQ f x y):q.1=x/\q.2.1=y/\q.2.2 < 4/\f q.2.2=true:=by
 obtain⟨s,m,rfl⟩:=y_.mp h
 have:=KW.mp m
 exact⟨rfl,rfl,KL.mp this.1,this.2⟩
def nZ{α:Type}(f:Int->List α)(a:Int)(n:Nat):List α:=(p_ n).flatMap fun(j:Nat)=>f (a + j)
theorem fC{α:Type}{f:Int->List α}{a:Int}{n:Nat}:nZ f a (n + 1)=nZ f a n++f (a + n):=by
 unfold nZ
 rw[Ka,L5,List.flatMap_singleton]
theorem gP{α:Type}{f:Int->List α}{a:Int}{n:Nat}{x:α}(h:x∈nZ f a n):∃ j:Nat,j < n/\x∈f (a + j):=by
 obtain⟨j,m,e⟩:=List.mem_flatMap.mp h
 exact⟨j,KL.mp m,e⟩
theorem qS{α:Type}{f:Int->List α}{c:Nat}(h:∀ y,(f y).length<=c){a:Int}(n:Nat):(nZ f a n).length<=c * n:=by
 induction n with
 | zero=>exact c_ _
 | succ n ih=>
  rw[fC,h_,Nat.mul_succ]
  exact Nat.add_le_add ih (h _)
theorem oq{α:Type}{R:α->α->Prop}{f:Int->List α}{a:Int}{n:Nat}(hp:∀ y,(f y).Pairwise R)(hR:∀ y y',y < y'->∀ u∈f y,∀ v∈f y',R u v):(nZ f a n).Pairwise R:=by
 induction n with
 | zero=>exact .nil
 | succ n ih=>
  rw[fC,B']
  refine⟨ih,hp _,fun u mu v mv=>?_⟩
  obtain⟨j,hj,mj⟩:=gP mu
  exact hR _ _ (by lia) u mj v mv
def mT(o:Oc)(x:Int):Int:=max (max o.c (o.e - x - 1)) (x - o.h)
def uP(o:Oc)(x:Int):Int:=min (min o.d (o.f - x)) (x + 1 - o.g)
def ocC(o:Oc)(x:Int)(n:Nat):List Qt:=nZ (fun y=>cellQ (fun s=>inO o (x,y,s)) x y) (mT o x) n
def ocN(o:Oc)(n:Nat):List Qt:=nZ (fun x=>ocC o x (uP o x - mT o x).toNat) o.a n
def bdO(o:Oc):Prop:=(((-100<=o.a/\o.a<=100)/\-100<=o.b/\o.b<=100)/\(-100<=o.c/\o.c<=100)/\-100<=o.d/\o.d<=100)/\((-100<=o.e/\o.e<=100)/\-100<=o.f/\o.f<=100)/\(-100<=o.g/\o.g<=100)/\-100<=o.h/\o.h<=100
theorem B5{o:Oc}{x:Int}(h:bdO o)(h0:-100<=x)(h1:x<=100):-100<=mT o x/\mT o x<=300/\-300<=uP o x/\uP o x<=100:=by
 obtain⟨⟨⟨⟨a0,a1⟩,b0,b1⟩,⟨c0,c1⟩,d0,d1⟩,⟨⟨e0,e1⟩,f0,f1⟩,⟨g0,g1⟩,h0,h1⟩:=h
 unfold mT uP
 omega
theorem xb{o:Oc}{x:Int}(n:Nat):(ocC o x n).length<=4 * n:=qS (fun y=>lA _ _ _) n
theorem vH{o:Oc}(h:bdO o)(n:Nat)(hn:(n:Int)<=o.b - o.a):(ocN o n).length<=800 * n:=by
 induction n with
 | zero=>exact c_ _
 | succ n ih=>
  unfold ocN at *
  rw[fC,h_]
  have h1:=ih (by lia)
  have h2:=xb (o:=o) (x:=o.a + n) (uP o (o.a + n) - mT o (o.a + n)).toNat
  have h3:=B5 (x:=o.a + n) h (by have:=h.1.1.1.1;lia) (by have:=h.1.1.2.2;lia)
  lia
abbrev Tl:=Int × Int × Int × Int × Int
def tlL(t:Tl):List T:=[.int t.1,.int t.2.1,.int t.2.2.1,.int t.2.2.2.1,.int t.2.2.2.2]
def tlT(b o:Bool)(t:Tl):T:=if b then .lst o (tlL t)else .tup (tlL t)
theorem eJ{b o:Bool}{t:Tl}:er (tlT b o t)=tlT b false t:=by cases b <;> rfl
theorem bV{b o:Bool}{t:Tl}:isAny (tlT b o t)=false:=by cases b <;> rfl
theorem bR{b:Bool}{t:Tl}:aU (tlT b false t)=true:=by
 have:er (tlT b false t)=tlT b false t:=eJ
 rw[<-this]
 exact cW _
theorem df{b o:Bool}{t:Tl}{k:T->Prop}:ixT (tlT b o t) (.int 0) k=k (.int t.1):=by cases b <;> rfl
theorem dW{b o:Bool}{t:Tl}{k:T->Prop}:ixT (tlT b o t) (.int 1) k=k (.int t.2.1):=by cases b <;> rfl
def tlO(t:Tl):Prop:=2<=t.1/\t.1<=4/\1<=t.2.1/\t.2.1 < t.1
def mk0(t:Tl):Oc:=mkO t.1 t.2.1 (0,0)
def nrQ(t:Tl):List Qt:=ocN (mk0 t) ((mk0 t).b - (mk0 t).a).toNat
theorem zL{t:Tl}(h:tlO t):rY (mk0 t)=false/\bdO (mk0 t):=by
 obtain⟨h1,h2,h3,h4⟩:=h
 unfold mk0 rY bdO mkO yC oc1
 dsimp only
 refine⟨?_,by omega⟩
 rw[LX,LX,LX]
 exact⟨decide_eq_false (by lia),decide_eq_false (by lia),decide_eq_false (by lia),decide_eq_false (by lia)⟩
theorem ql{t:Tl}(h:tlO t):(nrQ t).length<=9600:=by
 have:=vH (zL h).2 ((mk0 t).b - (mk0 t).a).toNat (by
  obtain⟨h1,h2,h3,h4⟩:=h
  unfold mk0 mkO yC oc1
  dsimp only
  lia)
 refine n_ this ?_
 obtain⟨h1,h2,h3,h4⟩:=h
 unfold mk0 mkO yC oc1
 dsimp only
 lia
def yD(q:Qt):List Int:=[q.1,q.2.1,(q.2.2:Int)]
def qbT(b o:Bool)(q:Qt):T:=if b then .lst o [.int q.1,.int q.2.1,.int (q.2.2:Int)]else qtT q
theorem eU{b o:Bool}{q:Qt}:er (qbT b o q)=qbT b false q:=by cases b <;> rfl
theorem cm{b o:Bool}{q:Qt}:isAny (qbT b o q)=false:=by cases b <;> rfl
theorem cn{b:Bool}{q:Qt}:aU (qbT b false q)=true:=by cases b <;> rfl
theorem eB{b o:Bool}{q:Qt}{k:T->Prop}:pZ [qbT b o q] k=k (.tup [.int q.1,.int q.2.1,.int (q.2.2:Int)]):=by cases b <;> rfl
theorem dM{b o:Bool}{q:Qt}{k:T->Prop}:ixT (qbT b o q) (.int 0) k=k (.int q.1):=by cases b <;> rfl
theorem dJ{b o:Bool}{q:Qt}{k:T->Prop}:ixT (qbT b o q) (.int 1) k=k (.int q.2.1):=by cases b <;> rfl
theorem dg{b o:Bool}{q:Qt}{k:T->Prop}:ixT (qbT b o q) (.int 2) k=k (.int (q.2.2:Int)):=by cases b <;> rfl
def rgT(c o b u:Bool)(qs:List Qt):T:=if c then .tup (qs.map (qbT b u))else .lst o (qs.map (qbT b u))
theorem zI{b u:Bool}{qs:List Qt}:erL (qs.map (qbT b u))=qs.map (qbT b false):=by
 rw[j4]
 exact JV fun k _=>eU
theorem eR{c o b u:Bool}{qs:List Qt}:er (rgT c o b u qs)=rgT c false b false qs:=by
 cases c
 ·show er (.lst o (qs.map (qbT b u)))=.lst false (qs.map (qbT b false))
  rw[er,zI]
 show er (.tup (qs.map (qbT b u)))=.tup (qs.map (qbT b false))
 rw[er,zI]
theorem ck{c o b u:Bool}{qs:List Qt}:items (rgT c o b u qs)=some (qs.map (qbT b u)):=by cases c <;> rfl
theorem bJ{c o b u:Bool}{qs:List Qt}:isAny (rgT c o b u qs)=false:=by cases c <;> rfl
theorem bH{c b:Bool}{qs:List Qt}:aU (rgT c false b false qs)=true:=by
 have:er (rgT c false b false qs)=rgT c false b false qs:=eR
 rw[<-this]
 exact cW _
theorem D5{κ:Type}[DecidableEq κ]{v:T}(l:List κ)(x:κ):je (l.map fun k=>(k,v)) x=if x∈l then some v else none:=by
 unfold je
 induction l with
 | nil=>rfl
 | cons a l ih=>
  rw[d_,JP]
  by_cases e:a=x
  ·rw[decide_eq_true e,if_pos (by rw[e];exact v_)]
   rfl
  rw[decide_eq_false e]
  show Nw _ (List.find? _ (l.map fun k=>(k,v)))=_
  rw[ih]
  by_cases m:x∈l
  ·rw[if_pos m,if_pos (l_ _ m)]
  rw[if_neg m,if_neg fun h=>(t_.mp h).elim (fun z=>e z.symm) m]
theorem Cg{κ:Type}[DecidableEq κ]{v:T}{l:List κ}{x:κ}(h:x ∉ l):kz (l.map fun k=>(k,v)) x v=(l++[x]).map fun k=>(k,v):=by
 unfold kz
 rw[if_neg,r_]
 ·rfl
 intro g
 obtain⟨kv,m,e⟩:=Ll.mp g
 obtain⟨a,ma,rfl⟩:=y_.mp m
 exact h (of_decide_eq_true e ▸ ma)
def kQ(q:Qt):List Key:=kI (yD q)
theorem Ax{q r:Qt}(h:kQ q=kQ r):q=r:=by
 have h:=GB h
 unfold yD at h
 simp only[Kg,and_true]at h
 exact Ni h.1 (Ni h.2.1 (by have:=h.2.2;lia))
def dQ(qs:List Qt):List (List Key × T):=(qs.map kQ).map fun k=>(k,T.bl true)
theorem vt{qs:List Qt}{q:Qt}(h:q ∉ qs):kz (dQ qs) (kQ q) (.bl true)=dQ (qs++[q]):=by
 unfold dQ
 rw[show(qs++[q]).map kQ=qs.map kQ++[kQ q]from r_ ..,Cg]
 intro m
 obtain⟨r,mr,e⟩:=y_.mp m
 exact h (Ax e ▸ mr)
theorem nA(qs:List Qt):(dQ qs).length=qs.length:=by
 unfold dQ
 rw[a_,a_]
theorem v7{qs:List Qt}{q:Qt}:(je (dQ qs) (kQ q)).isSome=decide (q∈qs):=by
 unfold dQ
 rw[D5]
 by_cases m:q∈qs
 ·rw[if_pos (I_ m),decide_eq_true m]
  rfl
 rw[if_neg fun h=>?_,decide_eq_false m]
 ·rfl
 obtain⟨r,mr,e⟩:=y_.mp h
 exact m (Ax e ▸ mr)
theorem fy(qs:List Qt):erT (dQ qs)=dQ qs:=by
 unfold dQ
 induction qs with
 | nil=>rfl
 | cons a l ih=>rw[d_,d_,erT,ih];rfl
theorem bT(qs:List Qt):kR (dQ qs)=true:=by
 unfold dQ
 induction qs with
 | nil=>rfl
 | cons a l ih=>rw[d_,d_,kR,ih];rfl
theorem cR(qs:List Qt):lF (dQ qs)=true:=by
 unfold dQ
 induction qs with
 | nil=>rfl
 | cons a l ih=>rw[d_,d_,lF,ih];rfl
theorem gX(qs:List Qt):(dQ qs).map (fun p=>kyT p.1)=qs.map qtT:=by
 unfold dQ
 rw[H_,H_]
 rfl
theorem Bm{α:Type}{l:List α}{i:Nat}{x:α}(h:l.Nodup)(e:l[i]?=some x):x ∉ l.take i:=by
 intro m
 obtain⟨j,hj,ej⟩:=List.mem_take_iff_getElem.mp m
 obtain⟨hi,e⟩:=f_.mp e
 have:=(Nh h).mp (ej.trans e.symm)
 lia
def xW(p:Pt):List Int:=[p.1,p.2]
def unP(k:List Int):Pt:=(k.getD 0 0,k.getD 1 0)
theorem wF(l:List Pt):∀ q∈l.map xW,q≠[]:=fun q m=>by
 obtain⟨r,_,rfl⟩:=y_.mp m
 exact Np _ _
def srP(l:List Pt):List Pt:=(lW (l.map xW)).map unP
theorem tD(l:List Pt):(lW (l.map xW)).map (rwT false)=(srP l).map ptP:=by
 unfold srP
 rw[H_]
 refine JV fun k m=>?_
 obtain⟨p,_,rfl⟩:=y_.mp ((gQ _).mem_iff.mp m)
 rfl
theorem qD(l:List Pt):(srP l).length=l.length:=by
 unfold srP
 rw[a_,(gQ _).length_eq,a_]
def abL(M:List Qt)(q:Qt):List Pt:=(M.filter fun m=>m.2.2 == q.2.2).map fun m=>(q.1 - m.1,q.2.1 - m.2.1)
theorem pR(M:List Qt)(q:Qt):(abL M q).length<=M.length:=by
 unfold abL
 rw[a_]
 exact Ld _ _
theorem t5{M:List Qt}{q m:Qt}{i:Nat}(e:M[i]?=some m):abL (M.take (i + 1)) q=abL (M.take i) q++if(m.2.2:Int)=q.2.2 then [(q.1 - m.1,q.2.1 - m.2.1)]else []:=by
 unfold abL
 rw[KA,e,Lw,r_]
 congr 1
 show JS _ (Ng _ [m])=_
 rw[Lm]
 by_cases h:m.2.2=q.2.2
 ·rw[if_pos (by simpa using h),if_pos (by lia)]
  rfl
 rw[if_neg (by simpa using h),if_neg (by lia)]
 rfl
theorem DQ(l:List Pt):(l.map xW).map (rwT false)=l.map ptP:=by rw[H_];rfl
def mvQ(p:Pt)(m:Qt):Qt:=(p.1 + m.1,p.2 + m.2.1,m.2.2)
def fsQ(p:Pt)(rs:List Qt):List Qt->Option Qt
 | []=>none
 | m::M=>if mvQ p m∈rs then fsQ p rs M else some (mvQ p m)
def oqT:Option Qt->T
 | none=>.non
 | some q=>qtT q
theorem Ab{p:Pt}{rs rs':List Qt}(h:∀ q,q∈rs↔q∈rs')(M:List Qt):fsQ p rs M=fsQ p rs' M:=by
 induction M with
 | nil=>rfl
 | cons m M ih=>
  rw[fsQ,fsQ,ih]
  by_cases g:mvQ p m∈rs
  ·rw[if_pos g,if_pos ((h _).mp g)]
  rw[if_neg g,if_neg fun z=>g ((h _).mpr z)]
abbrev Rw:=Nat × Pt × Qt
def o6(r:Rw):T:=.tup [.int (r.1:Int),ptP r.2.1,qtT r.2.2]
def wyC(M:List Qt)(rs:List Qt)(n:Nat):List Pt->Option (List Rw)
 | []=>some []
 | c::cs=>(fsQ c rs M).bind fun z=>(wyC M rs n cs).map ((n,c,z)::·)
def wyN(rs:List Qt)(q:Qt):Nat->List (List Qt)->Option (List Rw)
 | _,[]=>some []
 | n,M::Ms=>(wyC M rs n (srP (abL M q))).bind fun a=>(wyN rs q (n + 1) Ms).map (a++·)
def wyU(o:Bool):Option (List Rw)->T
 | none=>.non
 | some l=>.lst o (l.map o6)
abbrev wyT(W:Option (List Rw)):T:=wyU true W
theorem eQ{o:Bool}{W:Option (List Rw)}:er (wyU o W)=wyU false W:=by
 cases W with
 | none=>rfl
 | some l=>show er (.lst o (l.map o6))=.lst false (l.map o6);rw[er,j4];rfl
theorem bS{W:Option (List Rw)}:aU (wyU false W)=true:=by
 have:er (wyU false W)=wyU false W:=eQ
 rw[<-this]
 exact cW _
theorem bU{o:Bool}{W:Option (List Rw)}:isAny (wyU o W)=false:=by cases W <;> rfl
theorem eD{o:Bool}{W:Option (List Rw)}:isV (wyU o W)=true:=by cases W <;> rfl
theorem cf{o:Bool}{W:Option (List Rw)}:lJ (wyU o W)=W.isNone:=by cases W <;> rfl
theorem cL{W:Option (List Rw)}:cD (wyU true W)=true:=by
 cases W with
 | none=>rfl
 | some l=>show cD (.lst true (l.map o6))=true;rw[cD,dC];exact fM l
theorem xM{M rs rs':List Qt}{n:Nat}(h:∀ q,q∈rs↔q∈rs')(cs:List Pt):wyC M rs n cs=wyC M rs' n cs:=by
 induction cs with
 | nil=>rfl
 | cons c cs ih=>rw[wyC,wyC,ih,Ab h]
theorem pE{rs rs':List Qt}{q:Qt}(h:∀ q,q∈rs↔q∈rs')(Ms:List (List Qt)):∀ n,wyN rs q n Ms=wyN rs' q n Ms:=by
 induction Ms with
 | nil=>intro n;rfl
 | cons M Ms ih=>intro n;rw[wyN,wyN,ih,xM h]
theorem iX{α:Type}{l:List α}{i:Nat}{x:α}(e:l[i]?=some x):l.drop i=x::l.drop (i + 1):=by
 obtain⟨h,e⟩:=f_.mp e
 rw[KI h,e]
theorem mf{α:Type}{g:α->T}{l:List α}{n i:Nat}{t:T}(hn:n=l.length)(h:(NF (fun(i:Nat) (x:T)=>T.tup [.int (i:Int),x]) (p_ n) (l.map g))[i]?=some t):∃ x,l[i]?=some x/\t=.tup [.int (i:Int),g x]:=by
 subst hn
 rw[MI]at h
 cases e:l[i]? with
 | none=>
  rw[s_,e]at h
  cases hr:(p_ l.length)[i]? <;> rw[hr]at h <;> cases h
 | some x=>
  have hi:i < l.length:=(f_.mp e).1
  rw[s_,e,KS hi]at h
  cases h
  exact⟨x,rfl,rfl⟩
theorem jP{α:Type}{g:α->T}{l:List α}{n:Nat}(hn:n=l.length):(NF (fun(i:Nat) (x:T)=>T.tup [.int (i:Int),x]) (p_ n) (l.map g)).length=l.length:=by
 rw[MU,Kf,a_,hn,MZ]
theorem vR{n:Nat}{p:Pt}{z:Qt}{a:List Rw}{B D:Option (List Rw)}:(B.bind fun b=>D.map (b++·)).map (a++[(n,p,z)]++·)=(Option.bind ((some z).bind fun z=>B.map ((n,p,z)::·)) fun b=>D.map (b++·)).map (a++·):=by
 cases B with
 | none=>rfl
 | some b=>
  cases D with
  | none=>rfl
  | some d=>
   show some (a++[(n,p,z)]++(b++d))=some (a++((n,p,z)::b++d))
   rw[i_]
   rfl
def tgT(c o b u:Bool)(ts:List Tl):T:=if c then .tup (ts.map (tlT b u))else .lst o (ts.map (tlT b u))
theorem zY{b u:Bool}{ts:List Tl}:erL (ts.map (tlT b u))=ts.map (tlT b false):=by
 rw[j4]
 exact JV fun k _=>eJ
theorem eS{c o b u:Bool}{ts:List Tl}:er (tgT c o b u ts)=tgT c false b false ts:=by
 cases c
 ·show er (.lst o (ts.map (tlT b u)))=.lst false (ts.map (tlT b false))
  rw[er,zY]
 show er (.tup (ts.map (tlT b u)))=.tup (ts.map (tlT b false))
 rw[er,zY]
theorem cc{c o b u:Bool}{ts:List Tl}:items (tgT c o b u ts)=some (ts.map (tlT b u)):=by cases c <;> rfl
theorem cp{c o b u:Bool}{ts:List Tl}:isAny (tgT c o b u ts)=false:=by cases c <;> rfl
theorem bL{c b:Bool}{ts:List Tl}:aU (tgT c false b false ts)=true:=by
 have:er (tgT c false b false ts)=tgT c false b false ts:=eS
 rw[<-this]
 exact cW _
def Gd(t:T)(n:Nat):Prop:=isD t=true/\gd (dt t)=true/\dpt (dt t)<=n
def GdL(ts:List T)(n:Nat):Prop:=fR ts=true/\gdL (dtL ts)=true/\cN (dtL ts)<=n
theorem jy{i:Int}{n:Nat}:Gd (.int i) n:=⟨rfl,rfl,by rw[dt,dpt.eq_def];exact z_ _⟩
theorem Gu{n:Nat}:Gd .non n:=⟨rfl,rfl,by show dpt Dt.non<=n;rw[dpt.eq_def];exact z_ _⟩
theorem i6{n:Nat}:GdL [] n:=⟨rfl,by simp only[dtL,gdL],by simp only[dtL,cN,z_]⟩
theorem bB{t:T}{ts:List T}{n:Nat}(h:Gd t n)(r:GdL ts n):GdL (t::ts) n:=
 ⟨by rw[fR,h.1,r.1];rfl,by rw[dtL,gdL,h.2.1,r.2.1];rfl,by rw[dtL,cN];exact MN.mpr ⟨h.2.2,r.2.2⟩⟩
theorem Cy{α:Type}{g:α->T}{l:List α}{n:Nat}(h:∀ x∈l,Gd (g x) n):GdL (l.map g) n:=by
 induction l with
 | nil=>exact i6
 | cons x l ih=>exact bB (h x (v_ ..)) (ih fun y m=>h y (l_ _ m))
theorem GL{o:Bool}{ts:List T}{n:Nat}(h:GdL ts n)(hl:ts.length<=100000):Gd (.lst o ts) (n + 1):=
 ⟨by rw[isD];exact h.1,by rw[dt,gd,h.2.1,decide_eq_true (by rw[ur,a_];exact hl)];rfl,by rw[dt,dpt];exact Kr h.2.2⟩
theorem zX{ts:List T}{n:Nat}(h:GdL ts n)(hl:ts.length<=100000):Gd (.tup ts) (n + 1):=
 ⟨by rw[isD];exact h.1,by rw[dt,gd,h.2.1,decide_eq_true (by rw[ur,a_];exact hl)];rfl,by rw[dt,dpt];exact Kr h.2.2⟩
theorem HE{x y:Int}{n:Nat}:Gd (pt x y) (n + 1):=zX (bB jy (bB jy i6)) (by simp)
theorem wz{f d:T}{n m:Nat}{k:T->List T->Prop}(h:Gd d n)(hn:n < m)(hi:isD f=true)(e:dt f=dt d)(q:k (.bl true) [f,d]):nU m [f,d] k:=⟨f,d,rfl,hi,h.1,e,h.2.1,G' h.2.2 hn,q⟩
theorem same_self{d:T}{n m:Nat}{k:T->List T->Prop}(h:Gd d n)(hn:n < m)(q:k (.bl true) [d,d]):nU m [d,d] k:=wz h hn h.1 rfl q
theorem J5{o:Bool}(qs:List Qt):isD (.lst o (qs.map qtT))=true/\dpt (dt (.lst o (qs.map qtT)))<=2:=by
 have h:fR (qs.map qtT)=true/\cN (dtL (qs.map qtT))<=1:=by
  induction qs with
  | nil=>exact⟨rfl,by simp only[Ks,dtL,cN,z_]⟩
  | cons a l ih=>
   have g:Gd (qtT a) 1:=zX (bB jy (bB jy (bB jy i6))) (by show 3<=100000;decide)
   exact⟨by rw[d_,fR,ih.1,g.1];rfl,by rw[d_,dtL,cN];exact MN.mpr ⟨g.2.2,ih.2⟩⟩
 exact⟨by rw[isD];exact h.1,by rw[dt,dpt];exact Kr h.2⟩
theorem vE{o o':Bool}(qs:List Qt):eqD (dt (.lst o (qs.map qtT))) (dt (.lst o' []))=decide (qs=[]):=by
 cases qs with
 | nil=>simp[dt,dtL,eqD,eqL]
 | cons a l=>simp[dt,dtL,eqD,eqL]
theorem CW{o o':Bool}{qs:List Qt}{k:T->Prop}(q:k (.bl (decide (qs=[])))):eqT (.lst o (qs.map qtT)) (.lst o' []) k:=by
 have g:=J5 (o:=o) qs
 exact⟨g.1,rfl,G' g.2 (by decide),by rw[vE];exact q⟩
theorem Cu{o o':Bool}{qs:List Qt}{k:T->Prop}(q:k (.bl (!decide (qs=[])))):neT (.lst o (qs.map qtT)) (.lst o' []) k:=by
 have g:=J5 (o:=o) qs
 exact⟨g.1,rfl,G' g.2 (by decide),by rw[vE];exact q⟩
def gc(qs:List Qt):List (List Int):=qs.map yD
theorem C4(qs:List Qt):(dQ qs).map (·.1)=(gc qs).map kI:=by
 unfold dQ gc
 rw[H_,H_,H_]
 rfl
theorem C1(qs:List Qt):(gc qs).map iT=qs.map qtT:=by
 unfold gc
 rw[H_]
 rfl
theorem mw{b:Bool}(qs:List Qt):(gc qs).map (rwT b)=qs.map (qbT b false):=by
 unfold gc
 rw[H_]
 exact JV fun q _=>by cases b <;> rfl
theorem qR(qs:List Qt):∀ q∈gc qs,q≠[]:=fun q m=>by
 obtain⟨r,_,rfl⟩:=y_.mp m
 exact Np _ _
theorem mG{u:Bool}{qs:List Qt}{k:T->Prop}(h:k (.lst true (qs.map qtT))):qc [.dT u (dQ qs)] k:=by
 rw[Ba]
 exact⟨gc qs,C4 qs,qR qs,fun _=>by rw[C1];exact h⟩
theorem sG(qs:List Qt)(j:Nat):(dQ qs).eraseIdx j=dQ (qs.eraseIdx j):=by
 unfold dQ
 rw[<-fu,<-fu]
theorem Em{q:Qt}:i9 [.int q.1,.int q.2.1,.int (q.2.2:Int)]=some (kQ q):=rfl
theorem Bh{qs:List Qt}{q:Qt}{z:T}{k:T->T->Prop}(h:∀ rs u,NG rs qs->k (.dT true (dQ rs)) u):kT (.dT true (dQ qs)) (qtT q) z k:=by
 unfold qtT
 rw[yQ]
 refine bz Em ?_
 show match gw (dQ qs) (kQ q)with
   | some r=>k (.dT true r.2) r.1
   | none=>k (.dT true (dQ qs)) z
 cases e:gw (dQ qs) (kQ q)with
 | none=>exact h qs _ (List.Sublist.refl _)
 | some r=>
  obtain⟨j,_,e2⟩:=nQ e
  show k (.dT true r.2) r.1
  rw[e2,sG]
  exact h _ _ (Lf _ _)
theorem BW{qs:List Qt}{q:Qt}{k:T->T->Prop}(m:q∈qs)(h:∀ rs u,NG rs qs->k (.dT true (dQ rs)) u):mK (.dT true (dQ qs)) (qtT q) k:=by
 unfold qtT
 rw[vQ]
 refine bz Em ?_
 show eP (gw (dQ qs) (kQ q)) (k:=⟨fun r=>k (.dT true r.2) r.1⟩)
 have e0:(je (dQ qs) (kQ q)).isSome=true:=by rw[v7,decide_eq_true m]
 cases e:gw (dQ qs) (kQ q)with
 | none=>
  exfalso
  unfold gw at e
  cases e1:(dQ qs).findIdx? fun kv=>decide (kv.1=kQ q)with
  | none=>
   have e1:=Mi.mp e1
   have mm:(kQ q,T.bl true)∈dQ qs:=I_ (I_ m)
   have:=e1 _ mm
   simp at this
  | some j=>
   rw[e1,Kq]at e
   obtain⟨hj,_,_⟩:=KJ.mp e1
   rw[b_ hj]at e
   cases e
 | some r=>
  obtain⟨j,_,e2⟩:=nQ e
  refine bz rfl ?_
  show k (.dT true r.2) r.1
  rw[e2,sG]
  exact h _ _ (Lf _ _)
theorem cK{q:Qt}{k:T->Prop}:ph [qtT q] k=k (.lst true [.int q.1,.int q.2.1,.int (q.2.2:Int)]):=rfl
def jU(n i:Nat):Nat:=if i=0 then n - 1 else i - 1
theorem sD{α:Type}{g:α->T}{l:List α}{i:Nat}(h:i < l.length)(z:α):atI (l.map g) ((i:Int) - 1)=some (g (l.getD (jU l.length i) z)):=by
 unfold atI jU
 rw[a_]
 by_cases hi:i=0
 ·subst hi
  rw[if_pos rfl]
  have:ixN l.length (((0:Nat):Int) - 1)=some (l.length - 1):=by
   unfold ixN
   rw[if_neg (by decide),if_pos (by lia)]
   congr 1
   lia
  rw[this,Kq,s_,JU,b_ (by omega)]
  rfl
 rw[if_neg hi]
 have:ixN l.length ((i:Int) - 1)=some (i - 1):=by
  unfold ixN
  rw[if_pos (by lia)]
  rw[if_pos (by lia)]
  congr 1
  lia
 rw[this,Kq,s_,JU,b_ (by omega)]
 rfl
def sm(p:Pt):Prop:=-8388608 < p.1/\p.1 < 8388608/\-8388608 < p.2/\p.2 < 8388608
def bd(m:Int)(z:Int):Prop:=-m<=z/\z<=m
def bdP(m:Int)(p:Pt):Prop:=bd m p.1/\bd m p.2
def bdL(m:Int):List Pt->Prop
 | []=>True
 | p::l=>bdP m p/\bdL m l
theorem fG{m:Int}{p:Pt}:∀ {l:List Pt},bdL m l->p∈l->bdP m p:=by
 intro l
 induction l with
 | nil=>intro _ h;cases h
 | cons x l ih=>
  intro h q
  rcases t_.mp q with rfl | q
  ·exact h.1
  exact ih h.2 q
theorem nP{m:Int}:∀ {l:List Pt},(∀ p∈l,bdP m p)->bdL m l:=by
 intro l
 induction l with
 | nil=>intro _;trivial
 | cons x l ih=>exact fun h=>⟨h x (v_ ..),ih fun p q=>h p (l_ _ q)⟩
theorem DU{m n z:Int}(h:bd m z)(l:m<=n):bd n z:=⟨by have:=h.1;lia,by have:=h.2;lia⟩
theorem yP{m n:Int}{p:Pt}(h:bdP m p)(l:m<=n):bdP n p:=⟨DU h.1 l,DU h.2 l⟩
theorem qX{m:Int}{l r:List Pt}(h:bdL m l)(e:∀ p∈r,p∈l):bdL m r:=nP fun p q=>fG h (e p q)
theorem qG:∀ {l:List Int},0 < l.length->∃ r,fU l r
 | [a],_=>⟨a,.head _,fun x m=>by rw[C_.mp m];exact Nf _⟩
 | a::b::l,_=>by
  obtain⟨r,m,h⟩:=qG (l:=b::l) (Lg _)
  by_cases e:a<=r
  ·exact⟨a,.head _,fun x mx=>(t_.mp mx).elim (fun z=>by lia) (fun z=>by have:=h x z;lia)⟩
  exact⟨r,.tail _ m,fun x mx=>(t_.mp mx).elim (fun z=>by lia) (h x)⟩
theorem Cv{l:List Int}(h:0 < l.length):∃ r,fT l r:=by
 obtain⟨r,m,k⟩:=qG (l:=l.map fun x=>-x) (by rw[a_];exact h)
 obtain⟨y,my,rfl⟩:=y_.mp m
 exact⟨y,my,fun x mx=>by have:=k (-x) (y_.mpr ⟨x,mx,rfl⟩);lia⟩
theorem Di{l:List Int}{a b:Int}(h:fU l a)(g:fU l b):a=b:=by
 have:=h.2 b g.1
 have:=g.2 a h.1
 lia
theorem Cf{l:List Int}{a b:Int}(h:fT l a)(g:fT l b):a=b:=by
 have:=h.2 b g.1
 have:=g.2 a h.1
 lia
theorem Gh{m:Int}{ps:List Pt}(h:bdL m ps){a b c d:Int}(h1:fU (ps.map (·.1)) a)(h2:fT (ps.map (·.1)) b)(h3:fU (ps.map (·.2)) c)(h4:fT (ps.map (·.2)) d):(-m<=a/\a<=b/\b<=m)/\-m<=c/\c<=d/\d<=m:=by
 have l1:=h2.2 a h1.1
 have l2:=h4.2 c h3.1
 obtain⟨p,mp,rfl⟩:=y_.mp h1.1
 obtain⟨q,mq,rfl⟩:=y_.mp h2.1
 obtain⟨r,mr,rfl⟩:=y_.mp h3.1
 obtain⟨t,mt,rfl⟩:=y_.mp h4.1
 exact⟨⟨(fG h mp).1.1,l1,(fG h mq).1.2⟩,(fG h mr).2.1,l2,(fG h mt).2.2⟩
theorem Ij{a b:Int}{c:Prop}[Decidable c]:atI [T.int a,.int b] (if c then 1 else 0)=some (.int (if c then b else a)):=by
 by_cases h:c
 ·rw[if_pos h,if_pos h];rfl
 rw[if_neg h,if_neg h];rfl
theorem Hx(d:Int):-1<=d / max 1 (d.natAbs:Int)/\d / max 1 (d.natAbs:Int)<=1:=by
 rcases Int.lt_trichotomy d 0 with h | h | h
 ·have e:=Int.neg_ediv_self (-d) (by lia)
  rw[Int.neg_neg]at e
  rw[show max 1 (d.natAbs:Int)=-d by lia,e]
  lia
 ·rw[h,Int.zero_ediv]
  lia
 rw[show max 1 (d.natAbs:Int)=d by lia,Int.ediv_self (by lia)]
 lia
def ltQ(a b:Qt):Prop:=a.1 < b.1\/a.1=b.1/\(a.2.1 < b.2.1\/a.2.1=b.2.1/\a.2.2 < b.2.2)
def upQ(qs:List Qt):Prop:=qs.Pairwise ltQ
def okQ(q:Qt):Prop:=(-1000<=q.1/\q.1<=1000)/\(-1000<=q.2.1/\q.2.1<=1000)/\q.2.2 < 4
theorem CD{qs:List Qt}{q:Qt}(h:upQ qs)(g:∀ r∈qs,ltQ r q):upQ (qs++[q]):=by
 refine B'.mpr ⟨h,LF _ _,fun a ma b mb=>?_⟩
 rw[C_.mp mb]
 exact g a ma
theorem Ha{qs:List Qt}{q:Qt}(g:∀ r∈qs,ltQ r q):q ∉ qs:=fun m=>by
 have:=g q m
 unfold ltQ at this
 lia
theorem IP{qs:List Qt}(h:upQ qs):qs.Nodup:=h.imp fun{a b} g z=>by
 subst z
 unfold ltQ at g
 lia
theorem Dz{P R:Qt->Prop}{qs:List Qt}{q:Qt}(h:∀ r∈qs,P r)(g:∀ r,P r->R r)(gq:R q):∀ r∈qs++[q],R r:=fun r m=>by
 rcases D_.mp m with m | m
 ·exact g r (h r m)
 rw[C_.mp m];exact gq
theorem Bz{s:Nat}(h:s < 4):(∃ v,atI [T.int 6,.int 4,.int 2,.int 4] (s:Int)=some (.int v))/\∃ v,atI [T.int 5,.int 7,.int 3,.int 1] (s:Int)=some (.int v):=by
 match s,h with
 | 0,_=>exact⟨⟨_,rfl⟩,_,rfl⟩
 | 1,_=>exact⟨⟨_,rfl⟩,_,rfl⟩
 | 2,_=>exact⟨⟨_,rfl⟩,_,rfl⟩
 | 3,_=>exact⟨⟨_,rfl⟩,_,rfl⟩
def ra(x y w h a b c d:Int):List Pt:=[(x + a,y),(x + w - b,y),(x + w,y + b),(x + w,y + h - c),(x + w - c,y + h),(x + d,y + h),(x,y + h - d),(x,y + a)]
def ddl:Pt->List Pt->List Pt
 | _,[]=>[]
 | p,q::l=>if q=p then ddl q l else q::ddl q l
def lX(x y w h a b c d:Int):List Pt:=ddl (x,y + a) (ra x y w h a b c d)
theorem Cq{x:Pt}:∀ {l:List Pt} {p:Pt},ddl p (l++[x])=ddl p l++(if x=l.getLastD p then []else [x]):=by
 intro l
 induction l with
 | nil=>intro p;rfl
 | cons q l ih=>
  intro p
  have e:(q::l).getLastD p=l.getLastD q:=by rw[List.getLastD_cons]
  rw[e,JR,ddl,ddl,ih]
  split
  ·rfl
  rfl
theorem Ae{l:List Pt}{p z x:Pt}{i:Nat}(hp:l.getD (l.length - 1) z=p)(e:l[i]?=some x):ddl p (l.take (i + 1))=ddl p (l.take i)++(if x=l.getD (jU l.length i) z then []else [x]):=by
 have hi:i < l.length:=(f_.mp e).1
 have ek:(l.take i).getLastD p=l.getD (jU l.length i) z:=by
  unfold jU
  by_cases h:i=0
  ·subst h;rw[if_pos rfl,hp];rfl
  rw[if_neg h,List.getLastD_eq_getLast?,List.getLast?_eq_getElem?,A_,Ls (by lia),Mj (by lia),JU,b_ (by omega)]
  rfl
 rw[KA,e,<-ek]
 exact Cq
theorem C3{q:Pt}:∀ {l:List Pt} {p:Pt},q∈ddl p l->q∈l:=by
 intro l
 induction l with
 | nil=>intro p h;exact h
 | cons x l ih=>
  intro p h
  rw[ddl]at h
  split at h
  ·exact l_ _ (ih h)
  rcases t_.mp h with rfl | h
  ·exact v_ ..
  exact l_ _ (ih h)
theorem vL:∀ {l:List Pt} {p:Pt},(ddl p l).length<=l.length:=by
 intro l
 induction l with
 | nil=>intro p;exact c_ _
 | cons x l ih=>
  intro p
  rw[ddl]
  split
  ·exact M9 ih
  exact Kr ih
theorem CY{q:Pt}:∀ {l:List Pt} {p:Pt},ddl p l=[]->q∈l->q=p:=by
 intro l
 induction l with
 | nil=>intro p _ h;cases h
 | cons x l ih=>
  intro p h m
  rw[ddl]at h
  split at h
  ·rename_i e
   rcases t_.mp m with rfl | m
   ·exact e
   rw[<-e];exact ih h m
  cases h
theorem se{x y w h a b c d:Int}(hw:w≠0):0 < (lX x y w h a b c d).length:=by
 refine Kd fun z=>?_
 have e:=CY (Kb z) (show((x + w,y + b):Pt)∈ra x y w h a b c d from .tail _ (.tail _ (.head _)))
 have:=congrArg Prod.fst e
 dsimp only at this
 lia
theorem vJ{m x y w h a b c d:Int}(h0:bd m x)(h1:bd m y)(h2:bd m (x + w))(h3:bd m (y + h))(h4:bd m (x + a))(h5:bd m (x + w - b))(h6:bd m (y + b))(h7:bd m (y + h - c))(h8:bd m (x + w - c))(h9:bd m (x + d))(h10:bd m (y + h - d))(h11:bd m (y + a)):bdL m (lX x y w h a b c d):=
 nP fun p q=>fG (l:=ra x y w h a b c d) ⟨⟨h4,h1⟩,⟨h5,h1⟩,⟨h2,h6⟩,⟨h2,h7⟩,⟨h8,h3⟩,⟨h9,h3⟩,⟨h0,h10⟩,⟨h0,h11⟩,trivial⟩ (C3 q)
theorem qu{α:Type}{l:List α}{i:Int}(h0:0<=i)(h1:i < l.length):∃ x,x∈l/\atI l i=some x:=by
 have h:i.toNat < l.length:=by lia
 refine⟨l[i.toNat],Kc h,?_⟩
 have:=fY (xs:=l) (j:=i.toNat) (b_ h)
 rwa[Int.toNat_of_nonneg h0]at this
theorem iW(P:Int->Prop){ns:List Int}{i:Int}(h0:0<=i)(h1:i < ns.length)(hp:∀ x∈ns,P x):∃ v,atI (ns.map T.int) i=some (.int v)/\P v:=by
 obtain⟨t,m,e⟩:=qu (l:=ns.map T.int) h0 (by rw[a_];exact h1)
 obtain⟨v,mv,rfl⟩:=y_.mp m
 exact⟨v,e,hp v mv⟩
theorem four{P:Int->Prop}{cs:List Int}(h:cs.length=4)(hp:∀ v∈cs,P v):∃ a b c d,cs=[a,b,c,d]/\P a/\P b/\P c/\P d:=by
 match cs,h with
 | [a,b,c,d],_=>exact⟨a,b,c,d,rfl,hp a (.head _),hp b (.tail _ (.head _)),hp c (.tail _ (.tail _ (.head _))),hp d (.tail _ (.tail _ (.tail _ (.head _))))⟩
theorem Ji{ts:List T}{n:Nat}:lY ts (some (n:Int)) none=ts.drop n:=by
 unfold lY
 rw[HT.si,HT.wW]
 rcases Nat.le_total n ts.length with h | h
 ·rw[Ls h,J' (by rw[C'];lia)]
 rw[Mo h,MC (c_ _),MC h,List.take_nil]
theorem E8{ts:List T}{m:Int}(h:0<=m)(h2:m < ts.length):lY ts (some m) none=ts.drop m.toNat/\lY ts none (some m)=ts.take m.toNat:=by
 obtain⟨n,rfl⟩:=Int.eq_ofNat_of_zero_le h
 refine⟨Ji,?_⟩
 unfold lY
 rw[HT.si,HT.wW,Ls (by lia)]
 rfl
theorem EL{p q:Pt}{k:T->Prop}:neT (ptP p) (ptP q) k=k (.bl (decide (p≠q))):=by
 unfold ptP
 rw[Fy,<-decide_not]
 congr 2
 rw[decide_eq_decide]
 exact not_congr ⟨fun h=>Ni h.1 h.2,fun h=>by rw[h];exact⟨rfl,rfl⟩⟩
def edL:List (List Pt):=[[(1,0),(1,1)],[(0,1),(1,1)],[(0,0),(0,1)],[(0,0),(1,0)]]
noncomputable def ptM(q:Qt):List Pt:=(2 * q.1 + 1,2 * q.2.1 + 1)::(edL.getD q.2.2 []).map fun e=>(2 * (q.1 + e.1),2 * (q.2.1 + e.2))
def inM(t:Tl)(q:Qt):Bool:=(ptM q).all fun p=>decide ((p.1.natAbs:Int) + p.2.natAbs<=2 * (t.1 + t.2.1))
theorem xn{s:Nat}(h:s < 4):atI [T.lst true [.tup [.int 1,.int 0],.tup [.int 1,.int 1]],.lst true [.tup [.int 0,.int 1],.tup [.int 1,.int 1]],.lst true [.tup [.int 0,.int 0],.tup [.int 0,.int 1]],.lst true [.tup [.int 0,.int 0],.tup [.int 1,.int 0]]] (s:Int)=some (.lst true ((edL.getD s []).map ptP))/\(edL.getD s []).length=2:=by
 match s,h with
 | 0,_=>exact⟨rfl,rfl⟩
 | 1,_=>exact⟨rfl,rfl⟩
 | 2,_=>exact⟨rfl,rfl⟩
 | 3,_=>exact⟨rfl,rfl⟩
theorem lN{α:Type}(f:α->Bool)(l:List α):boolsOf (l.map fun x=>T.bl (f x))=some (l.map f):=by
 induction l with
 | nil=>rfl
 | cons x l ih=>rw[d_,boolsOf,ih];rfl
theorem IL{t:Tl}:upQ (nrQ t):=by
 unfold upQ nrQ ocN ocC
 refine oq (fun x=>oq (fun y=>?_) fun y y' hy u mu v mv=>?_) fun x x' hx u mu v mv=>?_
 ·refine JW.mpr (List.Pairwise.imp (R:=fun a b=>a < b) (fun{a b} h=>.inr ⟨rfl,.inr ⟨rfl,h⟩⟩) ?_)
  exact List.Pairwise.filter _ List.pairwise_lt_range
 ·have:=gY mu
  have:=gY mv
  unfold ltQ
  lia
 obtain⟨j,_,mj⟩:=gP mu
 obtain⟨j',_,mj'⟩:=gP mv
 have:=gY mj
 have:=gY mj'
 unfold ltQ
 omega
theorem EY{a b:Qt}(h:ltQ a b):ZS.ltL (yD b) (yD a)=false:=by
 unfold ltQ at h
 unfold yD
 rw[ZS.ltL,ZS.ltL,ZS.ltL,ZS.ltL]
 split
 ·split
  ·split
   ·rfl
   exact decide_eq_false (by lia)
  exact decide_eq_false (by lia)
 exact decide_eq_false (by lia)
theorem FR{qs:List Qt}(h:upQ qs):lW (gc qs)=gc qs:=(jY ZS.qi (NA _) (JW.mpr (h.imp EY))).symm
theorem mB{o:Bool}{qs:List Qt}{k:Th (T->Prop)}(h:upQ qs)(q:k.v (.lst true (qs.map qtT))):BU (.lst o (qs.map qtT)) (k:=k):=by
 refine m9 (o:=o) false (gc qs) (by rw[mw];rfl) (qR qs) ?_
 rw[FR h,mw]
 exact q
def mkC(r k x:Int)(m:Nat):List Qt:=nZ (fun y=>cellQ (fun s=>inM (r,k,0,0,0) (x,y,s)) x y) (-r) m
def mkN(r k:Int)(n:Nat):List Qt:=nZ (fun x=>mkC r k x (r - -r).toNat) (-r) n
theorem mk_eq{t:Tl}(h:tlO t):mkN t.1 t.2.1 (t.1 - -t.1).toNat=nrQ t:=by
 obtain⟨r,k,a,b,c⟩:=t
 obtain⟨h1,h2,h3,h4⟩:=h
 show mkN r k (r - -r).toNat=nrQ (r,k,0,0,0)
 dsimp only at h1 h2 h3 h4
 have e:(r=2/\k=1\/r=3/\k=1\/r=3/\k=2)\/r=4/\k=1\/r=4/\k=2\/r=4/\k=3:=by lia
 rcases e with (⟨rfl,rfl⟩ | ⟨rfl,rfl⟩ | ⟨rfl,rfl⟩) | ⟨rfl,rfl⟩ | ⟨rfl,rfl⟩ | ⟨rfl,rfl⟩ <;> decide +kernel
theorem GC{r k:Int}{i j s:Nat}:((-r + (i:Int),-r + (j:Int),s):Qt) ∉ mkN r k i++mkC r k (-r + i) j++((p_ s).filter fun s=>inM (r,k,0,0,0) (-r + i,-r + j,s)).map fun s=>(-r + (i:Int),-r + (j:Int),s):=by
 intro h
 unfold mkN mkC at h
 rcases D_.mp h with h | h
 ·rcases D_.mp h with h | h
  ·obtain⟨k,hk,mk⟩:=gP h
   obtain⟨k',_,mk'⟩:=gP mk
   have:=(gY mk').1
   dsimp only at this
   lia
  obtain⟨k,hk,mk⟩:=gP h
  have:=(gY mk).2.1
  dsimp only at this
  lia
 obtain⟨s',m',e⟩:=y_.mp h
 have:=KL.mp (KW.mp m').1
 have:=(NH.mp (NH.mp e).2).2
 dsimp only at this
 omega
theorem Gg{r k:Int}{i j s:Nat}(hm:(r - -r).toNat<=100):(mkN r k i++mkC r k (-r + i) j++((p_ s).filter fun s=>inM (r,k,0,0,0) (-r + i,-r + j,s)).map fun s=>((-r + (i:Int),-r + (j:Int),s):Qt)).length<=400 * i + 4 * j + s:=by
 have lc:∀ x m,(mkC r k x m).length<=4 * m:=fun x m=>qS (fun y=>lA _ _ _) m
 have l1:(mkN r k i).length<=400 * i:=qS (fun x=>n_ (lc x _) (by lia)) i
 have l2:=lc (-r + i) j
 have l3:=Ld (fun s=>inM (r,k,0,0,0) (-r + i,-r + j,s)) (p_ s)
 rw[Kf]at l3
 rw[h_,h_,a_]
 lia
theorem sN{α β:Type}(f:α->β)(l:List α)(a k:Int):bt (l.map f) a k=(bt l a k).map f:=by
 unfold bt
 rw[a_,List.map_filterMap]
 exact congrArg (fun g=>NB g _) (funext fun i=>s_ ..)
theorem sl2(n:Nat):Ql (max 0 (min 0 (n:Int))) n 2=(p_ ((n + 1) / 2)).map (2 * ·)/\Ql (max 0 (min 1 (n:Int))) n 2=(p_ (n / 2)).map (2 * · + 1):=by
 unfold Ql
 refine⟨?_,?_⟩
 ·have e:(if(2:Int) > 0 then(if max 0 (min 0 (n:Int)) < n then((n:Int) - max 0 (min 0 (n:Int)) + 2 - 1) / 2 else 0)else(if max 0 (min 0 (n:Int)) > n then(max 0 (min 0 (n:Int)) - n - 2 - 1) / (-2)else 0)).toNat=(n + 1) / 2:=by
   rw[if_pos (by decide)]
   split <;> lia
  dsimp only
  rw[e]
  exact JV fun k _=>by omega
 have e:(if(2:Int) > 0 then(if max 0 (min 1 (n:Int)) < n then((n:Int) - max 0 (min 1 (n:Int)) + 2 - 1) / 2 else 0)else(if max 0 (min 1 (n:Int)) > n then(max 0 (min 1 (n:Int)) - n - 2 - 1) / (-2)else 0)).toNat=n / 2:=by
  rw[if_pos (by decide)]
  split <;> lia
 dsimp only
 rw[e]
 refine JV fun k hk=>?_
 have:=KL.mp hk
 omega
theorem D9:∀ n:Nat,((p_ ((n + 1) / 2)).map (2 * ·)++(p_ (n / 2)).map (2 * · + 1)).Perm (p_ n):=by
 intro n
 induction n with
 | zero=>exact NA _
 | succ n ih=>
  rw[Ka]
  refine w_ ?_ (ih.append_right [n])
  rcases Nat.mod_two_eq_zero_or_one n with h | h
  ·rw[show(n + 1 + 1) / 2=(n + 1) / 2 + 1 by lia,show(n + 1) / 2=n / 2 by lia,Ka,r_,i_,i_]
   refine JM _ ?_
   rw[show JS (2 * ·) [n / 2]=[n] by show [2 * (n / 2)]=[n];congr 1;lia]
   exact JX
  rw[show(n + 1 + 1) / 2=(n + 1) / 2 by lia,show(n + 1) / 2=n / 2 + 1 by lia,Ka (n:=n / 2),r_ (f:=(2 * · + 1)),i_]
  refine JM _ (JM _ ?_)
  rw[show JS (2 * · + 1) [n / 2]=[n] by show [2 * (n / 2) + 1]=[n];congr 1;lia]
theorem yn{α:Type}(l:List α):(bt l 0 2++bt l 1 2).Perm l:=by
 unfold bt
 rw[(sl2 l.length).1,(sl2 l.length).2,<-List.filterMap_append]
 refine((D9 l.length).filterMap _).trans (List.Perm.of_eq ?_)
 induction l with
 | nil=>rfl
 | cons a l ih=>
  rw[j_,MA]
  show a::NB (fun x=>(a::l)[x]?) (JS NJ (p_ l.length))=a::l
  rw[MX]
  exact congrArg (a::·) ih
def Sml(t:T)(n m:Nat):Prop:=isD t=true/\shD (dt t)=true/\dpt (dt t)<=n/\(toPy (dt t)).bulk<=m
def vq(ts:List T)(n m:Nat):Prop:=fR ts=true/\shL (dtL ts)=true/\cN (dtL ts)<=n/\R6 (eI (dtL ts))<=m
theorem pO{i:Int}(n:Nat)(h:i.natAbs < 10 ^ 12):Sml (.int i) n 0:=⟨rfl,by rw[dt,shD];exact decide_eq_true h,by rw[dt,dpt.eq_def];exact z_ _,by rw[dt,toPy,SY.eq_def];exact c_ _⟩
theorem t9(n:Nat):vq [] n 0:=⟨rfl,by rw[dtL,shL],by rw[dtL,cN];exact z_ _,by rw[dtL,eI,R6.eq_def];exact c_ _⟩
theorem j9{t:T}{ts:List T}{n m k:Nat}(h:Sml t n m)(r:vq ts n k):vq (t::ts) n (m + 1 + k):=by
 refine⟨by rw[fR,h.1,r.1];rfl,by rw[dtL,shL,h.2.1,r.2.1];rfl,by rw[dtL,cN];exact MN.mpr ⟨h.2.2.1,r.2.2.1⟩,?_⟩
 rw[dtL,eI,R6.eq_def]
 have:=h.2.2.2
 have:=r.2.2.2
 show _ + 1 + _<=_
 lia
theorem A9{α:Type}{g:α->T}{l:List α}{n m:Nat}(h:∀ x∈l,Sml (g x) n m):vq (l.map g) n (l.length * (m + 1)):=by
 induction l with
 | nil=>rw[Ks,Lr,Nat.zero_mul];exact t9 n
 | cons x l ih=>
  have:=j9 (h x (v_ ..)) (ih fun y my=>h y (l_ _ my))
  rw[d_,j_,Nat.succ_mul,Nat.add_comm]
  exact this
theorem vD{o:Bool}{ts:List T}{n m:Nat}(h:vq ts n m):Sml (.lst o ts) (n + 1) m:=⟨by rw[isD];exact h.1,by rw[dt,shD];exact h.2.1,by rw[dt,dpt];exact Kr h.2.2.1,by rw[dt,toPy,SY.eq_def];exact h.2.2.2⟩
theorem BY{ts:List T}{n m:Nat}(h:vq ts n m):Sml (.tup ts) (n + 1) m:=⟨by rw[isD];exact h.1,by rw[dt,shD];exact h.2.1,by rw[dt,dpt];exact Kr h.2.2.1,by rw[dt,toPy,SY.eq_def];exact h.2.2.2⟩
theorem Fd{K:NM}{t:T}{ns:List Int}(h:Scr K t ns):er t=t/\isAny t=false:=by
 rcases h with rfl | ⟨a,rfl,_⟩
 ·exact⟨by simp only[er,j4],rfl⟩
 exact⟨rfl,rfl⟩
theorem zK{c:Cells}{n:Nat}:cD (stT c n)=true:=by simp only[stT,cD,nv,dC,fM,LM,MQ]
theorem cY{c o b u:Bool}{qs:List Qt}{k:T->Prop}:ph [rgT c o b u qs] k=k (rgT false true b u qs):=by cases c <;> rfl
theorem d3{c o b u:Bool}{ts:List Tl}{k:T->Prop}:ph [tgT c o b u ts] k=k (tgT false true b u ts):=by cases c <;> rfl
theorem cX{b o:Bool}{t:Tl}{k:T->Prop}:ph [tlT b o t] k=k (tlT true true t):=by cases b <;> rfl
theorem IX{b o:Bool}{q:Qt}(h:okQ q):Sml (qbT b o q) 1 3:=by
 obtain⟨⟨h1,h2⟩,⟨h3,h4⟩,h5⟩:=h
 have l:vq [T.int q.1,.int q.2.1,.int (q.2.2:Int)] 0 3:=j9 (pO 0 (by lia)) (j9 (pO 0 (by lia)) (j9 (pO 0 (by omega)) (t9 0)))
 cases b
 ·exact BY l
 exact vD l
theorem uk{o b u:Bool}{qs:List Qt}(h:∀ q∈qs,okQ q)(hl:qs.length<=230400):Sml (rgT false o b u qs) 2 (2 ^ 20):=by
 have:=vD (o:=o) (A9 (g:=qbT b u) (n:=1) (m:=3) fun q m=>IX (h q m))
 exact⟨this.1,this.2.1,this.2.2.1,n_ this.2.2.2 (by lia)⟩
theorem Bg{o b u:Bool}{qs:List Qt}{k:T->Prop}(h:∀ q∈qs,okQ q)(hl:qs.length<=230400)(q:k (.str (toPy (dt (rgT false o b u qs))).shown)):EZ [rgT false o b u qs] k:=by
 have s:=uk (o:=o) (b:=b) (u:=u) h hl
 exact⟨s.1,s.2.1,G' s.2.2.1 (by decide),s.2.2.2,q⟩
theorem Ii{o b u:Bool}(ts:List Tl):isD (tgT false o b u ts)=true/\dpt (dt (tgT false o b u ts))<=2:=by
 have h:fR (ts.map (tlT b u))=true/\cN (dtL (ts.map (tlT b u)))<=1:=by
  induction ts with
  | nil=>exact⟨rfl,by simp only[Ks,dtL,cN,z_]⟩
  | cons a l ih=>
   have g0:GdL (tlL a) 0:=bB jy (bB jy (bB jy (bB jy (bB jy i6))))
   have g:Gd (tlT b u a) 1:=by
    cases b
    ·exact zX g0 (by show 5<=100000;decide)
    exact GL g0 (by show 5<=100000;decide)
   exact⟨by rw[d_,fR,ih.1,g.1];rfl,by rw[d_,dtL,cN];exact MN.mpr ⟨g.2.2,ih.2⟩⟩
 exact⟨by show isD (.lst o (ts.map (tlT b u)))=true;rw[isD];exact h.1,by show dpt (dt (.lst o (ts.map (tlT b u))))<=2;rw[dt,dpt];exact Kr h.2⟩
theorem ym{o o1 o2 o3 o4 o5 b u b2 u2:Bool}{rs:List Qt}{tl:List Tl}{k:T->Prop}(h:∀ q∈rs,okQ q)(hl:rs.length<=230400)(q:k (.bl false)):neT (.lst o [rgT false o1 b u rs,tgT false o2 b2 u2 tl]) (.lst o3 [rgT false o4 b u rs,tgT false o5 b2 u2 tl]) k:=by
 have s1:=uk (o:=o1) (b:=b) (u:=u) h hl
 have s2:=uk (o:=o4) (b:=b) (u:=u) h hl
 have t1:=Ii (o:=o2) (b:=b2) (u:=u2) tl
 have t2:=Ii (o:=o5) (b:=b2) (u:=u2) tl
 have e1:dt (rgT false o1 b u rs)=dt (rgT false o4 b u rs):=by show dt (.lst o1 _)=dt (.lst o4 _);rw[dt,dt]
 have e2:dt (tgT false o2 b2 u2 tl)=dt (tgT false o5 b2 u2 tl):=by show dt (.lst o2 _)=dt (.lst o5 _);rw[dt,dt]
 refine⟨by rw[isD,fR,fR,fR,s1.1,t1.1];rfl,by rw[isD,fR,fR,fR,s2.1,t2.1];rfl,?_,?_⟩
 ·rw[dt,dpt,dtL,cN,dtL,cN,dtL,cN]
  have:=s1.2.2.1
  have:=t1.2
  lia
 have e:dt (.lst o [rgT false o1 b u rs,tgT false o2 b2 u2 tl])=dt (.lst o3 [rgT false o4 b u rs,tgT false o5 b2 u2 tl]):=by simp only[dt,dtL,e1,e2]
 rw[e,iH]
 exact q
theorem Dl{M rs:List Qt}{n:Nat}:∀ {cs:List Pt} {l:List Rw},wyC M rs n cs=some l->l.length=cs.length:=by
 intro cs
 induction cs with
 | nil=>intro l e;cases e;rfl
 | cons c cs ih=>
  intro l e
  rw[wyC]at e
  cases h:fsQ c rs M with
  | none=>rw[h]at e;cases e
  | some z=>
   rw[h,Kq]at e
   cases h2:wyC M rs n cs with
   | none=>rw[h2]at e;cases e
   | some m=>
    rw[h2]at e
    cases e
    rw[j_,j_,ih h2]
theorem x9{rs:List Qt}{q:Qt}:∀ {Ms:List (List Qt)} {n:Nat} {l:List Rw},(∀ M∈Ms,M.length<=9600)->wyN rs q n Ms=some l->l.length<=9600 * Ms.length:=by
 intro Ms
 induction Ms with
 | nil=>intro n l _ e;cases e;exact c_ _
 | cons M Ms ih=>
  intro n l hM e
  rw[wyN]at e
  cases h:wyC M rs n (srP (abL M q))with
  | none=>rw[h]at e;cases e
  | some a=>
   rw[h,Kq]at e
   cases h2:wyN rs q (n + 1) Ms with
   | none=>rw[h2]at e;cases e
   | some m=>
    rw[h2]at e
    cases e
    have l1:=Dl h
    have l2:=qD (abL M q)
    have l3:=pR M q
    have l4:=hM M (.head _)
    have l5:=ih (fun M m=>hM M (.tail _ m)) h2
    rw[h_,j_]
    lia
theorem GD{o o':Bool}{W:Option (List Rw)}:dt (wyU o W)=dt (wyU o' W):=by
 cases W with
 | none=>rfl
 | some l=>show dt (.lst o (l.map o6))=dt (.lst o' (l.map o6));rw[dt,dt]
theorem DP{o:Bool}{rs:List Qt}{q:Qt}{tl:List Tl}(ht:∀ t∈tl,tlO t)(hl:tl.length<=8):Gd (wyU o (wyN rs q 0 (tl.map nrQ))) 3:=by
 cases e:wyN rs q 0 (tl.map nrQ)with
 | none=>exact Gu
 | some l=>
  have l1:=x9 (fun M m=>by obtain⟨t,mt,rfl⟩:=y_.mp m;exact ql (ht t mt)) e
  rw[a_]at l1
  refine GL (Cy fun r _=>zX (bB jy (bB HE (bB ?_ i6))) (by show 3<=100000;decide)) (by rw[a_];lia)
  exact zX (bB jy (bB jy (bB jy i6))) (by show 3<=100000;decide)
theorem AJ(rs:List Qt):∃ rs':List Qt,rs'.Perm rs/\lW (gc rs)=gc rs':=by
 obtain⟨l,p,e⟩:=L2.oD (gQ (lt:=ZS.ltL) (gc rs)) rs rfl
 exact⟨l,p,e.symm⟩
theorem xv{l m:List Qt}(p:l.Perm m)(h:m.Nodup):l.Nodup:=p.nodup_iff.mpr h
def kU:=@Mp.EL
end Mp
local macro_rules | `(tactic| walk_at "go")=>do
 let l<-("!Mp.kZ !PL.hC !PL.fj !PL.gR !PL.eC !PL.dZ !PL.dw !PL.cO !PL.eA !PL.de !PL.fB !PL.dI !PL.dv !PL.dq !PL.cT !PL.cZ !PL.dR !PL.eE !PL.f7 !PL.dN !PL.dG !PL.gK !PL.cS !PL.dr !PL.ed !PL.dP !PL.e9 !PL.dB !PL.dH PL.fA PL.d4 PL.bW PL.bQ PL.bN PL.cQ PL.cg PL.er PL.erL PL.aU PL.ba PL.cD PL.cM PL.lend PL.back PL.outs PL.frA PL.jN j_ Lr KU Kn M0 L8 J_ JR LV List.zipWith_cons_cons List.zipWith_nil_left Option.map_some PL.Th.v if_true if_false Mp.dU Nat.reduceAdd Nat.reduceSub Nat.reduceLeDiff Mp.kN Mp.fq Mp.cH Mp.bO Mp.bY !Mp.dF !Mp.dX !Mp.dD Mp.bX Mp.dm Mp.fv Mp.cU Mp.bK Mp.bP !Mp.du !Mp.dh !Mp.dS !Mp.eh Mp.f9 Mp.cV Mp.bM Mp.cj !Mp.fD Mp.cG Mp.eJ Mp.bV Mp.bR !Mp.df !Mp.dW Mp.eU Mp.cm Mp.cn !Mp.eB !Mp.dM !Mp.dJ !Mp.dg Mp.eR Mp.ck Mp.bJ Mp.bH !PL.eg !PL.gZ Mp.gX Mp.fy Mp.bT Mp.cR !PL.aZ Mp.eQ Mp.bS Mp.bU Mp.eD Mp.cf Mp.cL Mp.eS Mp.cc Mp.cp Mp.bL !PL.fE !PL.dy !PL.dY !Mp.cK !PL.bZ !PL.bI PL.dA !PL.dk !PL.dO !Mp.cY !Mp.d3 !Mp.cX !Mp.kU".splitOn " ").toArray.mapM fun s=>let i:Lean.Ident:=Lean.mkIdent (s.replace "!" "").toName;if s.front=='!' then `(Lean.Parser.Tactic.simpLemma|↓$i:ident) else `(Lean.Parser.Tactic.simpLemma|$i:ident)
 `(tactic| simp only[$l,*])
local macro_rules | `(tactic| walk_at "take")=>`(tactic| refine⟨_,_,_,rfl,by lia,by first | decide | lia,by first | decide | lia,?_⟩)
namespace Mp
open PySem L2 PL
def jf:FP:=fun ts k=>∃ q:Qt,ts=[qtT q]/\q.2.2 < 4/\k (ptP (qE q)) ts
section
variable{P:NW}{w:N3}{K:NM}{mg:Str->Option NK}{base:N5}
theorem iy:FnScope ["quarter","inner"] ["quarter"] (aA s_inner_point):=⟨rfl,rfl,rfl,by decide +kernel,rfl,by decide +kernel,by decide +kernel⟩
set_option maxHeartbeats 4000000 in
theorem ni{f:NN}{fd:N9}(F:Fun K "inner_point" "inner_point" s_inner_point f fd)(TX:Txt mg)(C_INNER:Glb K mg "INNER" vM) :FnOk P w K mg base CX0 1 f fd ["quarter"] (aM K 1 jf):=by
 refine cq F iy [true] rfl (fun cdv A outer s H E hr=>?_)
 have sc:=@iy
 refine⟨_,(aj (aC (i:=1) sc.nd (by rfl) (e_ rfl) (by rfl) (aD (az hr (Jl C_INNER (by rfl)) (az hr (af 0) ge_int)))) (aq (aQ (aD (aB (ae (ah au (ah bA ge_int (az hr (af 0) ge_int)) (az hr (af 1) ge_int)) (ae (ah au (ah bA ge_int (az hr (af 0) ge_int)) (az hr (af 1) ge_int)) ag))))))),fun ts kk hl hp=>?_⟩
 clear hl
 obtain⟨p,rfl,hs,q⟩:=hp
 walk_at "go"
 refine bz (GY hs) ?_
 walk_at "go"
 exact⟨c4 _,c4 _,q⟩
end
def p9:FP:=fun ts k=>∃(o:Bool) (ps:List Pt),ts=[.lst o (ps.map ptP)]/\ps≠[]/\ps.length < sizeLine/\∀ oc,E5 ps oc->k (ocT oc) ts
section
variable{P:NW}{w:N3}{K:NM}{mg:Str->Option NK}{base:N5}
theorem n5:FnScope ["corners","bounds","numbers"] ["corners"] (aA s_octo_of):=⟨rfl,rfl,rfl,by decide +kernel,rfl,by decide +kernel,by decide +kernel⟩
set_option maxHeartbeats 4000000 in
theorem u9{f:NN}{fd:N9}(F:Fun K "octo_of" "octo_of" s_octo_of f fd)(TX:Txt mg)  :FnOk P w K mg base CX0 1 f fd ["corners"] (aM K 1 p9):=by
 refine cq F n5 [true] rfl (fun cdv A outer s H E hr=>?_)
 have sc:=@n5
 have nd1:(["corner"]:List Str).Nodup:=by decide +kernel
 have nd2:(["corner"]:List Str).Nodup:=by decide +kernel
 have nd3:(["corner"]:List Str).Nodup:=by decide +kernel
 have nd4:(["corner"]:List Str).Nodup:=by decide +kernel
 refine⟨_,(aj (aC (i:=1) sc.nd (by rfl) (e_ rfl) (by rfl) (aD (aT ag))) (aj (cP Od (by rfl) (cI (aB (ae (aD (cF sc ["corner"] [none] nd4 (by decide +kernel) (cI (af 0)) (fun _ _ _=>(av (i:=0) nd4 (by rfl) (e_ rfl) (by rfl) (hf:=(k_ rfl)))) (fun _ _ _=>cA) (fun _ _ _=>(az hr (af 0) ge_int)))) (ae (aD (cF sc ["corner"] [none] nd3 (by decide +kernel) (cI (af 0)) (fun _ _ _=>(av (i:=0) nd3 (by rfl) (e_ rfl) (by rfl) (hf:=(k_ rfl)))) (fun _ _ _=>cA) (fun _ _ _=>(az hr (af 0) ge_int)))) (ae (aD (cF sc ["corner"] [none] nd2 (by decide +kernel) (cI (af 0)) (fun _ _ _=>(av (i:=0) nd2 (by rfl) (e_ rfl) (by rfl) (hf:=(k_ rfl)))) (fun _ _ _=>cA) (fun _ _ _=>(ah au (az hr (af 0) ge_int) (az hr (af 0) ge_int))))) (ae (aD (cF sc ["corner"] [none] nd1 (by decide +kernel) (cI (af 0)) (fun _ _ _=>(av (i:=0) nd1 (by rfl) (e_ rfl) (by rfl) (hf:=(k_ rfl)))) (fun _ _ _=>cA) (fun _ _ _=>(ah aS (az hr (af 0) ge_int) (az hr (af 0) ge_int))))) ag)))))) (av (i:=2) sc.nd (by rfl) (e_ rfl) (by rfl)) (aj (eX (iR 1 O2 O3 gj (ae (aD (aK (fx rfl) (by rfl) TX.min (by decide +kernel) (ae (af 2) ag))) ag))) (aq (eX (iR 1 O2 O3 gj (ae (aD (aK (g9 rfl) (by rfl) TX.max (by decide +kernel) (ae (af 2) ag))) ag)))))) (aq (aQ (aD (aP fI (by rfl) TX.tuple (by decide +kernel) (ae (af 1) ag))))))),fun ts kk hl hp=>?_⟩
 clear hl
 obtain⟨o,ps,rfl,hne,hz,q⟩:=hp
 have hne':∀ j,ps.map (gO j)≠[]:=fun j z=>hne (L4.mp z)
 walk_at "go"
 refine aW (by rw[a_];exact hz) (fun i acc ie=>∃ z,acc=(ps.take i).map (fun p=>T.int (gO 0 p))/\ie=[z]) ⟨_,rfl,rfl⟩ ?_ ?_
 ·rintro i u _ _ ⟨z,rfl,rfl⟩ eu
  obtain⟨p,ep,rfl⟩:=cx eu
  walk_at "go"
  exact⟨_,by rw[map_take ep];rfl,rfl⟩
 rintro _ _ ⟨z,rfl,rfl⟩
 rw[a_,F']
 walk_at "go"
 refine aW (by rw[a_];exact hz) (fun i acc ie=>∃ z,acc=(ps.take i).map (fun p=>T.int (gO 1 p))/\ie=[z]) ⟨_,rfl,rfl⟩ ?_ ?_
 ·rintro i u _ _ ⟨z,rfl,rfl⟩ eu
  obtain⟨p,ep,rfl⟩:=cx eu
  walk_at "go"
  exact⟨_,by rw[map_take ep];rfl,rfl⟩
 rintro _ _ ⟨z,rfl,rfl⟩
 rw[a_,F']
 walk_at "go"
 refine aW (by rw[a_];exact hz) (fun i acc ie=>∃ z,acc=(ps.take i).map (fun p=>T.int (gO 2 p))/\ie=[z]) ⟨_,rfl,rfl⟩ ?_ ?_
 ·rintro i u _ _ ⟨z,rfl,rfl⟩ eu
  obtain⟨p,ep,rfl⟩:=cx eu
  walk_at "go"
  exact⟨_,by rw[map_take ep];rfl,rfl⟩
 rintro _ _ ⟨z,rfl,rfl⟩
 rw[a_,F']
 walk_at "go"
 refine aW (by rw[a_];exact hz) (fun i acc ie=>∃ z,acc=(ps.take i).map (fun p=>T.int (gO 3 p))/\ie=[z]) ⟨_,rfl,rfl⟩ ?_ ?_
 ·rintro i u _ _ ⟨z,rfl,rfl⟩ eu
  obtain⟨p,ep,rfl⟩:=cx eu
  walk_at "go"
  exact⟨_,by rw[map_take ep];rfl,rfl⟩
 rintro _ _ ⟨z,rfl,rfl⟩
 rw[a_,F']
 walk_at "go"
 have eL:[T.lst false (JS (fun p=>T.int (gO 0 p)) ps),T.lst false (JS (fun p=>T.int (gO 1 p)) ps),T.lst false (JS (fun p=>T.int (gO 2 p)) ps),T.lst false (JS (fun p=>T.int (gO 3 p)) ps)]=(p_ 4).map fun j=>T.lst false (JS (fun p=>T.int (gO j p)) ps):=rfl
 rw[eL]
 refine bF (fun i env=>∃(f:Nat->Int × Int) (z:T),(∀ j,j < i->fU (ps.map (gO j)) (f j).1/\fT (ps.map (gO j)) (f j).2)/\env=[.lst o (ps.map ptP),.lst true ((p_ i).flatMap fun j=>[.int (f j).1,.int (f j).2]),z]) ⟨fun _=>(0,0),_,fun j hj=>by lia,rfl⟩ ?_ ?_
 ·rintro i t _ ⟨f,z,hf,rfl⟩ ei
  obtain⟨j,ej,rfl⟩:=cx ei
  have hi:i < 4:=by
   have:=(f_.mp ej).1
   rwa[Kf]at this
  rw[KS hi]at ej
  cases ej
  have ll:∀ n,((p_ n).flatMap fun j=>[T.int (f j).1,T.int (f j).2]).length=2 * n:=fun n=>by
   induction n with
   | zero=>rfl
   | succ n ih=>rw[Ka,L5,h_,ih];rfl
  walk_at "go"
  refine⟨hne' i,fun m hm=>⟨by rw[ll];lia,hne' i,fun M hM=>⟨by rw[h_,ll];show 2 * i + 1 < _;lia,fun j=>if j=i then(m,M)else f j,.lst false (ps.map fun p=>T.int (gO i p)),fun j hj=>?_,by rw[AE]⟩⟩⟩
  show fU _ (if j=i then(m,M)else f j).1/\fT _ (if j=i then(m,M)else f j).2
  by_cases e:j=i
  ·rw[if_pos e,e];exact⟨hm,hM⟩
  rw[if_neg e];exact hf j (by lia)
 rintro _ ⟨f,z,hf,rfl⟩
 have e4:(p_ (JS (fun j=>T.lst false (JS (fun p=>T.int (gO j p)) ps)) (p_ 4)).length).flatMap (fun j=>[T.int (f j).1,T.int (f j).2])=[T.int (f 0).1,T.int (f 0).2,T.int (f 1).1,T.int (f 1).2,T.int (f 2).1,T.int (f 2).2,T.int (f 3).1,T.int (f 3).2]:=by rw[a_];rfl
 rw[e4]
 rw[a_]at hf
 have f0:=hf 0 (by decide)
 have f1:=hf 1 (by decide)
 have f2:=hf 2 (by decide)
 have f3:=hf 3 (by decide)
 walk_at "go"
 exact q ⟨(f 0).1,(f 0).2,(f 1).1,(f 1).2,(f 2).1,(f 2).2,(f 3).1,(f 3).2⟩ ⟨⟨f0,f1⟩,f2,f3⟩
end
def vC:FP:=fun ts k=>∃ o q,ts=[ocT o,ocT q]/\k (ocT (yC o q)) ts
section
variable{P:NW}{w:N3}{K:NM}{mg:Str->Option NK}{base:N5}
theorem sW:FnScope ["one","other"] ["one","other"] (aA s_added):=⟨rfl,rfl,rfl,by decide +kernel,rfl,by decide +kernel,by decide +kernel⟩
set_option maxHeartbeats 4000000 in
theorem AD{f:NN}{fd:N9}(F:Fun K "added" "added" s_added f fd)(TX:Txt mg)  :FnOk P w K mg base CX0 1 f fd ["one","other"] (aM K 2 vC):=by
 refine cq F sW [true,true] rfl (fun cdv A outer s H E hr=>?_)
 have sc:=@sW
 have nd1:(["bound","more"]:List Str).Nodup:=by decide +kernel
 refine⟨_,(aq (aQ (aD (aP fI (by rfl) TX.tuple (by decide +kernel) (ae (cF sc ["bound","more"] [none,none] nd1 (by decide +kernel) (FU (by rfl) TX.zip (ae (af 0) (ae (af 1) ag))) (fun _ _ _=>(fm (n:=2) (by rfl) (aE (av (i:=0) nd1 (by rfl) (e_ rfl) (by rfl) (hf:=(k_ rfl))) (aE (av (i:=1) nd1 (by rfl) (e_ rfl) (by rfl) (hf:=(k_ rfl))) dE)))) (fun _ _ _=>cA) (fun _ _ _=>(ah au (af 0) (af 1)))) ag))))),fun ts kk hl hp=>?_⟩
 clear hl
 obtain⟨o,q',rfl,q⟩:=hp
 have e1:∀ o:Oc,ocT o=.tup ((ocL o).map T.int):=fun o=>rfl
 rw[e1,e1]
 walk_at "go"
 have ez:(JS (fun p=>T.tup [p.1,p.2]) ((JS (fun x=>T.int x) (ocL o)).zip (JS (fun x=>T.int x) (ocL q'))))=((ocL o).zip (ocL q')).map fun p=>T.tup [.int p.1,.int p.2]:=by rw[List.zip_map,H_];rfl
 rw[ez]
 refine aW (by rw[a_];show 8 < sizeLine;decide) (fun i acc ie=>∃ z1 z2,acc=(((ocL o).zip (ocL q')).take i).map (fun p=>T.int (p.1 + p.2))/\ie=[z1,z2]) ⟨_,_,rfl,rfl⟩ ?_ ?_
 ·rintro i u _ _ ⟨z1,z2,rfl,rfl⟩ eu
  obtain⟨p,ep,rfl⟩:=cx eu
  walk_at "go"
  exact⟨_,_,by rw[map_take ep],rfl⟩
 rintro _ _ ⟨z1,z2,rfl,rfl⟩
 rw[a_,F']
 walk_at "go"
 exact q
end
def xr:FP:=fun ts k=>∃ o p,ts=[ocT o,ptP p]/\k (ocT (yC o (oc1 p))) ts
section
variable{P:NW}{w:N3}{K:NM}{mg:Str->Option NK}{base:N5}
theorem tT:FnScope ["octo","corner"] ["octo","corner"] (aA s_moved):=⟨rfl,rfl,rfl,by decide +kernel,rfl,by decide +kernel,by decide +kernel⟩
set_option maxHeartbeats 4000000 in
theorem AY{f:NN}{fd:N9}(F:Fun K "moved" "moved" s_moved f fd)(TX:Txt mg)  (G_octo_of:Cal P w K mg base 1 "octo_of" ["corners"] (aM K 1 p9))(G_added:Cal P w K mg base 1 "added" ["one","other"] (aM K 2 vC)):FnOk P w K mg base CX0 2 f fd ["octo","corner"] (aM K 2 xr):=by
 refine cq F tT [true,true] rfl (fun cdv A outer s H E hr=>?_)
 have sc:=@tT
 refine⟨_,(aq (aQ (aD (ax G_added hr (by rfl) (ai (af 0) (ai (ax G_octo_of hr (by rfl) (ai (aT (ae (af 1) ag)) ay)) ay)))))),fun ts kk hl hp=>?_⟩
 clear hl
 obtain⟨o,p,rfl,q⟩:=hp
 walk_at "go"
 refine⟨true,[p],rfl,(fun z=>nomatch z),by show 1 < sizeLine;decide,fun oc h=>?_⟩
 rw[IV h]
 walk_at "go"
 refine⟨o,oc1 p,rfl,?_⟩
 walk_at "go"
 exact q
end
def oP:FP:=fun ts k=>∃ o,ts=[ocT o]/\k (.bl (rY o)) ts
section
variable{P:NW}{w:N3}{K:NM}{mg:Str->Option NK}{base:N5}
theorem nY:FnScope ["octo"] ["octo"] (aA s_is_flat):=⟨rfl,rfl,rfl,by decide +kernel,rfl,by decide +kernel,by decide +kernel⟩
set_option maxHeartbeats 4000000 in
theorem uy{f:NN}{fd:N9}(F:Fun K "is_flat" "is_flat" s_is_flat f fd)(TX:Txt mg)  :FnOk P w K mg base CX0 1 f fd ["octo"] (aM K 1 oP):=by
 refine cq F nY [true] rfl (fun cdv A outer s H E hr=>?_)
 have sc:=@nY
 refine⟨_,(aq (aQ (aD (Bx (gE (cJ hr) (az hr (af 0) ge_int) (az hr (af 0) ge_int) (aL _)) (Bx (gE (cJ hr) (az hr (af 0) ge_int) (az hr (af 0) ge_int) (aL _)) (Bx (gE (cJ hr) (az hr (af 0) ge_int) (az hr (af 0) ge_int) (aL _)) (AL (gE (cJ hr) (az hr (af 0) ge_int) (az hr (af 0) ge_int) (aL _))))))))),fun ts kk hl hp=>?_⟩
 clear hl
 obtain⟨o,rfl,q⟩:=hp
 walk_at "go"
 unfold rY at q
 refine aN (fun h1=>?_) (fun h1=>?_)
 ·rw[decide_eq_true h1]at q
  walk_at "go"
  exact q
 rw[decide_eq_false h1,L']at q
 walk_at "go"
 refine aN (fun h2=>?_) (fun h2=>?_)
 ·rw[decide_eq_true h2]at q
  walk_at "go"
  exact q
 rw[decide_eq_false h2,L']at q
 walk_at "go"
 refine aN (fun h3=>?_) (fun h3=>?_)
 ·rw[decide_eq_true h3]at q
  walk_at "go"
  exact q
 rw[decide_eq_false h3,L']at q
 walk_at "go"
 exact q
end
def wx:FP:=fun ts k=>∃(o:Oc) (p:Qt),ts=[ocT o,qtT p]/\p.2.2 < 4/\k (.bl (inO o p)) ts
section
variable{P:NW}{w:N3}{K:NM}{mg:Str->Option NK}{base:N5}
theorem rb:FnScope ["octo","quarter","point","x","y"] ["octo","quarter"] (aA s_holds):=⟨rfl,rfl,rfl,by decide +kernel,rfl,by decide +kernel,by decide +kernel⟩
set_option maxHeartbeats 4000000 in
theorem Bd{f:NN}{fd:N9}(F:Fun K "holds" "holds" s_holds f fd)(TX:Txt mg)  (G_inner_point:Cal P w K mg base 1 "inner_point" ["quarter"] (aM K 1 jf)):FnOk P w K mg base CX0 2 f fd ["octo","quarter"] (aM K 2 wx):=by
 refine cq F rb [true,true] rfl (fun cdv A outer s H E hr=>?_)
 have sc:=@rb
 refine⟨_,(aj (aC (i:=2) sc.nd (by rfl) (e_ rfl) (by rfl) (aD (ax G_inner_point hr (by rfl) (ai (af 1) ay)))) (aj (aC (i:=3) sc.nd (by rfl) (e_ rfl) (by rfl) (aD (az hr (af 2) ge_int))) (aj (aC (i:=4) sc.nd (by rfl) (e_ rfl) (by rfl) (aD (az hr (af 2) ge_int))) (aq (aQ (aD (vp (jB fS fS (ah bA ge_int (az hr (af 0) ge_int)) (af 3) (ah bA ge_int (az hr (af 0) ge_int))) (vp (jB fS fS (ah bA ge_int (az hr (af 0) ge_int)) (af 4) (ah bA ge_int (az hr (af 0) ge_int))) (vp (jB fS fS (ah bA ge_int (az hr (af 0) ge_int)) (ah au (af 3) (af 4)) (ah bA ge_int (az hr (af 0) ge_int))) (AL (jB fS fS (ah bA ge_int (az hr (af 0) ge_int)) (ah aS (af 3) (af 4)) (ah bA ge_int (az hr (af 0) ge_int))))))))))))),fun ts kk hl hp=>?_⟩
 clear hl
 obtain⟨o,p,rfl,hs,q⟩:=hp
 walk_at "go"
 refine⟨p,rfl,hs,?_⟩
 walk_at "go"
 unfold inO at q
 have no:¬ inP o (qE p).1 (qE p).2->kk (.bl false) [ocT o,qtT p]:=fun h=>by rw[decide_eq_false h]at q;exact q
 refine⟨c4 _,aN (fun h0=>?_) (fun h0=>?_)⟩
 rotate_left
 ·walk_at "go"
  exact no fun h=>h0 h.1.1
 walk_at "go"
 refine⟨c4 _,aN (fun h1=>?_) (fun h1=>?_)⟩
 rotate_left
 ·walk_at "go"
  exact no fun h=>h1 h.1.2
 walk_at "go"
 refine⟨c4 _,aN (fun h2=>?_) (fun h2=>?_)⟩
 rotate_left
 ·walk_at "go"
  exact no fun h=>h2 h.2.1.1
 walk_at "go"
 refine⟨c4 _,aN (fun h3=>?_) (fun h3=>?_)⟩
 rotate_left
 ·walk_at "go"
  exact no fun h=>h3 h.2.1.2
 walk_at "go"
 refine⟨c4 _,aN (fun h4=>?_) (fun h4=>?_)⟩
 rotate_left
 ·walk_at "go"
  exact no fun h=>h4 h.2.2.1.1
 walk_at "go"
 refine⟨c4 _,aN (fun h5=>?_) (fun h5=>?_)⟩
 rotate_left
 ·walk_at "go"
  exact no fun h=>h5 h.2.2.1.2
 walk_at "go"
 refine⟨c4 _,aN (fun h6=>?_) (fun h6=>?_)⟩
 rotate_left
 ·walk_at "go"
  exact no fun h=>h6 h.2.2.2.1
 walk_at "go"
 refine⟨c4 _,?_⟩
 rw[show decide (inP o (qE p).1 (qE p).2)=decide ((qE p).1 - (qE p).2 < 4 * o.h)from decide_eq_decide.mpr ⟨fun h=>h.2.2.2.2,fun h=>⟨⟨h0,h1⟩,⟨h2,h3⟩,⟨h4,h5⟩,h6,h⟩⟩]at q
 exact q
end
def jh:FP:=fun ts k=>∃ o:Oc,ts=[ocT o]/\rY o=false/\bdO o/\k (.lst true ((ocN o (o.b - o.a).toNat).map qtT)) ts
section
variable{P:NW}{w:N3}{K:NM}{mg:Str->Option NK}{base:N5}
theorem iM:FnScope ["octo","region","x","low","high","y"] ["octo"] (aA s_quarters_in):=⟨rfl,rfl,rfl,by decide +kernel,rfl,by decide +kernel,by decide +kernel⟩
set_option maxHeartbeats 4000000 in
theorem nW{f:NN}{fd:N9}(F:Fun K "quarters_in" "quarters_in" s_quarters_in f fd)(TX:Txt mg)  (G_is_flat:Cal P w K mg base 1 "is_flat" ["octo"] (aM K 1 oP))(G_holds:Cal P w K mg base 2 "holds" ["octo","quarter"] (aM K 2 wx)):FnOk P w K mg base CX0 3 f fd ["octo"] (aM K 1 jh):=by
 refine cq F iM [true] rfl (fun cdv A outer s H E hr=>?_)
 have sc:=@iM
 have nd1:(["side","y","x","octo"]:List Str).Nodup:=by decide +kernel
 refine⟨_,(aj (aC (i:=1) sc.nd (by rfl) (e_ rfl) (by rfl) (aD (aT ag))) (aj (d5 (gp (kJ (ax G_is_flat hr (by rfl) (ai (af 0) ay)))) (aq (aQ (iq 1))) b6) (aj (cP Od (by rfl) (fZ (by rfl) TX.range (ae (aD (az hr (af 0) ge_int)) (ae (aD (az hr (af 0) ge_int)) ag))) (av (i:=2) sc.nd (by rfl) (k_ rfl) (by rfl)) (aj (aC (i:=3) sc.nd (by rfl) (e_ rfl) (by rfl) (aD (aK (g9 rfl) (by rfl) TX.max (by decide +kernel) (ae (az hr (af 0) ge_int) (ae (ah aS (ah aS (az hr (af 0) ge_int) (af 2)) ge_int) (ae (ah aS (af 2) (az hr (af 0) ge_int)) ag)))))) (aj (aC (i:=4) sc.nd (by rfl) (e_ rfl) (by rfl) (aD (aK (fx rfl) (by rfl) TX.min (by decide +kernel) (ae (az hr (af 0) ge_int) (ae (ah aS (az hr (af 0) ge_int) (af 2)) (ae (ah aS (ah au (af 2) ge_int) (az hr (af 0) ge_int)) ag)))))) (aq (cP Od (by rfl) (fZ (by rfl) TX.range (ae (cC 3) (ae (cC 4) ag))) (av (i:=5) sc.nd (by rfl) (k_ rfl) (by rfl)) (aq (eX (iR 1 PySem.F.slot_list_extend PySem.F.type_list_extend uY (ae (aD (cF sc ["side","y","x","octo"] [none,some 5,some 2,some 0] nd1 (by decide +kernel) (eM (by rfl) TX.range (ae ge_int ag)) (fun _ _ _=>(av (i:=0) nd1 (by rfl) (e_ rfl) (by rfl) (hf:=(k_ rfl)))) (fun _ _ _=>(mh (kJ (ax G_holds hr (by rfl) (ai (af 3) (ai (aB (ae (af 2) (ae (af 1) (ae (af 0) ag)))) ay)))))) (fun _ _ _=>(aB (ae (af 2) (ae (af 1) (ae (af 0) ag))))))) ag))))))))) (aq (aQ (iq 1)))))),fun ts kk hl hp=>?_⟩
 clear hl
 obtain⟨o,rfl,hf,hb,q⟩:=hp
 walk_at "go"
 refine⟨o,rfl,?_⟩
 walk_at "go"
 rw[hf]
 walk_at "go"
 have ab:=hb.1.1
 refine⟨by omega,bF (fun i env=>∃ z2 z3 z4 z5,env=[ocT o,.lst true ((ocN o i).map qtT),z2,z3,z4,z5]) ⟨_,_,_,_,rfl⟩ ?_ ?_⟩
 ·rintro i t _ ⟨z2,z3,z4,z5,rfl⟩ ei
  have hi:=eK ei
  have et:=i7 ei
  subst et
  walk_at "go"
  rw[show max (max o.c (o.e - (o.a + i) - 1)) (o.a + i - o.h)=mT o (o.a + i)from rfl,show min (min o.d (o.f - (o.a + i))) (o.a + i + 1 - o.g)=uP o (o.a + i)from rfl]
  have lb:=B5 (x:=o.a + i) hb (by lia) (by omega)
  have ll:=vH hb i (by lia)
  refine⟨by lia,bF (fun j env=>∃ z5,env=[ocT o,.lst true ((ocN o i++ocC o (o.a + i) j).map qtT),.int (o.a + i),.int (mT o (o.a + i)),.int (uP o (o.a + i)),z5]) ⟨_,by rw[show ocC o (o.a + i) 0=[]from rfl,JO]⟩ ?_ ?_⟩
  ·rintro j t _ ⟨z5,rfl⟩ ej
   have hj:=eK ej
   have et:=i7 ej
   subst et
   have l2:=xb (o:=o) (x:=o.a + i) j
   have ec:ocC o (o.a + i) (j + 1)=ocC o (o.a + i) j++cellQ (fun s=>inO o (o.a + i,mT o (o.a + i) + j,s)) (o.a + i) (mT o (o.a + i) + j):=fC
   rw[ec]
   generalize mT o (o.a + i) + j=y at *
   generalize o.a + (i:Int)=x at *
   walk_at "go"
   refine⟨by decide,aW (by rw[bC];decide) (fun s acc ie=>∃ z1,acc=(((p_ s).filter fun s=>inO o (x,y,s)).map fun s=>(x,y,s)).map qtT/\ie=[z1,.int y,.int x,ocT o]) ⟨_,rfl,rfl⟩ ?_ ?_⟩
   ·rintro s t _ _ ⟨z1,rfl,rfl⟩ es
    have hs:s < 4:=eK es
    have et:=i7 es
    subst et
    rw[LY]
    walk_at "go"
    refine⟨o,(x,y,s),rfl,hs,?_⟩
    walk_at "go"
    rw[Ka,Lw,r_,r_]
    refine v5 (fun h=>?_) (fun h=>?_)
    ·walk_at "go"
     exact⟨_,by rw[Lm,h];rfl,rfl⟩
    walk_at "go"
    exact⟨_,by rw[Lm,h];exact(JO _).symm,rfl⟩
   rintro _ _ ⟨z1,rfl,rfl⟩
   rw[bC]
   walk_at "go"
   have l3:=lA (fun s=>inO o (x,y,s)) x y
   have l4:((p_ (Int.toNat 4)).filter fun s=>inO o (x,y,s)).length=(cellQ (fun s=>inO o (x,y,s)) x y).length:=(a_ ..).symm
   exact⟨by rw[l4,h_];lia,_,by rw[<-i_,r_ (l₁:=_++_)];rfl⟩
  rintro _ ⟨z5,rfl⟩
  rw[bC]
  have e1:ocN o (i + 1)=ocN o i++_:=fC
  exact⟨_,_,_,_,by rw[e1]⟩
 rintro _ ⟨z2,z3,z4,z5,rfl⟩
 rw[bC]
 walk_at "go"
 exact q
end
def oK:FP:=fun ts k=>∃(b o:Bool) (t:Tl) (p:Pt),ts=[tlT b o t,ptP p]/\k (ocT (mkO t.1 t.2.1 p)) ts
section
variable{P:NW}{w:N3}{K:NM}{mg:Str->Option NK}{base:N5}
theorem nu:FnScope ["tool","corner","r","both"] ["tool","corner"] (aA s_mark_of):=⟨rfl,rfl,rfl,by decide +kernel,rfl,by decide +kernel,by decide +kernel⟩
set_option maxHeartbeats 4000000 in
theorem uf{f:NN}{fd:N9}(F:Fun K "mark_of" "mark_of" s_mark_of f fd)(TX:Txt mg)  (G_moved:Cal P w K mg base 2 "moved" ["octo","corner"] (aM K 2 xr)):FnOk P w K mg base CX0 3 f fd ["tool","corner"] (aM K 2 oK):=by
 refine cq F nu [true,true] rfl (fun cdv A outer s H E hr=>?_)
 have sc:=@nu
 refine⟨_,(aj (aC (i:=2) sc.nd (by rfl) (e_ rfl) (by rfl) (aD (az hr (af 0) ge_int))) (aj (aC (i:=3) sc.nd (by rfl) (e_ rfl) (by rfl) (aD (ah au (az hr (af 0) ge_int) (az hr (af 0) ge_int)))) (aq (aQ (aD (ax G_moved hr (by rfl) (ai (aB (ae (hZ (af 2)) (ae (af 2) (ae (hZ (af 2)) (ae (af 2) (ae (hZ (af 3)) (ae (af 3) (ae (hZ (af 3)) (ae (af 3) ag))))))))) (ai (af 1) ay)))))))),fun ts kk hl hp=>?_⟩
 clear hl
 obtain⟨b,o,t,p,rfl,q⟩:=hp
 walk_at "go"
 refine⟨⟨-t.1,t.1,-t.1,t.1,-(t.1 + t.2.1),t.1 + t.2.1,-(t.1 + t.2.1),t.1 + t.2.1⟩,p,rfl,?_⟩
 walk_at "go"
 exact q
end
def ip:FP:=fun ts k=>∃(b o:Bool) (t:Tl),ts=[tlT b o t]/\tlO t/\k (.lst true ((nrQ t).map qtT)) ts
section
variable{P:NW}{w:N3}{K:NM}{mg:Str->Option NK}{base:N5}
theorem gS:FnScope ["tool"] ["tool"] (aA s_near_quarters):=⟨rfl,rfl,rfl,by decide +kernel,rfl,by decide +kernel,by decide +kernel⟩
set_option maxHeartbeats 4000000 in
theorem kY{f:NN}{fd:N9}(F:Fun K "near_quarters" "near_quarters" s_near_quarters f fd)(TX:Txt mg)  (G_quarters_in:Cal P w K mg base 3 "quarters_in" ["octo"] (aM K 1 jh))(G_mark_of:Cal P w K mg base 3 "mark_of" ["tool","corner"] (aM K 2 oK)):FnOk P w K mg base CX0 4 f fd ["tool"] (aM K 1 ip):=by
 refine cq F gS [true] rfl (fun cdv A outer s H E hr=>?_)
 have sc:=@gS
 refine⟨_,(aq (aQ (aD (ax G_quarters_in hr (by rfl) (ai (ax G_mark_of hr (by rfl) (ai (af 0) (ai (aB (ae ge_int (ae ge_int ag))) ay))) ay))))),fun ts kk hl hp=>?_⟩
 clear hl
 obtain⟨b,o,t,rfl,ht,q⟩:=hp
 walk_at "go"
 refine⟨b,false,t,(0,0),rfl,?_⟩
 walk_at "go"
 refine⟨mk0 t,rfl,(zL ht).1,(zL ht).2,?_⟩
 walk_at "go"
 exact q
end
def xj:FP:=fun ts k=>∃(c o b u:Bool) (qs:List Qt),ts=[rgT c o b u qs]/\qs.Nodup/\qs.length < 250000/\k (.dT true (dQ qs)) [rgT c false b false qs]
section
variable{P:NW}{w:N3}{K:NM}{mg:Str->Option NK}{base:N5}
theorem tY:FnScope ["region","there","quarter"] ["region"] (aA s_noted):=⟨rfl,rfl,rfl,by decide +kernel,rfl,by decide +kernel,by decide +kernel⟩
set_option maxHeartbeats 4000000 in
theorem Aw{f:NN}{fd:N9}(F:Fun K "noted" "noted" s_noted f fd)(TX:Txt mg)  :FnOk P w K mg base CX0 1 f fd ["region"] (aM K 1 xj):=by
 refine cq F tY [true] rfl (fun cdv A outer s H E hr=>?_)
 have sc:=@tY
 refine⟨_,(aj (aC (i:=1) sc.nd (by rfl) (e_ rfl) (by rfl) (aD qq)) (aj (cP Od (by rfl) (cI (cC 0)) (av (i:=2) sc.nd (by rfl) (e_ rfl) (by rfl)) (aq (pQ mZ (uh (i:=1) hr (aD (aP fI (by rfl) TX.tuple (by decide +kernel) (ae (af 2) ag))))))) (aq (aQ (iq 1))))),fun ts kk hl hp=>?_⟩
 clear hl
 obtain⟨c,o,b,u,qs,rfl,hd,hl,q⟩:=hp
 walk_at "go"
 refine⟨rfl,bF (fun i env=>∃ z,env=[rgT c false b false qs,.dT true (dQ (qs.take i)),z]) ⟨_,rfl⟩ ?_ ?_⟩
 ·rintro i t _ ⟨z,rfl⟩ ei
  obtain⟨r,e1,rfl⟩:=cx ei
  walk_at "go"
  have hn:=Bm hd e1
  exact⟨by rw[nA,A_];omega,_,by rw[KA,e1,Option.toList_some,<-vt hn];rfl⟩
 rintro _ ⟨z,rfl⟩
 rw[a_,F']
 walk_at "go"
 exact q
end
noncomputable def ir:FP:=fun ts k=>∃(o b u:Bool) (M:List Qt) (q:Qt),ts=[.lst o (M.map qtT),qbT b u q]/\M.length < 100000/\k (.lst true ((srP (abL M q)).map ptP)) ts
section
variable{P:NW}{w:N3}{K:NM}{mg:Str->Option NK}{base:N5}
theorem gJ:FnScope ["near","quarter"] ["near","quarter"] (aA s_corners_about):=⟨rfl,rfl,rfl,by decide +kernel,rfl,by decide +kernel,by decide +kernel⟩
set_option maxHeartbeats 4000000 in
theorem kP{f:NN}{fd:N9}(F:Fun K "corners_about" "corners_about" s_corners_about f fd)(TX:Txt mg)  :FnOk P w K mg base CX0 1 f fd ["near","quarter"] (aM K 2 ir):=by
 refine cq F gJ [true,true] rfl (fun cdv A outer s H E hr=>?_)
 have sc:=@gJ
 have nd1:(["x","y","side","quarter"]:List Str).Nodup:=by decide +kernel
 refine⟨_,(aq (aQ (aD (aK (cE hr rfl) (by rfl) TX.sorted (by decide +kernel) (ae (cF sc ["x","y","side","quarter"] [none,none,none,some 1] nd1 (by decide +kernel) (cI (af 0)) (fun _ _ _=>(fm (n:=3) (by rfl) (aE (av (i:=0) nd1 (by rfl) (e_ rfl) (by rfl) (hf:=(k_ rfl))) (aE (av (i:=1) nd1 (by rfl) (e_ rfl) (by rfl) (hf:=(k_ rfl))) (aE (av (i:=2) nd1 (by rfl) (e_ rfl) (by rfl) (hf:=(k_ rfl))) dE))))) (fun _ _ _=>(mh (br (cJ hr) (af 2) (az hr (af 3) ge_int) (aL _)))) (fun _ _ _=>(aB (ae (ah aS (az hr (af 3) ge_int) (af 0)) (ae (ah aS (az hr (af 3) ge_int) (af 1)) ag))))) ag))))),fun ts kk hl hp=>?_⟩
 clear hl
 obtain⟨o,b,u,M,q',rfl,hl,q⟩:=hp
 walk_at "go"
 refine aW (by rw[a_,sizeLine_eq];omega) (fun i acc ie=>∃ z1 z2 z3,acc=(abL (M.take i) q').map ptP/\ie=[z1,z2,z3,qbT b false q']) ⟨_,_,_,rfl,rfl⟩ ?_ ?_
 ·rintro i t _ _ ⟨z1,z2,z3,rfl,rfl⟩ ei
  obtain⟨m,em,rfl⟩:=cx ei
  walk_at "go"
  rw[t5 em,r_]
  refine aN (fun h=>?_) (fun h=>?_)
  ·walk_at "go"
   exact⟨_,_,_,by rw[if_pos h];rfl,rfl⟩
  walk_at "go"
  exact⟨_,_,_,by rw[if_neg h];exact(JO _).symm,rfl⟩
 rintro _ _ ⟨z1,z2,z3,rfl,rfl⟩
 rw[a_,F']
 walk_at "go"
 refine m9 false ((abL M q').map xW) (by rw[DQ]) (wF _) ?_
 rw[tD]
 walk_at "go"
 exact q
end
def ik:FP:=fun ts k=>∃(o u:Bool) (M rs:List Qt) (p:Pt),ts=[.lst o (M.map qtT),ptP p,.dT u (dQ rs)]/\k (oqT (fsQ p rs M)) [.lst false (M.map qtT),ptP p,.dT u (dQ rs)]
section
variable{P:NW}{w:N3}{K:NM}{mg:Str->Option NK}{base:N5}
theorem hG:FnScope ["near","corner","there","x","y","side","laid"] ["near","corner","there"] (aA s_first_missing):=⟨rfl,rfl,rfl,by decide +kernel,rfl,by decide +kernel,by decide +kernel⟩
set_option maxHeartbeats 4000000 in
theorem lE{f:NN}{fd:N9}(F:Fun K "first_missing" "first_missing" s_first_missing f fd)(TX:Txt mg)  :FnOk P w K mg base CX0 1 f fd ["near","corner","there"] (aM K 3 ik):=by
 refine cq F hG [true,true,true] rfl (fun cdv A outer s H E hr=>?_)
 have sc:=@hG
 refine⟨_,(aj (cP Od (by rfl) (cI (cC 0)) (fm (n:=3) (by rfl) (aE (av (i:=3) sc.nd (by rfl) (e_ rfl) (by rfl)) (aE (av (i:=4) sc.nd (by rfl) (e_ rfl) (by rfl)) (aE (av (i:=5) sc.nd (by rfl) (e_ rfl) (by rfl)) dE)))) (aj (aC (i:=6) sc.nd (by rfl) (e_ rfl) (by rfl) (aD (aB (ae (ah au (az hr (af 1) ge_int) (af 3)) (ae (ah au (az hr (af 1) ge_int) (af 4)) (ae (af 5) ag)))))) (aq (d5 (gp (br (wM hr) (af 6) (af 2) (by with_unfolding_all rfl))) (aq (aQ (iq 6))) b6)))) (aq (aQ i8))),fun ts kk hl hp=>?_⟩
 clear hl
 obtain⟨o,u,M,rs,p,rfl,q⟩:=hp
 walk_at "go"
 refine bF (fun i env=>∃ z3 z4 z5 z6,fsQ p rs (M.drop i)=fsQ p rs M/\env=[.lst false (M.map qtT),ptP p,.dT u (dQ rs),z3,z4,z5,z6]) ⟨_,_,_,_,rfl,rfl⟩ ?_ ?_
 ·rintro i t _ ⟨z3,z4,z5,z6,ew,rfl⟩ ei
  obtain⟨m,em,rfl⟩:=cx ei
  rw[iX em,fsQ]at ew
  walk_at "go"
  rw[show(je (dQ rs) [Pe (p.1 + m.1),Pe (p.2 + m.2.1),Pe (m.2.2:Int)]).isSome=decide (mvQ p m∈rs)from v7 (q:=mvQ p m)]
  refine aN (fun h=>?_) (fun h=>?_)
  ·walk_at "go"
   rw[if_pos h]at ew
   exact⟨_,_,_,_,ew,rfl⟩
  walk_at "go"
  rw[if_neg h]at ew
  rw[<-ew]at q
  exact q
 rintro _ ⟨z3,z4,z5,z6,ew,rfl⟩
 rw[a_,KR]at ew
 rw[<-ew]at q
 walk_at "go"
 exact q
end
noncomputable def n0:FP:=fun ts k=>∃(c o b u c2 o2 b2 u2 b3 u3:Bool) (rs:List Qt) (tl:List Tl) (q:Qt),ts=[rgT c o b u rs,tgT c2 o2 b2 u2 tl,qbT b3 u3 q]/\rs.Nodup/\rs.length < 250000/\tl.length < 100/\(∀ t∈tl,tlO t)/\∀ z1 z2 z3,k (wyT (wyN rs q 0 (tl.map nrQ))) [z1,z2,z3]
section
variable{P:NW}{w:N3}{K:NM}{mg:Str->Option NK}{base:N5}
theorem lM:FnScope ["region","tools","quarter","there","rows","number","tool","near","corner","missing"] ["region","tools","quarter"] (aA s_why_left):=⟨rfl,rfl,rfl,by decide +kernel,rfl,by decide +kernel,by decide +kernel⟩
set_option maxHeartbeats 4000000 in
theorem rD{f:NN}{fd:N9}(F:Fun K "why_left" "why_left" s_why_left f fd)(TX:Txt mg)  (G_near_quarters:Cal P w K mg base 4 "near_quarters" ["tool"] (aM K 1 ip))(G_noted:Cal P w K mg base 1 "noted" ["region"] (aM K 1 xj))(G_corners_about:Cal P w K mg base 1 "corners_about" ["near","quarter"] (aM K 2 ir))(G_first_missing:Cal P w K mg base 1 "first_missing" ["near","corner","there"] (aM K 3 ik)):FnOk P w K mg base CX0 5 f fd ["region","tools","quarter"] (aM K 3 n0):=by
 refine cq F lM [true,true,true] rfl (fun cdv A outer s H E hr=>?_)
 have sc:=@lM
 refine⟨_,(aj (aC (i:=3) sc.nd (by rfl) (e_ rfl) (by rfl) (aD (ax G_noted hr (by rfl) (ai (af 0) ay)))) (aj (aC (i:=4) sc.nd (by rfl) (e_ rfl) (by rfl) (aD (aT ag))) (aj (cP Od (by rfl) (mn (by rfl) TX.enumerate (ae (cC 1) ag)) (fm (n:=2) (by rfl) (aE (av (i:=5) sc.nd (by rfl) (e_ rfl) (by rfl)) (aE (av (i:=6) sc.nd (by rfl) (e_ rfl) (by rfl)) dE))) (aj (aC (i:=7) sc.nd (by rfl) (e_ rfl) (by rfl) (aD (ax G_near_quarters hr (by rfl) (ai (af 6) ay)))) (aq (cP Od (by rfl) (cI (aD (ax G_corners_about hr (by rfl) (ai (af 7) (ai (af 2) ay))))) (av (i:=8) sc.nd (by rfl) (e_ rfl) (by rfl)) (aj (aC (i:=9) sc.nd (by rfl) (e_ rfl) (by rfl) (aD (ax G_first_missing hr (by rfl) (ai (af 7) (ai (af 8) (ai (af 3) ay)))))) (aj (d5 (gp (br wm (af 9) i8 (aL _))) (aq (aQ i8)) b6) (aq (eX (iR 4 O2 O3 gj (ae (aD (aB (ae (af 5) (ae (af 8) (ae (af 9) ag))))) ag)))))))))) (aq (aQ (iq 4)))))),fun ts kk hl hp=>?_⟩
 clear hl
 obtain⟨c,o,b,u,c2,o2,b2,u2,b3,u3,rs,tl,q',rfl,hd,hl,ht,ho,q⟩:=hp
 walk_at "go"
 refine⟨c,false,b,false,rs,rfl,hd,hl,?_⟩
 walk_at "go"
 refine bF (fun i env=>∃(a:List Rw) (z5 z6 z7 z8 z9:T),(wyN rs q' i ((tl.map nrQ).drop i)).map (a++·)=wyN rs q' 0 (tl.map nrQ)/\a.length<=10000 * i/\env=[rgT c o b u rs,tgT c2 false b2 false tl,qbT b3 u3 q',.dT true (dQ rs),.lst true (a.map o6),z5,z6,z7,z8,z9]) ⟨[],_,_,_,_,_,?_,z_ _,rfl⟩ ?_ ?_
 ·rw[KN]
  cases wyN rs q' 0 (tl.map nrQ) <;> rfl
 ·rintro i t _ ⟨a,z5,z6,z7,z8,z9,ew,la,rfl⟩ ei
  obtain⟨t,et,rfl⟩:=mf rfl ei
  have hi:i < tl.length:=(f_.mp et).1
  have hto:=ho t (JY et)
  have ln:=ql hto
  rw[iX (show(tl.map nrQ)[i]?=some (nrQ t) by rw[s_,et];rfl),wyN]at ew
  generalize (tl.map nrQ).drop (i + 1)=Ms at *
  walk_at "go"
  refine⟨b2,false,t,rfl,hto,?_⟩
  generalize nrQ t=M at *
  walk_at "go"
  refine⟨false,b3,false,M,q',rfl,by lia,?_⟩
  have lc:=qD (abL M q')
  have lb:=pR M q'
  generalize srP (abL M q')=cs at *
  walk_at "go"
  refine bF (fun j env=>∃(a':List Rw) (z8 z9:T),((wyC M rs i (cs.drop j)).bind fun b=>(wyN rs q' (i + 1) Ms).map (b++·)).map (a'++·)=wyN rs q' 0 (tl.map nrQ)/\a'.length<=10000 * i + j/\env=[rgT c o b u rs,tgT c2 false b2 false tl,qbT b3 u3 q',.dT true (dQ rs),.lst true (a'.map o6),.int (i:Int),tlT b2 false t,.lst true (M.map qtT),z8,z9]) ⟨a,_,_,ew,by omega,rfl⟩ ?_ ?_
  ·rintro j t' _ ⟨a',z8,z9,ew',la',rfl⟩ ej
   obtain⟨p,ep,rfl⟩:=cx ej
   have hj:j < cs.length:=(f_.mp ep).1
   rw[iX ep,wyC]at ew'
   walk_at "go"
   refine⟨false,false,M,rs,p,rfl,?_⟩
   cases e:fsQ p rs M with
   | none=>
    rw[e]at ew'
    have ew':none=wyN rs q' 0 (tl.map nrQ):=ew'
    rw[<-ew']at q
    show(_:Prop)
    dsimp only[oqT]
    walk_at "go"
    exact q _ _ _
   | some z=>
    rw[e]at ew'
    dsimp only[oqT]
    walk_at "go"
    refine⟨by lia,a'++[(i,p,z)],_,_,?_,by rw[h_];show a'.length + 1<=_;lia,by rw[r_];rfl⟩
    rw[<-ew']
    exact vR
  rintro _ ⟨a',z8,z9,ew',la',rfl⟩
  rw[a_,KR,wyC]at ew'
  rw[a_]at la'
  exact⟨a',_,_,_,_,_,by rw[<-ew'];cases wyN rs q' (i + 1) Ms <;> rfl,by lia,rfl⟩
 rintro _ ⟨a,z5,z6,z7,z8,z9,ew,la,rfl⟩
 rw[jP rfl,<-a_ (f:=nrQ),KR]at ew
 have ew:some (a++[])=wyN rs q' 0 (tl.map nrQ):=ew
 rw[<-ew,JO]at q
 walk_at "go"
 exact q _ _ _
end
noncomputable def oG:FP:=fun ts k=>∃(o:Bool) (ps:List Pt) (sp:Pt),ts=[.lst o (ps.map ptP),ptP sp]/\0 < ps.length/\ps.length < 1000/\(∀ p∈ps,sm p)/\∀ n:Int,k (.int n) [.lst false (ps.map ptP),ptP sp]
section
variable{P:NW}{w:N3}{K:NM}{mg:Str->Option NK}{base:N5}
theorem mR:FnScope ["_law_corners","_law_spot","_law_many","_law_k","_law_corner","_law_ahead","_law_low","_law_high","_law_slope","_law_start"] ["_law_corners","_law_spot"] (aA s_crossed):=⟨rfl,rfl,rfl,by decide +kernel,rfl,by decide +kernel,by decide +kernel⟩
set_option maxHeartbeats 4000000 in
theorem uv{f:NN}{fd:N9}(F:Fun K "_law_crossed" "_law_crossed" s_crossed f fd)(TX:Txt mg)  :FnOk P w K mg base CX0 1 f fd ["_law_corners","_law_spot"] (aM K 2 oG):=by
 refine cq F mR [true,true] rfl (fun cdv A outer s H E hr=>?_)
 have sc:=@mR
 refine⟨_,(aj (aC (i:=2) sc.nd (by rfl) (e_ rfl) (by rfl) ge_int) (aj (cP Od (by rfl) (mn (by rfl) TX.enumerate (ae (cC 0) ag)) (fm (n:=2) (by rfl) (aE (av (i:=3) sc.nd (by rfl) (e_ rfl) (by rfl)) (aE (av (i:=4) sc.nd (by rfl) (e_ rfl) (by rfl)) dE))) (aj (aC (i:=5) sc.nd (by rfl) (e_ rfl) (by rfl) (aD (az hr (af 0) (ah aS (af 3) ge_int)))) (aj (n9 (i:=6) (j:=7) (by rfl) sc.nd (by rfl) (by rfl) (by decide) (by rfl) (by rfl) (by rfl) (by rfl) (ae (aD (ah bA (aK (fx rfl) (by rfl) TX.min (by decide +kernel) (ae (az hr (af 5) ge_int) (ae (az hr (af 4) ge_int) ag))) ge_int)) (ae (aD (ah bA (aK (g9 rfl) (by rfl) TX.max (by decide +kernel) (ae (az hr (af 5) ge_int) (ae (az hr (af 4) ge_int) ag))) ge_int)) ag)) (by rfl)) (aq (d5 (gp (yU Ay fS (af 6) (az hr (af 1) ge_int) (af 7))) (aj (aC (i:=8) sc.nd (by rfl) (e_ rfl) (by rfl) (aD (ah iU (ah aS (az hr (af 4) ge_int) (az hr (af 5) ge_int)) (aK (g9 rfl) (by rfl) TX.max (by decide +kernel) (ae ge_int (ae (aK kG (by rfl) TX.abs (by decide +kernel) (ae (ah aS (az hr (af 4) ge_int) (az hr (af 5) ge_int)) ag)) ag)))))) (bc (d5 (gp (br fS (az hr (af 4) ge_int) (az hr (af 5) ge_int) (aL _))) (aq (aC (i:=8) sc.nd (by rfl) (e_ rfl) (by rfl) (aD (hZ (af 8))))) b6) (aj (aC (i:=9) sc.nd (by rfl) (e_ rfl) (by rfl) (aD (ah bA ge_int (az hr (aT (ae (az hr (af 5) ge_int) (ae (az hr (af 4) ge_int) ag))) (aP fw (by rfl) TX.int (by decide +kernel) (ae (gE fS (az hr (af 4) ge_int) (az hr (af 5) ge_int) (aL _)) ag)))))) (aq (aC (i:=2) sc.nd (by rfl) (e_ rfl) (by rfl) (aD (ah au (af 2) (aP fw (by rfl) TX.int (by decide +kernel) (ae (gE uW (ah au (af 9) (ah bA (af 8) (ah aS (az hr (af 1) ge_int) (af 6)))) (az hr (af 1) ge_int) (aL _)) ag))))))))) b6))))) (aq (aQ (iq 2))))),fun ts kk hl hp=>?_⟩
 clear hl
 obtain⟨o,ps,sp,rfl,h0,h1,hs,q⟩:=hp
 walk_at "go"
 refine bF (fun i env=>∃(n:Int) (z3 z4 z5 z6 z7 z8 z9:T),env=[.lst false (ps.map ptP),ptP sp,.int n,z3,z4,z5,z6,z7,z8,z9]) ⟨_,_,_,_,_,_,_,_,rfl⟩ ?_ ?_
 ·rintro i t _ ⟨n,z3,z4,z5,z6,z7,z8,z9,rfl⟩ ei
  obtain⟨p,ep,rfl⟩:=mf rfl ei
  have hi:i < ps.length:=(f_.mp ep).1
  have sp1:=hs p (JY ep)
  walk_at "go"
  refine bz (sD (g:=ptP) (l:=ps) hi (0,0)) ?_
  have sp2:=hs (ps.getD (jU ps.length i) (0,0)) (by
   rw[JU]
   have hj:jU ps.length i < ps.length:=by unfold jU;split <;> omega
   rw[b_ hj]
   exact Kc hj)
  generalize ps.getD (jU ps.length i) (0,0)=a at *
  walk_at "go"
  refine⟨.inr ⟨by decide,by decide⟩,.inr ⟨by decide,by decide⟩,aN (fun g1=>?_) (fun g1=>?_)⟩
  ·walk_at "go"
   refine aN (fun g2=>?_) (fun g2=>?_)
   ·walk_at "go"
    obtain⟨s11,s12,s13,s14⟩:=sp1
    obtain⟨s21,s22,s23,s24⟩:=sp2
    refine⟨⟨by omega,by lia⟩,?_⟩
    have sg:=Hx (p.1 - a.1)
    generalize (p.1 - a.1) / max 1 ((p.1 - a.1).natAbs:Int)=σ at *
    refine cv (fun env=>∃ σ:Int,-1<=σ/\σ<=1/\env=[T.lst false (JS ptP ps),ptP sp,T.int n,T.int (i:Int),ptP p,ptP a,T.int (min a.2 p.2 * 8),T.int (max a.2 p.2 * 8),T.int σ,z9]) ?_ ?_
    ·walk_at "go"
     refine aN (fun g=>?_) (fun g=>?_)
     ·walk_at "go"
      exact⟨-σ,by lia,by lia,rfl⟩
     walk_at "go"
     exact⟨σ,by lia,by lia,rfl⟩
    rintro _ ⟨σ,g3,g4,rfl⟩
    walk_at "go"
    refine bz Ij ?_
    walk_at "go"
    exact⟨.inl ⟨by decide,by decide⟩,.inl ⟨by lia,by lia⟩,_,_,_,_,_,_,_,_,rfl⟩
   walk_at "go"
   exact⟨_,_,_,_,_,_,_,_,rfl⟩
  walk_at "go"
  exact⟨_,_,_,_,_,_,_,_,rfl⟩
 rintro _ ⟨n,z3,z4,z5,z6,z7,z8,z9,rfl⟩
 walk_at "go"
 exact q _
end
noncomputable def sO:FP:=fun ts k=>∃(o:Bool) (ps:List Pt),ts=[.lst o (ps.map ptP)]/\0 < ps.length/\ps.length < 1000/\bdL 120 ps/\∀(qs:List Qt) (z:T),upQ qs->(∀ q∈qs,okQ q)->qs.length<=230400->k (.dT true (dQ qs)) [z]
section
variable{P:NW}{w:N3}{K:NM}{mg:Str->Option NK}{base:N5}
theorem pj:FnScope ["_law_corners","_law_found","_law_xs","_law_ys","_law_x","_law_y","_law_side","_law_spot"] ["_law_corners"] (aA s_inside):=⟨rfl,rfl,rfl,by decide +kernel,rfl,by decide +kernel,by decide +kernel⟩
set_option maxHeartbeats 4000000 in
theorem yM{f:NN}{fd:N9}(F:Fun K "_law_inside" "_law_inside" s_inside f fd)(TX:Txt mg)  (G_crossed:Cal P w K mg base 1 "_law_crossed" ["_law_corners","_law_spot"] (aM K 2 oG)):FnOk P w K mg base CX0 2 f fd ["_law_corners"] (aM K 1 sO):=by
 refine cq F pj [true] rfl (fun cdv A outer s H E hr=>?_)
 have sc:=@pj
 have nd1:(["_law_corner"]:List Str).Nodup:=by decide +kernel
 have nd2:(["_law_corner"]:List Str).Nodup:=by decide +kernel
 refine⟨_,(aj (aC (i:=1) sc.nd (by rfl) (e_ rfl) (by rfl) (aD qq)) (aj (nz sc (i:=2) ["_law_corner"] [none] nd1 (by decide +kernel) (by rfl) (e_ rfl) (by rfl) (cI (af 0)) (fun _ _ _=>(av (i:=0) nd1 (by rfl) (e_ rfl) (by rfl) (hf:=(k_ rfl)))) (fun _ _ _=>cA) (fun _ _ _=>(az hr (af 0) ge_int)) (by rfl)) (aj (nz sc (i:=3) ["_law_corner"] [none] nd2 (by decide +kernel) (by rfl) (e_ rfl) (by rfl) (cI (af 0)) (fun _ _ _=>(av (i:=0) nd2 (by rfl) (e_ rfl) (by rfl) (hf:=(k_ rfl)))) (fun _ _ _=>cA) (fun _ _ _=>(az hr (af 0) ge_int)) (by rfl)) (aj (cP Od (by rfl) (fZ (by rfl) TX.range (ae (aD (aK (fx rfl) (by rfl) TX.min (by decide +kernel) (ae (af 2) ag))) (ae (aD (aK (g9 rfl) (by rfl) TX.max (by decide +kernel) (ae (af 2) ag))) ag))) (av (i:=4) sc.nd (by rfl) (e_ rfl) (by rfl)) (aq (cP Od (by rfl) (fZ (by rfl) TX.range (ae (aD (aK (fx rfl) (by rfl) TX.min (by decide +kernel) (ae (af 3) ag))) (ae (aD (aK (g9 rfl) (by rfl) TX.max (by decide +kernel) (ae (af 3) ag))) ag))) (av (i:=5) sc.nd (by rfl) (e_ rfl) (by rfl)) (aq (cP Od (by rfl) (eM (by rfl) TX.range (ae ge_int ag)) (av (i:=6) sc.nd (by rfl) (e_ rfl) (by rfl)) (aj (aC (i:=7) sc.nd (by rfl) (e_ rfl) (by rfl) (aD (aB (ae (ah au (ah bA ge_int (af 4)) (az hr (aT (ae ge_int (ae ge_int (ae ge_int (ae ge_int ag))))) (af 6))) (ae (ah au (ah bA ge_int (af 5)) (az hr (aT (ae ge_int (ae ge_int (ae ge_int (ae ge_int ag))))) (af 6))) ag))))) (aq (d5 (gp (br (cJ hr) (ah Df (ax G_crossed hr (by rfl) (ai (af 0) (ai (af 7) ay))) ge_int) ge_int (aL _))) (aq (pQ mZ (uh (i:=1) hr (aD (aB (ae (af 4) (ae (af 5) (ae (af 6) ag)))))))) b6)))))))) (aq (aQ (iq 1))))))),fun ts kk hl hp=>?_⟩
 clear hl
 obtain⟨o,ps,rfl,h0,h1,hb,q⟩:=hp
 have hne:∀ f:Pt->Int,ps.map f≠[]:=fun f z=>by rw[L4]at z;rw[z]at h0;exact absurd h0 (by decide)
 walk_at "go"
 refine⟨rfl,aW (by rw[a_,sizeLine_eq];lia) (fun i acc ie=>∃ z1,acc=(ps.take i).map (fun p=>T.int p.1)/\ie=[z1]) ⟨_,rfl,rfl⟩ ?_ ?_⟩
 ·rintro i t _ _ ⟨z1,rfl,rfl⟩ ei
  obtain⟨l,el,rfl⟩:=cx ei
  walk_at "go"
  exact⟨_,by rw[map_take el],rfl⟩
 rintro _ _ ⟨z1,rfl,rfl⟩
 rw[a_,F']
 walk_at "go"
 refine aW (by rw[a_,sizeLine_eq];lia) (fun i acc ie=>∃ z1,acc=(ps.take i).map (fun p=>T.int p.2)/\ie=[z1]) ⟨_,rfl,rfl⟩ ?_ ?_
 ·rintro i t _ _ ⟨z1,rfl,rfl⟩ ei
  obtain⟨l,el,rfl⟩:=cx ei
  walk_at "go"
  exact⟨_,by rw[map_take el],rfl⟩
 rintro _ _ ⟨z1,rfl,rfl⟩
 rw[a_,F']
 walk_at "go"
 refine⟨hne _,fun x0 hx0=>⟨hne _,fun x1 hx1=>?_⟩⟩
 obtain⟨y0,hy0⟩:=qG (l:=ps.map (·.2)) (by rw[a_];omega)
 obtain⟨y1,hy1⟩:=Cv (l:=ps.map (·.2)) (by rw[a_];omega)
 have bb:=Gh hb hx0 hx1 hy0 hy1
 have hs:∀ p∈ps,sm p:=fun p m=>by
  obtain⟨⟨g1,g2⟩,g3,g4⟩:=fG hb m
  exact⟨by lia,by lia,by lia,by lia⟩
 refine⟨by omega,bF (fun i env=>∃(qs:List Qt) (z4 z5 z6 z7:T),upQ qs/\(∀ q∈qs,okQ q/\q.1 < x0 + i)/\qs.length<=960 * i/\env=[.lst o (ps.map ptP),.dT true (dQ qs),.lst true (ps.map fun p=>T.int p.1),.lst true (ps.map fun p=>T.int p.2),z4,z5,z6,z7]) ⟨[],_,_,_,_,.nil,(fun q m=>by cases m),z_ _,rfl⟩ ?_ ?_⟩
 ·rintro i t _ ⟨qs,z4,z5,z6,z7,u1,u2,u3,rfl⟩ ei
  have hi:=eK ei
  have et:=i7 ei
  subst et
  walk_at "go"
  refine⟨hne _,fun y0' hy0'=>?_⟩
  cases Di hy0 hy0'
  refine⟨hne _,fun y1' hy1'=>?_⟩
  cases Cf hy1 hy1'
  clear hy0' hy1'
  refine⟨by omega,bF (fun j env=>∃(qs:List Qt) (z5 z6 z7:T),upQ qs/\(∀ q∈qs,okQ q/\(q.1 < x0 + i\/q.1=x0 + i/\q.2.1 < y0 + j))/\qs.length<=960 * i + 4 * j/\env=[.lst o (ps.map ptP),.dT true (dQ qs),.lst true (ps.map fun p=>T.int p.1),.lst true (ps.map fun p=>T.int p.2),.int (x0 + i),z5,z6,z7]) ⟨qs,_,_,_,u1,fun q m=>⟨(u2 q m).1,.inl (u2 q m).2⟩,u3,rfl⟩ ?_ ?_⟩
  ·clear u1 u2 u3 qs
   rintro j t _ ⟨qs,z5,z6,z7,u1,u2,u3,rfl⟩ ej
   have hj:=eK ej
   have et:=i7 ej
   subst et
   walk_at "go"
   refine⟨by decide,bF (fun s env=>∃(qs:List Qt) (z6 z7:T),upQ qs/\(∀ q∈qs,okQ q/\(q.1 < x0 + i\/q.1=x0 + i/\(q.2.1 < y0 + j\/q.2.1=y0 + j/\q.2.2 < s)))/\qs.length<=960 * i + 4 * j + s/\env=[.lst o (ps.map ptP),.dT true (dQ qs),.lst true (ps.map fun p=>T.int p.1),.lst true (ps.map fun p=>T.int p.2),.int (x0 + i),.int (y0 + j),z6,z7]) ⟨qs,_,_,u1,fun q m=>⟨(u2 q m).1,by have:=(u2 q m).2;lia⟩,u3,rfl⟩ ?_ ?_⟩
   ·clear u1 u2 u3 qs
    rintro s t _ ⟨qs,z6,z7,u1,u2,u3,rfl⟩ es
    have hs4:s < 4:=eK es
    have et:=i7 es
    subst et
    rw[LY]
    obtain⟨⟨v1,e1⟩,v2,e2⟩:=Bz hs4
    walk_at "go"
    refine⟨.inl ⟨by decide,by decide⟩,bz e1 ?_⟩
    walk_at "go"
    refine⟨.inl ⟨by decide,by decide⟩,bz e2 ?_⟩
    walk_at "go"
    refine⟨false,ps,(8 * (x0 + i) + v1,8 * (y0 + j) + v2),rfl,h0,h1,hs,fun n=>?_⟩
    walk_at "go"
    refine⟨by decide,aN (fun h=>?_) (fun h=>?_)⟩
    ·walk_at "go"
     have gn:∀ r∈qs,ltQ r (x0 + i,y0 + j,s):=fun r m=>by
      have:=(u2 r m).2
      unfold ltQ
      dsimp only
      omega
     refine⟨by rw[nA];lia,qs++[(x0 + i,y0 + j,s)],_,_,CD u1 gn,Dz u2 (fun r g=>⟨g.1,by have:=g.2;lia⟩) ⟨⟨⟨by dsimp only;lia,by dsimp only;omega⟩,⟨by dsimp only;lia,by dsimp only;omega⟩,hs4⟩,by dsimp only;lia⟩,by rw[h_];show qs.length + 1<=_;lia,by rw[<-vt (Ha gn)];rfl⟩
    walk_at "go"
    exact⟨qs,_,_,u1,fun r m=>⟨(u2 r m).1,by have:=(u2 r m).2;lia⟩,by lia,rfl⟩
   clear u1 u2 u3 qs
   rintro _ ⟨qs,z6,z7,u1,u2,u3,rfl⟩
   have u3:qs.length<=960 * i + 4 * j + 4:=u3
   exact⟨qs,_,_,_,u1,fun r m=>⟨(u2 r m).1,by have:=(u2 r m).2;lia⟩,by omega,rfl⟩
  clear u1 u2 u3 qs
  rintro _ ⟨qs,z5,z6,z7,u1,u2,u3,rfl⟩
  rw[bC]at u3
  exact⟨qs,_,_,_,_,u1,fun r m=>⟨(u2 r m).1,by have:=(u2 r m).2;lia⟩,by lia,rfl⟩
 rintro _ ⟨qs,z4,z5,z6,z7,u1,u2,u3,rfl⟩
 rw[bC]at u3
 walk_at "go"
 exact q qs _ u1 (fun r m=>(u2 r m).1) (by lia)
end
noncomputable def yO:FP:=fun ts k=>∃ x y w h,∃(o:Bool),∃ a b c d,ts=[.int x,.int y,.int w,.int h,.lst o [.int a,.int b,.int c,.int d]]/\k (.lst true ((lX x y w h a b c d).map ptP)) [.int x,.int y,.int w,.int h,.lst false [.int a,.int b,.int c,.int d]]
section
variable{P:NW}{w:N3}{K:NM}{mg:Str->Option NK}{base:N5}
theorem zQ:FnScope ["_law_x","_law_y","_law_wide","_law_high","_law_cuts","_law_a","_law_b","_law_c","_law_d","_law_corners"] ["_law_x","_law_y","_law_wide","_law_high","_law_cuts"] (aA s_box):=⟨rfl,rfl,rfl,by decide +kernel,rfl,by decide +kernel,by decide +kernel⟩
set_option maxHeartbeats 4000000 in
theorem Gw{f:NN}{fd:N9}(F:Fun K "_law_box" "_law_box" s_box f fd)(TX:Txt mg)  :FnOk P w K mg base CX0 1 f fd ["_law_x","_law_y","_law_wide","_law_high","_law_cuts"] (aM K 5 yO):=by
 refine cq F zQ [true,true,true,true,true] rfl (fun cdv A outer s H E hr=>?_)
 have sc:=@zQ
 have nd1:(["_law_k","_law_corner","_law_corners"]:List Str).Nodup:=by decide +kernel
 refine⟨_,(aj (pQ (cC 4) (vW (n:=4) (by rfl) (aE (av (i:=5) sc.nd (by rfl) (e_ rfl) (by rfl)) (aE (av (i:=6) sc.nd (by rfl) (e_ rfl) (by rfl)) (aE (av (i:=7) sc.nd (by rfl) (e_ rfl) (by rfl)) (aE (av (i:=8) sc.nd (by rfl) (e_ rfl) (by rfl)) dE)))))) (aj (aC (i:=9) sc.nd (by rfl) (k_ rfl) (by rfl) (aD (aT (ae (aB (ae (ah au (af 0) (af 5)) (ae (af 1) ag))) (ae (aB (ae (ah aS (ah au (af 0) (af 2)) (af 6)) (ae (af 1) ag))) (ae (aB (ae (ah au (af 0) (af 2)) (ae (ah au (af 1) (af 6)) ag))) (ae (aB (ae (ah au (af 0) (af 2)) (ae (ah aS (ah au (af 1) (af 3)) (af 7)) ag))) (ae (aB (ae (ah aS (ah au (af 0) (af 2)) (af 7)) (ae (ah au (af 1) (af 3)) ag))) ag)))))))) (aj (aC (i:=9) sc.nd (by rfl) (k_ rfl) (by rfl) (aD (ah au (af 9) (aT (ae (aB (ae (ah au (af 0) (af 8)) (ae (ah au (af 1) (af 3)) ag))) (ae (aB (ae (af 0) (ae (ah aS (ah au (af 1) (af 3)) (af 8)) ag))) (ae (aB (ae (af 0) (ae (ah au (af 1) (af 5)) ag))) ag))))))) (aq (aQ (aD (cF sc ["_law_k","_law_corner","_law_corners"] [none,none,some 9] nd1 (by decide +kernel) (mn (by rfl) TX.enumerate (ae (af 9) ag)) (fun _ _ _=>(vW (n:=2) (by rfl) (aE (av (i:=0) nd1 (by rfl) (e_ rfl) (by rfl) (hf:=(k_ rfl))) (aE (av (i:=1) nd1 (by rfl) (e_ rfl) (by rfl) (hf:=(k_ rfl))) dE)))) (fun _ _ _=>(mh (br (qg hr) (af 1) (az hr (af 2) (ah aS (af 0) ge_int)) (aL _)))) (fun _ _ _=>(af 1))))))))),fun ts kk hl hp=>?_⟩
 clear hl
 obtain⟨x,y,w,h,o,a,b,c,d,rfl,q⟩:=hp
 walk_at "go"
 have el:[T.tup [T.int (x + a),T.int y],T.tup [T.int (x + w - b),T.int y],T.tup [T.int (x + w),T.int (y + b)],T.tup [T.int (x + w),T.int (y + h - c)],T.tup [T.int (x + w - c),T.int (y + h)],T.tup [T.int (x + d),T.int (y + h)],T.tup [T.int x,T.int (y + h - d)],T.tup [T.int x,T.int (y + a)]]=(ra x y w h a b c d).map ptP:=rfl
 rw[el]
 have hl:8=(ra x y w h a b c d).length:=rfl
 have hp:(ra x y w h a b c d).getD ((ra x y w h a b c d).length - 1) (0,0)=(x,y + a):=rfl
 unfold lX at q
 generalize ra x y w h a b c d=ps at *
 generalize (x,y + a)=p at *
 refine aW (by rw[jP hl,<-hl];decide) (fun i acc ie=>∃ z1 z2,acc=(ddl p (ps.take i)).map ptP/\ie=[z1,z2,.lst false (ps.map ptP)]) ⟨_,_,rfl,rfl⟩ ?_ ?_
 ·rintro i u _ _ ⟨z1,z2,rfl,rfl⟩ eu
  obtain⟨c,ec,rfl⟩:=mf hl eu
  have hi:i < ps.length:=(f_.mp ec).1
  walk_at "go"
  refine bz (sD (g:=ptP) (l:=ps) hi (0,0)) ?_
  walk_at "go"
  rw[Ae hp ec]
  refine aN (fun h=>?_) (fun h=>?_)
  ·walk_at "go"
   rw[if_neg h]
   exact⟨_,_,by rw[r_];rfl,rfl⟩
  walk_at "go"
  rw[if_pos (Vm h),JO]
  exact⟨_,_,rfl,rfl⟩
 rintro _ _ ⟨z1,z2,rfl,rfl⟩
 rw[jP hl,F']
 walk_at "go"
 exact q
end
noncomputable def rL:FP:=fun ts k=>∃ x y w h m,ts=[.int x,.int y,.int w,.int h,.int m]/\bd 50 x/\bd 50 y/\5<=w/\w<=30/\5<=h/\h<=30/\∀(ps:List Pt),0 < ps.length->ps.length<=12->bdL 110 ps->k (.lst true (ps.map ptP)) ts
section
variable{P:NW}{w:N3}{K:NM}{mg:Str->Option NK}{base:N5}
theorem pq:FnScope ["_law_x","_law_y","_law_wide","_law_high","_law_way","_law_u","_law_v","_law_rows","_law_p","_law_q"] ["_law_x","_law_y","_law_wide","_law_high","_law_way"] (aA s_angled):=⟨rfl,rfl,rfl,by decide +kernel,rfl,by decide +kernel,by decide +kernel⟩
set_option maxHeartbeats 4000000 in
theorem yF{f:NN}{fd:N9}(F:Fun K "_law_angled" "_law_angled" s_angled f fd)(TX:Txt mg)  :FnOk P w K mg base CX0 1 f fd ["_law_x","_law_y","_law_wide","_law_high","_law_way"] (aM K 5 rL):=by
 refine cq F pq [true,true,true,true,true] rfl (fun cdv A outer s H E hr=>?_)
 have sc:=@pq
 have nd1:(["_law_one","_law_other","_law_y","_law_x"]:List Str).Nodup:=by decide +kernel
 refine⟨_,(aj (n9 (i:=5) (j:=6) (by rfl) sc.nd (by rfl) (by rfl) (by decide) (by rfl) (by rfl) (by rfl) (by rfl) (ae (aD (ah au ge_int (ah iU (af 2) ge_int))) (ae (aD (ah au ge_int (ah iU (af 3) ge_int))) ag)) (by rfl)) (bc (d5 (gp (br (cJ hr) (af 4) ge_int (aL _))) (aq (aC (i:=7) sc.nd (by rfl) (e_ rfl) (by rfl) (aD (aT (ae (aB (ae ge_int (ae ge_int ag))) (ae (aB (ae (af 2) (ae ge_int ag))) (ae (aB (ae (af 2) (ae (af 6) ag))) (ae (aB (ae (af 5) (ae (af 6) ag))) (ae (aB (ae (af 5) (ae (af 3) ag))) (ae (aB (ae ge_int (ae (af 3) ag))) ag)))))))))) (aq (d5 (gp (br (cJ hr) (af 4) ge_int (aL _))) (aq (aC (i:=7) sc.nd (by rfl) (e_ rfl) (by rfl) (aD (aT (ae (aB (ae ge_int (ae ge_int ag))) (ae (aB (ae (af 2) (ae ge_int ag))) (ae (aB (ae (af 2) (ae (af 3) ag))) (ae (aB (ae (ah aS (af 2) (af 5)) (ae (af 3) ag))) (ae (aB (ae (ah aS (af 2) (af 5)) (ae (af 6) ag))) (ae (aB (ae (af 5) (ae (af 6) ag))) (ae (aB (ae (af 5) (ae (af 3) ag))) (ae (aB (ae ge_int (ae (af 3) ag))) ag)))))))))))) (aj (n9 (i:=8) (j:=9) (by rfl) sc.nd (by rfl) (by rfl) (by decide) (by rfl) (by rfl) (by rfl) (by rfl) (ae (aD (ah iU (af 3) ge_int)) (ae (aD (ah aS (af 3) (ah iU (af 3) ge_int))) ag)) (by rfl)) (aj (aC (i:=7) sc.nd (by rfl) (e_ rfl) (by rfl) (aD (aT (ae (aB (ae ge_int (ae ge_int ag))) (ae (aB (ae (af 5) (ae ge_int ag))) (ae (aB (ae (af 5) (ae (af 8) ag))) (ae (aB (ae (ah aS (af 2) (af 5)) (ae (af 8) ag))) (ae (aB (ae (ah aS (af 2) (af 5)) (ae ge_int ag))) (ae (aB (ae (af 2) (ae ge_int ag))) (ae (aB (ae (af 2) (ae (af 3) ag))) (ae (aB (ae (ah aS (af 2) (af 5)) (ae (af 3) ag))) ag))))))))))) (aq (aC (i:=7) sc.nd (by rfl) (e_ rfl) (by rfl) (aD (ah au (af 7) (aT (ae (aB (ae (ah aS (af 2) (af 5)) (ae (af 9) ag))) (ae (aB (ae (af 5) (ae (af 9) ag))) (ae (aB (ae (af 5) (ae (af 3) ag))) (ae (aB (ae ge_int (ae (af 3) ag))) ag)))))))))))))) (aq (aQ (aD (cF sc ["_law_one","_law_other","_law_y","_law_x"] [none,none,some 1,some 0] nd1 (by decide +kernel) (cI (af 7)) (fun _ _ _=>(fm (n:=2) (by rfl) (aE (av (i:=0) nd1 (by rfl) (e_ rfl) (by rfl) (hf:=(k_ rfl))) (aE (av (i:=1) nd1 (by rfl) (e_ rfl) (by rfl) (hf:=(k_ rfl))) dE)))) (fun _ _ _=>cA) (fun _ _ _=>(aB (ae (ah au (af 3) (af 0)) (ae (ah au (af 2) (af 1)) ag)))))))))),fun ts kk hl hp=>?_⟩
 clear hl
 obtain⟨x,y,w,h,m,rfl,⟨x0,x1⟩,⟨y0,y1⟩,w0,w1,h0,h1,q⟩:=hp
 walk_at "go"
 refine⟨⟨by decide,by decide⟩,⟨by decide,by decide⟩,?_⟩
 have b0:bd 50 0:=⟨by decide,by decide⟩
 have bw:bd 50 w:=⟨by lia,by lia⟩
 have bh:bd 50 h:=⟨by lia,by lia⟩
 have bu:bd 50 (1 + w / 4):=⟨by lia,by lia⟩
 have bv:bd 50 (1 + h / 3):=⟨by lia,by lia⟩
 have bwu:bd 50 (w - (1 + w / 4)):=⟨by lia,by lia⟩
 have bp:bd 50 (h / 3):=⟨by lia,by lia⟩
 have bq:bd 50 (h - h / 3):=⟨by lia,by lia⟩
 refine cv (fun env=>∃(rs:List Pt) (z8 z9:T),0 < rs.length/\rs.length<=12/\bdL 50 rs/\env=[.int x,.int y,.int w,.int h,.int m,.int (1 + w / 4),.int (1 + h / 3),.lst true (rs.map ptP),z8,z9]) ?_ ?_
 ·walk_at "go"
  refine aN (fun g=>?_) (fun g=>?_)
  ·walk_at "go"
   exact⟨[(0,0),(w,0),(w,1 + h / 3),(1 + w / 4,1 + h / 3),(1 + w / 4,h),(0,h)],_,_,Lg _,Kx rfl,⟨⟨b0,b0⟩,⟨bw,b0⟩,⟨bw,bv⟩,⟨bu,bv⟩,⟨bu,bh⟩,⟨b0,bh⟩,trivial⟩,rfl⟩
  walk_at "go"
  refine aN (fun g=>?_) (fun g=>?_)
  ·walk_at "go"
   exact⟨[(0,0),(w,0),(w,h),(w - (1 + w / 4),h),(w - (1 + w / 4),1 + h / 3),(1 + w / 4,1 + h / 3),(1 + w / 4,h),(0,h)],_,_,Lg _,Kx rfl,⟨⟨b0,b0⟩,⟨bw,b0⟩,⟨bw,bh⟩,⟨bwu,bh⟩,⟨bwu,bv⟩,⟨bu,bv⟩,⟨bu,bh⟩,⟨b0,bh⟩,trivial⟩,rfl⟩
  walk_at "go"
  refine⟨⟨by decide,by decide⟩,⟨by decide,by decide⟩,?_⟩
  exact⟨[(0,0),(1 + w / 4,0),(1 + w / 4,h / 3),(w - (1 + w / 4),h / 3),(w - (1 + w / 4),0),(w,0),(w,h),(w - (1 + w / 4),h),(w - (1 + w / 4),h - h / 3),(1 + w / 4,h - h / 3),(1 + w / 4,h),(0,h)],_,_,Lg _,Kx rfl,⟨⟨b0,b0⟩,⟨bu,b0⟩,⟨bu,bp⟩,⟨bwu,bp⟩,⟨bwu,b0⟩,⟨bw,b0⟩,⟨bw,bh⟩,⟨bwu,bh⟩,⟨bwu,bq⟩,⟨bu,bq⟩,⟨bu,bh⟩,⟨b0,bh⟩,trivial⟩,rfl⟩
 rintro _ ⟨rs,z8,z9,l0,l1,hb,rfl⟩
 walk_at "go"
 refine aW (by rw[a_,sizeLine_eq];lia) (fun i acc ie=>∃ z1 z2,acc=(rs.take i).map (fun p=>ptP (x + p.1,y + p.2))/\ie=[z1,z2,.int y,.int x]) ⟨_,_,rfl,rfl⟩ ?_ ?_
 ·rintro i u _ _ ⟨z1,z2,rfl,rfl⟩ eu
  obtain⟨p,ep,rfl⟩:=cx eu
  walk_at "go"
  exact⟨_,_,by rw[map_take ep];rfl,rfl⟩
 rintro _ _ ⟨z1,z2,rfl,rfl⟩
 rw[a_,F']
 walk_at "go"
 have e:rs.map (fun p=>ptP (x + p.1,y + p.2))=(rs.map fun p=>((x + p.1,y + p.2):Pt)).map ptP:=by rw[H_];rfl
 rw[e]
 refine q _ (by rw[a_];exact l0) (by rw[a_];exact l1) (nP fun p m=>?_)
 obtain⟨r,mr,rfl⟩:=y_.mp m
 obtain⟨⟨r1,r2⟩,r3,r4⟩:=fG hb mr
 exact⟨⟨by dsimp only;lia,by dsimp only;lia⟩,by dsimp only;lia,by dsimp only;lia⟩
end
noncomputable def pI:FP:=fun ts k=>∃ c n x y w h,ts=[stT c n,.int x,.int y,.int w,.int h]/\n < 2 ^ 39/\bd 50 x/\bd 50 y/\5<=w/\w<=30/\5<=h/\h<=30/\∀(c':Cells) (n':Nat) (ps:List Pt),n<=n'->n'<=n + 20->0 < ps.length->ps.length<=12->bdL 110 ps->k (.lst true (ps.map ptP)) [stT c' n',.int x,.int y,.int w,.int h]
section
variable{P:NW}{w:N3}{K:NM}{mg:Str->Option NK}{base:N5}
theorem nr:FnScope ["_law_state","_law_x","_law_y","_law_wide","_law_high","_law_way","_law_most","_law_cuts","_law_corners","_law_least","_law_first_here"] ["_law_state","_law_x","_law_y","_law_wide","_law_high"] (aA s_outline):=⟨rfl,rfl,rfl,by decide +kernel,rfl,by decide +kernel,by decide +kernel⟩
set_option maxHeartbeats 4000000 in
theorem uL{f:NN}{fd:N9}(F:Fun K "_law_outline" "_law_outline" s_outline f fd)(TX:Txt mg)  (G_take:Cal P w K mg base 1 "_law_take" ["_law_state","_law_many"] (aM K 2 gG))(G_box:Cal P w K mg base 1 "_law_box" ["_law_x","_law_y","_law_wide","_law_high","_law_cuts"] (aM K 5 yO))(G_angled:Cal P w K mg base 1 "_law_angled" ["_law_x","_law_y","_law_wide","_law_high","_law_way"] (aM K 5 rL)):FnOk P w K mg base CX0 2 f fd ["_law_state","_law_x","_law_y","_law_wide","_law_high"] (aM K 5 pI):=by
 refine cq F nr [true,true,true,true,true] rfl (fun cdv A outer s H E hr=>?_)
 have sc:=@nr
 have nd1:(["_law_turn","_law_most","_law_state"]:List Str).Nodup:=by decide +kernel
 refine⟨_,(aj (aC (i:=5) sc.nd (by rfl) (e_ rfl) (by rfl) (ax G_take hr (by rfl) (aJ 0 (ai ge_int ay)))) (aj (aC (i:=6) sc.nd (by rfl) (k_ rfl) (by rfl) (aD (ah iU (aK (fx rfl) (by rfl) TX.min (by decide +kernel) (ae (af 3) (ae (af 4) ag))) ge_int))) (aj (wZ sc (i:=7) ["_law_turn","_law_most","_law_state"] [none,some 6,some 0] nd1 (by decide +kernel) (by rfl) (e_ rfl) (by rfl) (eM (by rfl) TX.range (ae ge_int ag)) (fun _ _ _=>(av (i:=0) nd1 (by rfl) (e_ rfl) (by rfl) (hf:=(k_ rfl)))) (fun _ _ _=>cA) (fun _ _ _=>(ax G_take hr (by rfl) (aJ 2 (ai (az hr (aD (aT (ae ge_int (ae ge_int (ae (ah au (af 1) ge_int) ag))))) (ax G_take hr (by rfl) (aJ 2 (ai ge_int ay)))) ay)))) (by rfl)) (aj (aC (i:=8) sc.nd (by rfl) (e_ rfl) (by rfl) (aD (ax G_box hr (by rfl) (ai (af 1) (ai (af 2) (ai (af 3) (ai (af 4) (ai (af 7) ay)))))))) (bc (d5 (gp (br fS (af 5) ge_int (aL _))) (aq (aC (i:=8) sc.nd (by rfl) (e_ rfl) (by rfl) (aD (ax G_angled hr (by rfl) (ai (af 1) (ai (af 2) (ai (af 3) (ai (af 4) (ai (af 5) ay))))))))) b6) (bc (d5 (gp (br (cJ hr) (af 5) ge_int (aL _))) (aj (aC (i:=9) sc.nd (by rfl) (e_ rfl) (by rfl) (aD (aK (fx rfl) (by rfl) TX.min (by decide +kernel) (ae (af 3) (ae (af 4) ag))))) (aq (aC (i:=8) sc.nd (by rfl) (e_ rfl) (by rfl) (aD (aT (ae (aB (ae (af 1) (ae (af 2) ag))) (ae (aB (ae (ah au (af 1) (af 9)) (ae (af 2) ag))) (ae (aB (ae (af 1) (ae (ah au (af 2) (af 9)) ag))) ag)))))))) b6) (aj (aC (i:=10) sc.nd (by rfl) (e_ rfl) (by rfl) (ax G_take hr (by rfl) (aJ 0 (ai (aD (aK iZ (by rfl) TX.len (by decide +kernel) (ae (af 8) ag))) ay)))) (aj (aC (i:=8) sc.nd (by rfl) (e_ rfl) (by rfl) (aD (ah au (jJ (af 8) (mC (af 10)) me) (jJ (af 8) me (mC (af 10)))))) (bc (d5 (br (cJ hr) (ax G_take hr (by rfl) (aJ 0 (ai ge_int ay))) ge_int (aL _)) (aq (eX (mM 8 P9 P_ iO))) b6) (aq (aQ (iq 8)))))))))))),fun ts kk hl hp=>?_⟩
 clear hl
 obtain⟨c,n,x,y,w,h,rfl,hn,⟨x0,x1⟩,⟨y0,y1⟩,w0,w1,h0,h1,q⟩:=hp
 walk_at "go"
 walk_at "take"
 intro way c1 a1 b1
 walk_at "go"
 refine⟨⟨by decide,by decide⟩,by decide,aW (by rw[bC,sizeLine_eq];decide) (fun i acc ie=>∃ c' n' cs z,n + 1<=n'/\n'<=n + 1 + 2 * i/\acc=JS T.int cs/\cs.length=i/\(∀ v∈cs,0<=v/\v<=min w h / 2)/\ie=[z,.int (min w h / 2),stT c' n']) ⟨c1,n + 1,[],_,c_ _,by lia,rfl,rfl,(fun _ m=>by cases m),rfl⟩ ?_ ?_⟩
 ·rintro i t _ _ ⟨c',n',cs,z,l1,l2,rfl,hl,hv,rfl⟩ ei
  have hi:i < 4:=eK ei
  walk_at "go"
  walk_at "take"
  intro r c2 a2 b2
  walk_at "go"
  obtain⟨v,ev,v0,v1⟩:=iW (fun v=>1<=v/\v<=min w h / 2 + 1) (ns:=[1,2,min w h / 2 + 1]) (i:=r) (by omega) (by show r < 3;omega) (by
   intro v hv
   simp only[t_,LO,or_false]at hv
   lia)
  refine bz ev ?_
  walk_at "go"
  walk_at "take"
  intro r2 c3 a3 b3
  walk_at "go"
  refine⟨c3,n' + 1 + 1,cs++[r2],_,by lia,by lia,by rw[r_];rfl,by rw[h_,hl];rfl,fun v m=>?_,rfl⟩
  rcases D_.mp m with m | m
  ·exact hv v m
  rw[C_.mp m];lia
 rintro _ _ ⟨c2,n2,cs,z,l1,l2,rfl,hl,hv,rfl⟩
 rw[bC]at l2 hl
 obtain⟨a,b,c',d,rfl,ha,hb,hc,hd⟩:=four (P:=fun v=>0<=v/\v<=min w h / 2) hl hv
 walk_at "go"
 refine⟨x,y,w,h,false,a,b,c',d,rfl,?_⟩
 have pb:bdL 110 (lX x y w h a b c' d):=vJ ⟨by lia,by lia⟩ ⟨by lia,by lia⟩ ⟨by lia,by lia⟩ ⟨by lia,by lia⟩ ⟨by lia,by lia⟩ ⟨by lia,by lia⟩ ⟨by lia,by lia⟩ ⟨by lia,by lia⟩ ⟨by lia,by lia⟩ ⟨by lia,by lia⟩ ⟨by lia,by lia⟩ ⟨by lia,by lia⟩
 have pl:(lX x y w h a b c' d).length<=8:=vL
 have p0:0 < (lX x y w h a b c' d).length:=se (by lia)
 generalize lX x y w h a b c' d=ps at *
 walk_at "go"
 refine cv (fun env=>∃(ps:List Pt) (z9 z10:T),0 < ps.length/\ps.length<=12/\bdL 110 ps/\env=[stT c2 n2,.int x,.int y,.int w,.int h,.int way,.int (min w h / 2),.lst true [.int a,.int b,.int c',.int d],.lst true (ps.map ptP),z9,z10]) ?_ ?_
 ·walk_at "go"
  refine aN (fun g=>?_) (fun g=>?_)
  ·walk_at "go"
   refine⟨x,y,w,h,way,rfl,⟨x0,x1⟩,⟨y0,y1⟩,by omega,w1,by omega,h1,fun ps' g1 g2 g3=>?_⟩
   walk_at "go"
   exact⟨ps',_,_,g1,g2,g3,rfl⟩
  walk_at "go"
  exact⟨ps,_,_,p0,by lia,pb,rfl⟩
 clear pb pl p0 ps
 rintro _ ⟨ps,z9,z10,p0,pl,pb,rfl⟩
 refine cv (fun env=>∃(ps:List Pt) (z9 z10:T),0 < ps.length/\ps.length<=12/\bdL 110 ps/\env=[stT c2 n2,.int x,.int y,.int w,.int h,.int way,.int (min w h / 2),.lst true [.int a,.int b,.int c',.int d],.lst true (ps.map ptP),z9,z10]) ?_ ?_
 ·walk_at "go"
  refine aN (fun g=>?_) (fun g=>?_)
  ·walk_at "go"
   exact⟨[(x,y),(x + min w h,y),(x,y + min w h)],_,_,Lg _,Kx rfl,⟨⟨⟨by dsimp only;lia,by dsimp only;lia⟩,by dsimp only;lia,by dsimp only;lia⟩,⟨⟨by dsimp only;lia,by dsimp only;lia⟩,by dsimp only;lia,by dsimp only;lia⟩,⟨⟨by dsimp only;lia,by dsimp only;lia⟩,by dsimp only;lia,by dsimp only;lia⟩,trivial⟩,rfl⟩
  walk_at "go"
  exact⟨ps,_,_,p0,pl,pb,rfl⟩
 clear pb pl p0 ps
 rintro _ ⟨ps,z9,z10,p0,pl,pb,rfl⟩
 walk_at "go"
 walk_at "take"
 intro first c3 a3 b3
 walk_at "go"
 obtain⟨e1,e2⟩:=E8 (ts:=ps.map ptP) (m:=first) a3 (by rw[a_];exact b3)
 rw[e1,e2,<-MR,<-MT,dC,dC,<-r_]
 have l1:(ps.drop first.toNat++ps.take first.toNat).length=ps.length:=by rw[h_,C',A_];lia
 have m1:bdL 110 (ps.drop first.toNat++ps.take first.toNat):=qX pb fun p m=>(D_.mp m).elim KG Ke
 refine⟨by rw[a_,a_,C',A_];lia,by rw[show((ps.drop first.toNat).all fun x=>cD (ptP x))=true from fM _,show((ps.take first.toNat).all fun x=>cD (ptP x))=true from fM _];rfl,?_⟩
 generalize ps.drop first.toNat++ps.take first.toNat=qs at *
 refine cv (fun env=>∃(c4:Cells) (qs:List Pt),qs.length=ps.length/\bdL 110 qs/\env=[stT c4 (n2 + 1 + 1),.int x,.int y,.int w,.int h,.int way,.int (min w h / 2),.lst true [.int a,.int b,.int c',.int d],.lst true (qs.map ptP),z9,.int first]) ?_ ?_
 ·walk_at "go"
  walk_at "take"
  intro r c4 a4 b4
  walk_at "go"
  refine aN (fun g=>?_) (fun g=>?_)
  ·walk_at "go"
   exact⟨c4,qs.reverse,by rw[Ko,l1],qX m1 fun p m=>Ml.mp m,by rw[Nq]⟩
  walk_at "go"
  exact⟨c4,qs,l1,m1,rfl⟩
 rintro _ ⟨c4,qs,l2,m2,rfl⟩
 walk_at "go"
 exact q c4 (n2 + 1 + 1) qs (by lia) (by lia) (by lia) (by lia) m2
end
noncomputable def rF:FP:=fun ts k=>∃ c n x y,ts=[stT c n,.int x,.int y]/\n < 2 ^ 39/\bd 80 x/\bd 80 y/\∀(c':Cells) (n':Nat) (ps:List Pt),n<=n'->n'<=n + 20->0 < ps.length->ps.length<=12->bdL 110 ps->k (.lst true (ps.map ptP)) [stT c' n',.int x,.int y]
section
variable{P:NW}{w:N3}{K:NM}{mg:Str->Option NK}{base:N5}
theorem ow:FnScope ["_law_state","_law_x","_law_y","_law_size","_law_east","_law_north"] ["_law_state","_law_x","_law_y"] (aA s_island):=⟨rfl,rfl,rfl,by decide +kernel,rfl,by decide +kernel,by decide +kernel⟩
set_option maxHeartbeats 4000000 in
theorem xI{f:NN}{fd:N9}(F:Fun K "_law_island" "_law_island" s_island f fd)(TX:Txt mg)  (G_take:Cal P w K mg base 1 "_law_take" ["_law_state","_law_many"] (aM K 2 gG))(G_box:Cal P w K mg base 1 "_law_box" ["_law_x","_law_y","_law_wide","_law_high","_law_cuts"] (aM K 5 yO)):FnOk P w K mg base CX0 2 f fd ["_law_state","_law_x","_law_y"] (aM K 3 rF):=by
 refine cq F ow [true,true,true] rfl (fun cdv A outer s H E hr=>?_)
 have sc:=@ow
 refine⟨_,(aj (d5 (br (cJ hr) (ax G_take hr (by rfl) (aJ 0 (ai ge_int ay))) ge_int (aL _)) (aq (aQ (ax G_box hr (by rfl) (ai (cC 1) (ai (cC 2) (ai (ah au ge_int (ax G_take hr (by rfl) (aJ 0 (ai ge_int ay)))) (ai (ah au ge_int (ax G_take hr (by rfl) (aJ 0 (ai ge_int ay)))) (ai (aD (aT (ae ge_int (ae ge_int (ae ge_int (ae ge_int ag)))))) ay)))))))) b6) (aj (aC (i:=3) sc.nd (by rfl) (e_ rfl) (by rfl) (ah au ge_int (ax G_take hr (by rfl) (aJ 0 (ai ge_int ay))))) (aj (n9 (i:=4) (j:=5) (by rfl) sc.nd (by rfl) (by rfl) (by decide) (by rfl) (by rfl) (by rfl) (by rfl) (ae (az hr (aD (aT (ae (af 3) (ae (hZ (af 3)) ag)))) (ax G_take hr (by rfl) (aJ 0 (ai ge_int ay)))) (ae (az hr (aD (aT (ae (af 3) (ae (hZ (af 3)) ag)))) (ax G_take hr (by rfl) (aJ 0 (ai ge_int ay)))) ag)) (by rfl)) (aq (aQ (aD (aT (ae (aB (ae (af 1) (ae (af 2) ag))) (ae (aB (ae (ah au (af 1) (af 4)) (ae (af 2) ag))) (ae (aB (ae (af 1) (ae (ah au (af 2) (af 5)) ag))) ag)))))))))),fun ts kk hl hp=>?_⟩
 clear hl
 obtain⟨c,n,x,y,rfl,hn,⟨x0,x1⟩,⟨y0,y1⟩,q⟩:=hp
 walk_at "go"
 walk_at "take"
 intro r c1 a1 b1
 walk_at "go"
 refine aN (fun g=>?_) (fun g=>?_)
 ·walk_at "go"
  walk_at "take"
  intro w' c2 a2 b2
  walk_at "go"
  walk_at "take"
  intro h' c3 a3 b3
  walk_at "go"
  refine⟨x,y,1 + w',1 + h',true,0,0,0,0,rfl,?_⟩
  have pb:bdL 110 (lX x y (1 + w') (1 + h') 0 0 0 0):=vJ ⟨by lia,by lia⟩ ⟨by lia,by lia⟩ ⟨by lia,by lia⟩ ⟨by lia,by lia⟩ ⟨by lia,by lia⟩ ⟨by lia,by lia⟩ ⟨by lia,by lia⟩ ⟨by lia,by lia⟩ ⟨by lia,by lia⟩ ⟨by lia,by lia⟩ ⟨by lia,by lia⟩ ⟨by lia,by lia⟩
  have pl:(lX x y (1 + w') (1 + h') 0 0 0 0).length<=8:=vL
  have p0:0 < (lX x y (1 + w') (1 + h') 0 0 0 0).length:=se (by lia)
  generalize lX x y (1 + w') (1 + h') 0 0 0 0=ps at *
  walk_at "go"
  exact q c3 _ ps (by lia) (by lia) p0 (by lia) pb
 walk_at "go"
 walk_at "take"
 intro z c2 a2 b2
 walk_at "go"
 walk_at "take"
 intro r1 c3 a3 b3
 walk_at "go"
 obtain⟨u,eu,u0,u1⟩:=iW (fun v=>-3<=v/\v<=3) (ns:=[1 + z,-(1 + z)]) (i:=r1) (by omega) (by show r1 < 2;omega) (by
  intro v hv
  simp only[t_,LO,or_false]at hv
  lia)
 refine bz eu ?_
 walk_at "go"
 walk_at "take"
 intro r2 c4 a4 b4
 walk_at "go"
 obtain⟨v,ev,v0,v1⟩:=iW (fun v=>-3<=v/\v<=3) (ns:=[1 + z,-(1 + z)]) (i:=r2) (by omega) (by show r2 < 2;omega) (by
  intro v hv
  simp only[t_,LO,or_false]at hv
  lia)
 refine bz ev ?_
 walk_at "go"
 exact q c4 _ [(x,y),(x + u,y),(x,y + v)] (by lia) (by lia) (Lg _) (Kx rfl) ⟨⟨⟨by dsimp only;lia,by dsimp only;lia⟩,by dsimp only;lia,by dsimp only;lia⟩,⟨⟨by dsimp only;lia,by dsimp only;lia⟩,by dsimp only;lia,by dsimp only;lia⟩,⟨⟨by dsimp only;lia,by dsimp only;lia⟩,by dsimp only;lia,by dsimp only;lia⟩,trivial⟩
end
noncomputable def pz:FP:=fun ts k=>∃(b o:Bool) (t:Tl) (x y:Int) (s:Nat),ts=[tlT b o t,.int x,.int y,.int (s:Int)]/\s < 4/\k (.bl (inM t (x,y,s))) ts
section
variable{P:NW}{w:N3}{K:NM}{mg:Str->Option NK}{base:N5}
theorem nT:FnScope ["_law_tool_here","_law_x","_law_y","_law_side","_law_ends","_law_points"] ["_law_tool_here","_law_x","_law_y","_law_side"] (aA s_in_mark):=⟨rfl,rfl,rfl,by decide +kernel,rfl,by decide +kernel,by decide +kernel⟩
set_option maxHeartbeats 4000000 in
theorem vi{f:NN}{fd:N9}(F:Fun K "_law_in_mark" "_law_in_mark" s_in_mark f fd)(TX:Txt mg)  :FnOk P w K mg base CX0 1 f fd ["_law_tool_here","_law_x","_law_y","_law_side"] (aM K 4 pz):=by
 refine cq F nT [true,true,true,true] rfl (fun cdv A outer s H E hr=>?_)
 have sc:=@nT
 have nd1:(["_law_one","_law_other","_law_y","_law_x"]:List Str).Nodup:=by decide +kernel
 have nd2:(["_law_one","_law_other","_law_tool_here"]:List Str).Nodup:=by decide +kernel
 refine⟨_,(@aj _ _ _ _ _ _ (@aC _ _ _ _ _ 4 _ _ sc.nd (by rfl) (e_ rfl) (by rfl) (@aD _ _ _ (@az _ _ _ _ _ _ _ hr (@aT _ _ _ _ (@ae _ _ _ _ _ (@aT _ _ _ _ (@ae _ _ _ _ _ (@aB _ _ _ _ _ (@ae _ _ _ _ _ (@ge_int _ _ _ _) (@ae _ _ _ _ _ (@ge_int _ _ _ _) (@ag _) (by rfl)) (by rfl))) (@ae _ _ _ _ _ (@aB _ _ _ _ _ (@ae _ _ _ _ _ (@ge_int _ _ _ _) (@ae _ _ _ _ _ (@ge_int _ _ _ _) (@ag _) (by rfl)) (by rfl))) (@ag _) (by rfl)) (by rfl))) (@ae _ _ _ _ _ (@aT _ _ _ _ (@ae _ _ _ _ _ (@aB _ _ _ _ _ (@ae _ _ _ _ _ (@ge_int _ _ _ _) (@ae _ _ _ _ _ (@ge_int _ _ _ _) (@ag _) (by rfl)) (by rfl))) (@ae _ _ _ _ _ (@aB _ _ _ _ _ (@ae _ _ _ _ _ (@ge_int _ _ _ _) (@ae _ _ _ _ _ (@ge_int _ _ _ _) (@ag _) (by rfl)) (by rfl))) (@ag _) (by rfl)) (by rfl))) (@ae _ _ _ _ _ (@aT _ _ _ _ (@ae _ _ _ _ _ (@aB _ _ _ _ _ (@ae _ _ _ _ _ (@ge_int _ _ _ _) (@ae _ _ _ _ _ (@ge_int _ _ _ _) (@ag _) (by rfl)) (by rfl))) (@ae _ _ _ _ _ (@aB _ _ _ _ _ (@ae _ _ _ _ _ (@ge_int _ _ _ _) (@ae _ _ _ _ _ (@ge_int _ _ _ _) (@ag _) (by rfl)) (by rfl))) (@ag _) (by rfl)) (by rfl))) (@ae _ _ _ _ _ (@aT _ _ _ _ (@ae _ _ _ _ _ (@aB _ _ _ _ _ (@ae _ _ _ _ _ (@ge_int _ _ _ _) (@ae _ _ _ _ _ (@ge_int _ _ _ _) (@ag _) (by rfl)) (by rfl))) (@ae _ _ _ _ _ (@aB _ _ _ _ _ (@ae _ _ _ _ _ (@ge_int _ _ _ _) (@ae _ _ _ _ _ (@ge_int _ _ _ _) (@ag _) (by rfl)) (by rfl))) (@ag _) (by rfl)) (by rfl))) (@ag _) (by rfl)) (by rfl)) (by rfl)) (by rfl))) (@af _ _ 3 _ (by rfl) (by first | exact e_ rfl | exact k_ (e_ rfl) | exact k_ (k_ rfl)) (by decide) (by decide)) (by intro _ _;rfl))) (by rfl) (by first | exact .inl rfl | exact .inr rfl)) (@aj _ _ _ _ _ _ (@aC _ _ _ _ _ 5 _ _ sc.nd (by rfl) (e_ rfl) (by rfl) (@aD _ _ _ (@ah _ _ _ _ _ _ _ _ au (@aT _ _ _ _ (@ae _ _ _ _ _ (@aB _ _ _ _ _ (@ae _ _ _ _ _ (@ah _ _ _ _ _ _ _ _ au (@ah _ _ _ _ _ _ _ _ bA (@ge_int _ _ _ _) (@af _ _ 1 _ (by rfl) (by first | exact e_ rfl | exact k_ (e_ rfl) | exact k_ (k_ rfl)) (by decide) (by decide))) (@ge_int _ _ _ _)) (@ae _ _ _ _ _ (@ah _ _ _ _ _ _ _ _ au (@ah _ _ _ _ _ _ _ _ bA (@ge_int _ _ _ _) (@af _ _ 2 _ (by rfl) (by first | exact e_ rfl | exact k_ (e_ rfl) | exact k_ (k_ rfl)) (by decide) (by decide))) (@ge_int _ _ _ _)) (@ag _) (by rfl)) (by rfl))) (@ag _) (by rfl))) (@cF _ _ _ _ sc ["_law_one","_law_other","_law_y","_law_x"] [none,none,some 2,some 1] nd1 _ _ _ _ _ _ _ _ _ _ (by decide +kernel) (@cI _ _ _ _ (@af _ _ 4 _ (by rfl) (by first | exact e_ rfl | exact k_ (e_ rfl) | exact k_ (k_ rfl)) (by decide) (by decide))) (fun _ _ _=>(@fm _ _ _ _ _ _ 2 (by rfl) (@aE _ _ _ _ _ _ (@av _ _ _ 0 _ nd1 (by rfl) (e_ rfl) (by rfl) (k_ rfl)) (@aE _ _ _ _ _ _ (@av _ _ _ 1 _ nd1 (by rfl) (e_ rfl) (by rfl) (k_ rfl)) (@dE _ _) (by rfl)) (by rfl)) (by rfl) (by rfl))) (fun _ _ _=>(@cA _)) (fun _ _ _=>(@aB _ _ _ _ _ (@ae _ _ _ _ _ (@ah _ _ _ _ _ _ _ _ bA (@ge_int _ _ _ _) (@ah _ _ _ _ _ _ _ _ au (@af _ _ 3 _ (by rfl) (by first | exact e_ rfl | exact k_ (e_ rfl) | exact k_ (k_ rfl)) (by decide) (by decide)) (@af _ _ 0 _ (by rfl) (by first | exact e_ rfl | exact k_ (e_ rfl) | exact k_ (k_ rfl)) (by decide) (by decide)))) (@ae _ _ _ _ _ (@ah _ _ _ _ _ _ _ _ bA (@ge_int _ _ _ _) (@ah _ _ _ _ _ _ _ _ au (@af _ _ 2 _ (by rfl) (by first | exact e_ rfl | exact k_ (e_ rfl) | exact k_ (k_ rfl)) (by decide) (by decide)) (@af _ _ 1 _ (by rfl) (by first | exact e_ rfl | exact k_ (e_ rfl) | exact k_ (k_ rfl)) (by decide) (by decide)))) (@ag _) (by rfl)) (by rfl)))) (by rfl) (by rfl) (by rfl) (by intro _;rfl)))) (by rfl) (by first | exact .inl rfl | exact .inr rfl)) (@aq _ _ _ _ (@aQ _ _ _ _ _ (@aD _ _ _ (@aK _ _ _ _ _ _ _ _ _ (yb rfl) (by rfl) TX.all (by decide +kernel) (@ae _ _ _ _ _ (@cF _ _ _ _ sc ["_law_one","_law_other","_law_tool_here"] [none,none,some 0] nd2 _ _ _ _ _ _ _ _ _ _ (by decide +kernel) (@cI _ _ _ _ (@af _ _ 5 _ (by rfl) (by first | exact e_ rfl | exact k_ (e_ rfl) | exact k_ (k_ rfl)) (by decide) (by decide))) (fun _ _ _=>(@fm _ _ _ _ _ _ 2 (by rfl) (@aE _ _ _ _ _ _ (@av _ _ _ 0 _ nd2 (by rfl) (e_ rfl) (by rfl) (k_ rfl)) (@aE _ _ _ _ _ _ (@av _ _ _ 1 _ nd2 (by rfl) (e_ rfl) (by rfl) (k_ rfl)) (@dE _ _) (by rfl)) (by rfl)) (by rfl) (by rfl))) (fun _ _ _=>(@cA _)) (fun _ _ _=>(@gE _ _ _ _ _ _ _ _ Ay (@ah _ _ _ _ _ _ _ _ au (@aK _ _ _ _ _ _ _ _ _ kG (by rfl) TX.abs (by decide +kernel) (@ae _ _ _ _ _ (@af _ _ 0 _ (by rfl) (by first | exact e_ rfl | exact k_ (e_ rfl) | exact k_ (k_ rfl)) (by decide) (by decide)) (@ag _) (by rfl)) (by decide) (by decide) (by rfl) (by rfl)) (@aK _ _ _ _ _ _ _ _ _ kG (by rfl) TX.abs (by decide +kernel) (@ae _ _ _ _ _ (@af _ _ 1 _ (by rfl) (by first | exact e_ rfl | exact k_ (e_ rfl) | exact k_ (k_ rfl)) (by decide) (by decide)) (@ag _) (by rfl)) (by decide) (by decide) (by rfl) (by rfl))) (@ah _ _ _ _ _ _ _ _ bA (@ge_int _ _ _ _) (@ah _ _ _ _ _ _ _ _ au (@az _ _ _ _ _ _ _ hr (@af _ _ 2 _ (by rfl) (by first | exact e_ rfl | exact k_ (e_ rfl) | exact k_ (k_ rfl)) (by decide) (by decide)) (@ge_int _ _ _ _) (by intro _ _;rfl)) (@az _ _ _ _ _ _ _ hr (@af _ _ 2 _ (by rfl) (by first | exact e_ rfl | exact k_ (e_ rfl) | exact k_ (k_ rfl)) (by decide) (by decide)) (@ge_int _ _ _ _) (by intro _ _;rfl)))) (aL _))) (by rfl) (by rfl) (by rfl) (by intro _;rfl)) (@ag _) (by rfl)) (by decide) (by decide) (by rfl) (by rfl))))))),fun ts kk hl hp=>?_⟩
 clear hl
 obtain⟨b,o,t,x,y,s,rfl,hs,q⟩:=hp
 walk_at "go"
 refine bz (xn hs).1 ?_
 have l2:=(xn hs).2
 unfold inM ptM at q
 dsimp only at q
 generalize edL.getD s []=es at *
 walk_at "go"
 refine⟨.inl ⟨by decide,by decide⟩,.inl ⟨by decide,by decide⟩,aW (by rw[a_,sizeLine_eq];lia) (fun i acc ie=>∃ z1 z2,acc=(es.take i).map (fun e=>ptP (2 * (x + e.1),2 * (y + e.2)))/\ie=[z1,z2,.int y,.int x]) ⟨_,_,rfl,rfl⟩ ?_ ?_⟩
 ·rintro i u _ _ ⟨z1,z2,rfl,rfl⟩ ei
  obtain⟨e,ee,rfl⟩:=cx ei
  walk_at "go"
  exact⟨.inl ⟨by decide,by decide⟩,.inl ⟨by decide,by decide⟩,_,_,by rw[map_take ee];rfl,rfl⟩
 rintro _ _ ⟨z1,z2,rfl,rfl⟩
 rw[a_,F']
 walk_at "go"
 have ep:T.tup [T.int (2 * x + 1),T.int (2 * y + 1)]::JS (fun e=>ptP (2 * (x + e.1),2 * (y + e.2))) es=((2 * x + 1,2 * y + 1)::es.map fun e=>((2 * (x + e.1),2 * (y + e.2)):Pt)).map ptP:=by rw[d_,H_];rfl
 have lp:((2 * x + 1,2 * y + 1)::es.map fun e=>((2 * (x + e.1),2 * (y + e.2)):Pt)).length=3:=by rw[j_,a_,l2]
 rw[ep]
 generalize ((2 * x + 1,2 * y + 1)::es.map fun e=>((2 * (x + e.1),2 * (y + e.2)):Pt))=ps at *
 refine⟨by lia,aW (by rw[a_,sizeLine_eq];lia) (fun i acc ie=>∃ z1 z2,acc=(ps.take i).map (fun p=>T.bl (decide ((p.1.natAbs:Int) + p.2.natAbs<=2 * (t.1 + t.2.1))))/\ie=[z1,z2,tlT b false t]) ⟨_,_,rfl,rfl⟩ ?_ ?_⟩
 ·rintro i u _ _ ⟨z1,z2,rfl,rfl⟩ ei
  obtain⟨p,ee,rfl⟩:=cx ei
  walk_at "go"
  exact⟨.inl ⟨by decide,by decide⟩,_,_,by rw[map_take ee],rfl⟩
 rintro _ _ ⟨z1,z2,rfl,rfl⟩
 rw[a_,F']
 walk_at "go"
 refine bz (lN _ _) ?_
 walk_at "go"
 rw[Lc]
 exact q
end
def A8:FP:=fun ts k=>∃(b o:Bool) (t:Tl),ts=[tlT b o t,ptP (0,0)]/\tlO t/\k (.dT true (dQ (nrQ t))) ts
section
variable{P:NW}{w:N3}{K:NM}{mg:Str->Option NK}{base:N5}
theorem wD:FnScope ["_law_tool_here","_law_corner","_law_found","_law_x","_law_y","_law_side"] ["_law_tool_here","_law_corner"] (aA s_mark):=⟨rfl,rfl,rfl,by decide +kernel,rfl,by decide +kernel,by decide +kernel⟩
set_option maxHeartbeats 4000000 in
theorem BQ{f:NN}{fd:N9}(F:Fun K "_law_mark" "_law_mark" s_mark f fd)(TX:Txt mg)  (G_in_mark:Cal P w K mg base 1 "_law_in_mark" ["_law_tool_here","_law_x","_law_y","_law_side"] (aM K 4 pz)):FnOk P w K mg base CX0 2 f fd ["_law_tool_here","_law_corner"] (aM K 2 A8):=by
 refine cq F wD [true,true] rfl (fun cdv A outer s H E hr=>?_)
 have sc:=@wD
 refine⟨_,(aj (aC (i:=2) sc.nd (by rfl) (e_ rfl) (by rfl) (aD qq)) (aj (cP Od (by rfl) (fZ (by rfl) TX.range (ae (aD (hZ (az hr (af 0) ge_int))) (ae (aD (az hr (af 0) ge_int)) ag))) (av (i:=3) sc.nd (by rfl) (e_ rfl) (by rfl)) (aq (cP Od (by rfl) (fZ (by rfl) TX.range (ae (aD (hZ (az hr (af 0) ge_int))) (ae (aD (az hr (af 0) ge_int)) ag))) (av (i:=4) sc.nd (by rfl) (e_ rfl) (by rfl)) (aq (cP Od (by rfl) (eM (by rfl) TX.range (ae ge_int ag)) (av (i:=5) sc.nd (by rfl) (e_ rfl) (by rfl)) (aq (d5 (gp (kJ (ax G_in_mark hr (by rfl) (ai (af 0) (ai (af 3) (ai (af 4) (ai (af 5) ay))))))) (aq (pQ mZ (uh (i:=2) hr (aD (aB (ae (ah au (az hr (af 1) ge_int) (af 3)) (ae (ah au (az hr (af 1) ge_int) (af 4)) (ae (af 5) ag)))))))) b6))))))) (aq (aQ (iq 2))))),fun ts kk hl hp=>?_⟩
 clear hl
 obtain⟨b,o,t,rfl,ht,q⟩:=hp
 rw[<-mk_eq ht]at q
 obtain⟨t1,t2,t3,t4⟩:=ht
 have im:∀ x y s,inM t (x,y,s)=inM (t.1,t.2.1,0,0,0) (x,y,s):=fun _ _ _=>rfl
 walk_at "go"
 refine⟨rfl,by lia,bF (fun i env=>∃ z3 z4 z5,env=[tlT b o t,ptP (0,0),.dT true (dQ (mkN t.1 t.2.1 i)),z3,z4,z5]) ⟨_,_,_,rfl⟩ ?_ ?_⟩
 ·rintro i u _ ⟨z3,z4,z5,rfl⟩ ei
  have hi:=eK ei
  have et:=i7 ei
  subst et
  walk_at "go"
  refine⟨by lia,bF (fun j env=>∃ z4 z5,env=[tlT b o t,ptP (0,0),.dT true (dQ (mkN t.1 t.2.1 i++mkC t.1 t.2.1 (-t.1 + i) j)),.int (-t.1 + i),z4,z5]) ⟨_,_,by rw[show mkC t.1 t.2.1 (-t.1 + i) 0=[]from rfl,JO]⟩ ?_ ?_⟩
  ·rintro j u _ ⟨z4,z5,rfl⟩ ej
   have hj:=eK ej
   have et:=i7 ej
   subst et
   walk_at "go"
   refine⟨by decide,bF (fun s env=>∃ z5,env=[tlT b o t,ptP (0,0),.dT true (dQ (mkN t.1 t.2.1 i++mkC t.1 t.2.1 (-t.1 + i) j++((p_ s).filter fun s=>inM (t.1,t.2.1,0,0,0) (-t.1 + i,-t.1 + j,s)).map fun s=>(-t.1 + (i:Int),-t.1 + (j:Int),s))),.int (-t.1 + i),.int (-t.1 + j),z5]) ⟨_,by rw[List.range_zero,List.filter_nil,Ks,JO]⟩ ?_ ?_⟩
   ·rintro s u _ ⟨z5,rfl⟩ es
    have hs4:s < 4:=eK es
    have et:=i7 es
    subst et
    rw[LY]
    walk_at "go"
    refine⟨b,false,t,-t.1 + i,-t.1 + j,s,rfl,hs4,?_⟩
    walk_at "go"
    rw[Ka,Lw,r_,im]
    refine v5 (fun h=>?_) (fun h=>?_)
    ·walk_at "go"
     have l1:=Gg (r:=t.1) (k:=t.2.1) (i:=i) (j:=j) (s:=s) (by lia)
     have ef:((Ng (fun s=>inM (t.1,t.2.1,0,0,0) (-t.1 + i,-t.1 + j,s)) [s]).map fun s=>((-t.1 + (i:Int),-t.1 + (j:Int),s):Qt))=[(-t.1 + (i:Int),-t.1 + (j:Int),s)]:=by rw[Lm,h];rfl
     rw[LY,LY]
     exact⟨by rw[nA];lia,_,by rw[ef,<-i_,<-vt GC];rfl⟩
    walk_at "go"
    have ef:((Ng (fun s=>inM (t.1,t.2.1,0,0,0) (-t.1 + i,-t.1 + j,s)) [s]).map fun s=>((-t.1 + (i:Int),-t.1 + (j:Int),s):Qt))=[]:=by rw[Lm,h];rfl
    exact⟨_,by rw[ef,JO]⟩
   rintro _ ⟨z5,rfl⟩
   have e1:mkC t.1 t.2.1 (-t.1 + i) (j + 1)=mkC t.1 t.2.1 (-t.1 + i) j++_:=fC
   exact⟨_,_,by rw[e1,<-i_];rfl⟩
  rintro _ ⟨z4,z5,rfl⟩
  rw[bC]
  have e1:mkN t.1 t.2.1 (i + 1)=mkN t.1 t.2.1 i++_:=fC
  exact⟨_,_,_,by rw[e1]⟩
 rintro _ ⟨z3,z4,z5,rfl⟩
 rw[bC]
 walk_at "go"
 exact q
end
noncomputable def uG:FP:=fun ts k=>∃ c n m,ts=[stT c n,.int m]/\n < 2 ^ 39/\2<=m/\m<=4/\∀(c':Cells) (t:Tl),tlO t->k (tlT false false t) [stT c' (n + 5),.int m]
section
variable{P:NW}{w:N3}{K:NM}{mg:Str->Option NK}{base:N5}
theorem xh:FnScope ["_law_state","_law_most","_law_r","_law_k"] ["_law_state","_law_most"] (aA s_tool):=⟨rfl,rfl,rfl,by decide +kernel,rfl,by decide +kernel,by decide +kernel⟩
set_option maxHeartbeats 4000000 in
theorem Dg{f:NN}{fd:N9}(F:Fun K "_law_tool" "_law_tool" s_tool f fd)(TX:Txt mg)  (G_take:Cal P w K mg base 1 "_law_take" ["_law_state","_law_many"] (aM K 2 gG)):FnOk P w K mg base CX0 2 f fd ["_law_state","_law_most"] (aM K 2 uG):=by
 refine cq F xh [true,true] rfl (fun cdv A outer s H E hr=>?_)
 have sc:=@xh
 refine⟨_,(aj (aC (i:=2) sc.nd (by rfl) (e_ rfl) (by rfl) (ah au ge_int (ax G_take hr (by rfl) (aJ 0 (ai (aD (ah aS (af 1) ge_int)) ay))))) (aj (aC (i:=3) sc.nd (by rfl) (e_ rfl) (by rfl) (ah au ge_int (ax G_take hr (by rfl) (aJ 0 (ai (aD (ah aS (af 2) ge_int)) ay))))) (aq (aQ (aB (ae (cC 2) (ae (cC 3) (ae (ah au ge_int (ax G_take hr (by rfl) (aJ 0 (ai ge_int ay)))) (ae (ah au ge_int (ax G_take hr (by rfl) (aJ 0 (ai ge_int ay)))) (ae (ah au ge_int (ax G_take hr (by rfl) (aJ 0 (ai ge_int ay)))) ag)))))))))),fun ts kk hl hp=>?_⟩
 clear hl
 obtain⟨c,n,m,rfl,hn,m0,m1,q⟩:=hp
 walk_at "go"
 walk_at "take"
 intro r c1 a1 b1
 walk_at "go"
 walk_at "take"
 intro kk c2 a2 b2
 walk_at "go"
 walk_at "take"
 intro u c3 a3 b3
 walk_at "go"
 walk_at "take"
 intro v c4 a4 b4
 walk_at "go"
 walk_at "take"
 intro w' c5 a5 b5
 walk_at "go"
 exact q c5 (2 + r,1 + kk,_,_,_) ⟨by dsimp only;lia,by dsimp only;lia,by dsimp only;lia,by dsimp only;lia⟩
end
noncomputable def wU:FP:=fun ts k=>∃ c n m l,ts=[stT c n,.int m,.int l]/\n < 2 ^ 38/\2<=m/\m<=4/\0<=l/\l<=5/\∀(c':Cells) (n':Nat) (tl:List Tl),n<=n'->n'<=n + 100->tl.length<=8->(∀ t∈tl,tlO t)->k (.lst true (tl.map (tlT false false))) [stT c' n',.int m,.int l]
section
variable{P:NW}{w:N3}{K:NM}{mg:Str->Option NK}{base:N5}
theorem sT:FnScope ["_law_state","_law_most","_law_least"] ["_law_state","_law_most","_law_least"] (aA s_tools):=⟨rfl,rfl,rfl,by decide +kernel,rfl,by decide +kernel,by decide +kernel⟩
set_option maxHeartbeats 4000000 in
theorem zj{f:NN}{fd:N9}(F:Fun K "_law_tools" "_law_tools" s_tools f fd)(TX:Txt mg)  (G_take:Cal P w K mg base 1 "_law_take" ["_law_state","_law_many"] (aM K 2 gG))(G_tool:Cal P w K mg base 2 "_law_tool" ["_law_state","_law_most"] (aM K 2 uG)):FnOk P w K mg base CX0 3 f fd ["_law_state","_law_most","_law_least"] (aM K 3 wU):=by
 refine cq F sT [true,true,true] rfl (fun cdv A outer s H E hr=>?_)
 have sc:=@sT
 have nd1:(["_law_turn","_law_most","_law_state"]:List Str).Nodup:=by decide +kernel
 refine⟨_,(aq (aQ (cF sc ["_law_turn","_law_most","_law_state"] [none,some 1,some 0] nd1 (by decide +kernel) (eM (by rfl) TX.range (ae (ah au (cC 2) (ax G_take hr (by rfl) (aJ 0 (ai ge_int ay)))) ag)) (fun _ _ _=>(av (i:=0) nd1 (by rfl) (e_ rfl) (by rfl) (hf:=(k_ rfl)))) (fun _ _ _=>cA) (fun _ _ _=>(ax G_tool hr (by rfl) (aJ 2 (ai (cC 1) ay))))))),fun ts kk hl hp=>?_⟩
 clear hl
 obtain⟨c,n,m,l,rfl,hn,m0,m1,l0,l1,q⟩:=hp
 walk_at "go"
 walk_at "take"
 intro r c1 a1 b1
 walk_at "go"
 refine⟨by lia,aW (by rw[bC,sizeLine_eq];lia) (fun i acc ie=>∃(c':Cells) (n':Nat) (tl:List Tl) (z:T),n<=n'/\n'<=n + 1 + 5 * i/\tl.length=i/\(∀ t∈tl,tlO t)/\acc=tl.map (tlT false false)/\ie=[z,.int m,stT c' n']) ⟨c1,n + 1,[],_,by lia,by lia,rfl,(fun _ h=>by cases h),rfl,rfl⟩ ?_ ?_⟩
 ·rintro i u _ _ ⟨c',n',tl,z,l2,l3,l4,ht,rfl,rfl⟩ ei
  have hi:=eK ei
  walk_at "go"
  refine⟨c',n',m,rfl,by lia,m0,m1,fun c2 t h=>?_⟩
  walk_at "go"
  refine⟨c2,n' + 5,tl++[t],_,by lia,by lia,by rw[h_,l4];rfl,fun v mv=>?_,by rw[r_];rfl,rfl⟩
  rcases D_.mp mv with mv | mv
  ·exact ht v mv
  rw[C_.mp mv];exact h
 rintro _ _ ⟨c',n',tl,z,l2,l3,l4,ht,rfl,rfl⟩
 rw[bC]at l3 l4
 walk_at "go"
 exact q c' n' tl (by omega) (by lia) (by lia) ht
end
noncomputable def xA:FP:=fun ts k=>∃(o:Bool) (tl:List Tl),ts=[.lst o (tl.map (tlT false false))]/\tl.length < 100/\(∀ t∈tl,tlO t)/\k (.lst true (tl.map fun t=>.dT true (dQ (nrQ t)))) ts
section
variable{P:NW}{w:N3}{K:NM}{mg:Str->Option NK}{base:N5}
theorem t6:FnScope ["_law_tools_here"] ["_law_tools_here"] (aA s_marks):=⟨rfl,rfl,rfl,by decide +kernel,rfl,by decide +kernel,by decide +kernel⟩
set_option maxHeartbeats 4000000 in
theorem yY{f:NN}{fd:N9}(F:Fun K "_law_marks" "_law_marks" s_marks f fd)(TX:Txt mg)  (G_mark:Cal P w K mg base 2 "_law_mark" ["_law_tool_here","_law_corner"] (aM K 2 A8)):FnOk P w K mg base CX0 3 f fd ["_law_tools_here"] (aM K 1 xA):=by
 refine cq F t6 [true] rfl (fun cdv A outer s H E hr=>?_)
 have sc:=@t6
 have nd1:(["_law_tool_here"]:List Str).Nodup:=by decide +kernel
 refine⟨_,(aq (aQ (aD (cF sc ["_law_tool_here"] [none] nd1 (by decide +kernel) (cI (af 0)) (fun _ _ _=>(av (i:=0) nd1 (by rfl) (e_ rfl) (by rfl) (hf:=(k_ rfl)))) (fun _ _ _=>cA) (fun _ _ _=>(ax G_mark hr (by rfl) (ai (af 0) (ai (aB (ae ge_int (ae ge_int ag))) ay)))))))),fun ts kk hl hp=>?_⟩
 clear hl
 obtain⟨o,tl,rfl,hl,ht,q⟩:=hp
 walk_at "go"
 refine aW (by rw[a_,sizeLine_eq];lia) (fun i acc ie=>∃ z,acc=(tl.take i).map (fun t=>T.dT true (dQ (nrQ t)))/\ie=[z]) ⟨_,rfl,rfl⟩ ?_ ?_
 ·rintro i u _ _ ⟨z,rfl,rfl⟩ ei
  obtain⟨t,et,rfl⟩:=cx ei
  walk_at "go"
  refine⟨false,false,t,rfl,ht t (JY et),?_⟩
  walk_at "go"
  exact⟨_,by rw[map_take et],rfl⟩
 rintro _ _ ⟨z,rfl,rfl⟩
 rw[a_,F']
 walk_at "go"
 exact q
end
def wq:FP:=fun ts k=>∃(o u:Bool) (M rs:List Qt) (p:Pt),ts=[.dT u (dQ rs),.lst o (M.map qtT),ptP p]/\k (oqT (fsQ p rs M)) [.dT u (dQ rs),.lst false (M.map qtT),ptP p]
section
variable{P:NW}{w:N3}{K:NM}{mg:Str->Option NK}{base:N5}
theorem sh:FnScope ["_law_held","_law_base","_law_corner","_law_one","_law_other","_law_side"] ["_law_held","_law_base","_law_corner"] (aA s_first):=⟨rfl,rfl,rfl,by decide +kernel,rfl,by decide +kernel,by decide +kernel⟩
set_option maxHeartbeats 4000000 in
theorem AQ{f:NN}{fd:N9}(F:Fun K "_law_first" "_law_first" s_first f fd)(TX:Txt mg)  :FnOk P w K mg base CX0 1 f fd ["_law_held","_law_base","_law_corner"] (aM K 3 wq):=by
 refine cq F sh [true,true,true] rfl (fun cdv A outer s H E hr=>?_)
 have sc:=@sh
 refine⟨_,(aj (cP Od (by rfl) (cI (cC 1)) (fm (n:=3) (by rfl) (aE (av (i:=3) sc.nd (by rfl) (e_ rfl) (by rfl)) (aE (av (i:=4) sc.nd (by rfl) (e_ rfl) (by rfl)) (aE (av (i:=5) sc.nd (by rfl) (e_ rfl) (by rfl)) dE)))) (aq (d5 (gp (br (wM hr) (aB (ae (ah au (az hr (af 2) ge_int) (af 3)) (ae (ah au (az hr (af 2) ge_int) (af 4)) (ae (af 5) ag)))) (af 0) (by with_unfolding_all rfl))) (aq (aQ (aD (aB (ae (ah au (az hr (af 2) ge_int) (af 3)) (ae (ah au (az hr (af 2) ge_int) (af 4)) (ae (af 5) ag))))))) b6))) (aq (aQ i8))),fun ts kk hl hp=>?_⟩
 clear hl
 obtain⟨o,u,M,rs,p,rfl,q⟩:=hp
 walk_at "go"
 refine bF (fun i env=>∃ z3 z4 z5,fsQ p rs (M.drop i)=fsQ p rs M/\env=[.dT u (dQ rs),.lst false (M.map qtT),ptP p,z3,z4,z5]) ⟨_,_,_,rfl,rfl⟩ ?_ ?_
 ·rintro i t _ ⟨z3,z4,z5,ew,rfl⟩ ei
  obtain⟨m,em,rfl⟩:=cx ei
  rw[iX em,fsQ]at ew
  walk_at "go"
  rw[show(je (dQ rs) [Pe (p.1 + m.1),Pe (p.2 + m.2.1),Pe (m.2.2:Int)]).isSome=decide (mvQ p m∈rs)from v7 (q:=mvQ p m)]
  refine aN (fun h=>?_) (fun h=>?_)
  ·walk_at "go"
   rw[if_pos h]at ew
   exact⟨_,_,_,ew,rfl⟩
  walk_at "go"
  rw[if_neg h]at ew
  rw[<-ew]at q
  exact q
 rintro _ ⟨z3,z4,z5,ew,rfl⟩
 rw[a_,KR]at ew
 rw[<-ew]at q
 walk_at "go"
 exact q
end
def oX:FP:=fun ts k=>∃(u:Bool) (M:List Qt) (q:Qt),ts=[.dT u (dQ M),qtT q]/\M.length < 100000/\k (.lst true ((srP (abL M q)).map ptP)) ts
section
variable{P:NW}{w:N3}{K:NM}{mg:Str->Option NK}{base:N5}
theorem nF:FnScope ["_law_mark_here","_law_quarter"] ["_law_mark_here","_law_quarter"] (aA s_holding):=⟨rfl,rfl,rfl,by decide +kernel,rfl,by decide +kernel,by decide +kernel⟩
set_option maxHeartbeats 4000000 in
theorem vh{f:NN}{fd:N9}(F:Fun K "_law_holding" "_law_holding" s_holding f fd)(TX:Txt mg)  :FnOk P w K mg base CX0 1 f fd ["_law_mark_here","_law_quarter"] (aM K 2 oX):=by
 refine cq F nF [true,true] rfl (fun cdv A outer s H E hr=>?_)
 have sc:=@nF
 have nd1:(["_law_one","_law_other","_law_side","_law_quarter"]:List Str).Nodup:=by decide +kernel
 refine⟨_,(aq (aQ (aD (aK (cE hr rfl) (by rfl) TX.sorted (by decide +kernel) (ae (cF sc ["_law_one","_law_other","_law_side","_law_quarter"] [none,none,none,some 1] nd1 (by decide +kernel) (vF (af 0)) (fun _ _ _=>(fm (n:=3) (by rfl) (aE (av (i:=0) nd1 (by rfl) (e_ rfl) (by rfl) (hf:=(k_ rfl))) (aE (av (i:=1) nd1 (by rfl) (e_ rfl) (by rfl) (hf:=(k_ rfl))) (aE (av (i:=2) nd1 (by rfl) (e_ rfl) (by rfl) (hf:=(k_ rfl))) dE))))) (fun _ _ _=>(mh (br (cJ hr) (af 2) (az hr (af 3) ge_int) (aL _)))) (fun _ _ _=>(aB (ae (ah aS (az hr (af 3) ge_int) (af 0)) (ae (ah aS (az hr (af 3) ge_int) (af 1)) ag))))) ag))))),fun ts kk hl hp=>?_⟩
 clear hl
 obtain⟨u,M,q',rfl,hl,q⟩:=hp
 walk_at "go"
 refine aW (by rw[a_,sizeLine_eq];lia) (fun i acc ie=>∃ z1 z2 z3,acc=(abL (M.take i) q').map ptP/\ie=[z1,z2,z3,qtT q']) ⟨_,_,_,rfl,rfl⟩ ?_ ?_
 ·rintro i t _ _ ⟨z1,z2,z3,rfl,rfl⟩ ei
  obtain⟨m,em,rfl⟩:=cx ei
  walk_at "go"
  rw[t5 em,r_]
  refine aN (fun h=>?_) (fun h=>?_)
  ·walk_at "go"
   exact⟨_,_,_,by rw[if_pos h];rfl,rfl⟩
  walk_at "go"
  exact⟨_,_,_,by rw[if_neg h];exact(JO _).symm,rfl⟩
 rintro _ _ ⟨z1,z2,z3,rfl,rfl⟩
 rw[a_,F']
 walk_at "go"
 refine m9 false ((abL M q').map xW) (by rw[DQ]) (wF _) ?_
 rw[tD]
 walk_at "go"
 exact q
end
noncomputable def Ek:FP:=fun ts k=>∃(u o v:Bool) (rs:List Qt) (tl:List Tl) (q:Qt),ts=[.dT u (dQ rs),.lst o (tl.map fun t=>.dT v (dQ (nrQ t))),qtT q]/\tl.length < 100/\(∀ t∈tl,tlO t)/\∀ z1 z2 z3,k (wyT (wyN rs q 0 (tl.map nrQ))) [z1,z2,z3]
section
variable{P:NW}{w:N3}{K:NM}{mg:Str->Option NK}{base:N5}
theorem zp:FnScope ["_law_held","_law_marks_here","_law_quarter","_law_told","_law_number","_law_mark_here","_law_base","_law_corner","_law_beyond"] ["_law_held","_law_marks_here","_law_quarter"] (aA s_why):=⟨rfl,rfl,rfl,by decide +kernel,rfl,by decide +kernel,by decide +kernel⟩
set_option maxHeartbeats 4000000 in
theorem GQ{f:NN}{fd:N9}(F:Fun K "_law_why" "_law_why" s_why f fd)(TX:Txt mg)  (G_holding:Cal P w K mg base 1 "_law_holding" ["_law_mark_here","_law_quarter"] (aM K 2 oX))(G_first:Cal P w K mg base 1 "_law_first" ["_law_held","_law_base","_law_corner"] (aM K 3 wq)):FnOk P w K mg base CX0 2 f fd ["_law_held","_law_marks_here","_law_quarter"] (aM K 3 Ek):=by
 refine cq F zp [true,true,true] rfl (fun cdv A outer s H E hr=>?_)
 have sc:=@zp
 refine⟨_,(aj (aC (i:=3) sc.nd (by rfl) (e_ rfl) (by rfl) (aD (aT ag))) (aj (cP Od (by rfl) (mn (by rfl) TX.enumerate (ae (cC 1) ag)) (fm (n:=2) (by rfl) (aE (av (i:=4) sc.nd (by rfl) (e_ rfl) (by rfl)) (aE (av (i:=5) sc.nd (by rfl) (e_ rfl) (by rfl)) dE))) (aj (aC (i:=6) sc.nd (by rfl) (e_ rfl) (by rfl) (aD (aK (cE hr rfl) (by rfl) TX.sorted (by decide +kernel) (ae (aP (gy rfl) (by rfl) TX.list (by decide +kernel) (ae (af 5) ag)) ag)))) (aq (cP Od (by rfl) (cI (aD (ax G_holding hr (by rfl) (ai (af 5) (ai (af 2) ay))))) (av (i:=7) sc.nd (by rfl) (e_ rfl) (by rfl)) (aj (aC (i:=8) sc.nd (by rfl) (e_ rfl) (by rfl) (aD (ax G_first hr (by rfl) (ai (af 0) (ai (af 6) (ai (af 7) ay)))))) (aj (d5 (gp (br wm (af 8) i8 (aL _))) (aq (aQ i8)) b6) (aq (eX (iR 3 O2 O3 gj (ae (aD (aB (ae (af 4) (ae (af 7) (ae (af 8) ag))))) ag)))))))))) (aq (aQ (iq 3))))),fun ts kk hl hp=>?_⟩
 clear hl
 obtain⟨u,o,v,rs,tl,q',rfl,ht,ho,q⟩:=hp
 walk_at "go"
 refine bF (fun i env=>∃(a:List Rw) (z4 z5 z6 z7 z8:T),(wyN rs q' i ((tl.map nrQ).drop i)).map (a++·)=wyN rs q' 0 (tl.map nrQ)/\a.length<=10000 * i/\env=[.dT u (dQ rs),.lst false (tl.map fun t=>.dT false (dQ (nrQ t))),qtT q',.lst true (a.map o6),z4,z5,z6,z7,z8]) ⟨[],_,_,_,_,_,?_,z_ _,rfl⟩ ?_ ?_
 ·rw[KN]
  cases wyN rs q' 0 (tl.map nrQ) <;> rfl
 ·rintro i t _ ⟨a,z4,z5,z6,z7,z8,ew,la,rfl⟩ ei
  obtain⟨t,et,rfl⟩:=mf rfl ei
  have hi:i < tl.length:=(f_.mp et).1
  have hto:=ho t (JY et)
  have ln:=ql hto
  have up:=IL (t:=t)
  rw[iX (show(tl.map nrQ)[i]?=some (nrQ t) by rw[s_,et];rfl),wyN]at ew
  generalize (tl.map nrQ).drop (i + 1)=Ms at *
  walk_at "go"
  generalize nrQ t=M at *
  refine mG (mB up ?_)
  walk_at "go"
  refine⟨false,M,q',rfl,by lia,?_⟩
  have lc:=qD (abL M q')
  have lb:=pR M q'
  generalize srP (abL M q')=cs at *
  walk_at "go"
  refine bF (fun j env=>∃(a':List Rw) (z7 z8:T),((wyC M rs i (cs.drop j)).bind fun b=>(wyN rs q' (i + 1) Ms).map (b++·)).map (a'++·)=wyN rs q' 0 (tl.map nrQ)/\a'.length<=10000 * i + j/\env=[.dT u (dQ rs),.lst false (tl.map fun t=>.dT false (dQ (nrQ t))),qtT q',.lst true (a'.map o6),.int (i:Int),.dT false (dQ M),.lst true (M.map qtT),z7,z8]) ⟨a,_,_,ew,by omega,rfl⟩ ?_ ?_
  ·rintro j t' _ ⟨a',z7,z8,ew',la',rfl⟩ ej
   obtain⟨p,ep,rfl⟩:=cx ej
   have hj:j < cs.length:=(f_.mp ep).1
   rw[iX ep,wyC]at ew'
   walk_at "go"
   refine⟨false,false,M,rs,p,rfl,?_⟩
   cases e:fsQ p rs M with
   | none=>
    rw[e]at ew'
    have ew':none=wyN rs q' 0 (tl.map nrQ):=ew'
    rw[<-ew']at q
    dsimp only[oqT]
    walk_at "go"
    exact q _ _ _
   | some z=>
    rw[e]at ew'
    dsimp only[oqT]
    walk_at "go"
    refine⟨by lia,a'++[(i,p,z)],_,_,?_,by rw[h_];show a'.length + 1<=_;lia,by rw[r_];rfl⟩
    rw[<-ew']
    exact vR
  rintro _ ⟨a',z7,z8,ew',la',rfl⟩
  rw[a_,KR,wyC]at ew'
  rw[a_]at la'
  exact⟨a',_,_,_,_,_,by rw[<-ew'];cases wyN rs q' (i + 1) Ms <;> rfl,by lia,rfl⟩
 rintro _ ⟨a,z4,z5,z6,z7,z8,ew,la,rfl⟩
 rw[jP rfl,<-a_ (f:=nrQ),KR]at ew
 have ew:some (a++[])=wyN rs q' 0 (tl.map nrQ):=ew
 rw[<-ew,JO]at q
 walk_at "go"
 exact q _ _ _
end
noncomputable def Br:FP:=fun ts k=>∃(c:Cells) (n:Nat) (o:Bool) (qs:List Qt) (m:Int),ts=[stT c n,.lst o (qs.map qtT),.int m]/\n < 2 ^ 38/\qs.length < 250000/\0<=m/\m<=20/\∀(c':Cells) (n':Nat) (rs:List Qt) (z:T),n<=n'->n'<=n + 20->(∀ r∈rs,r∈qs)->k (.lst true (rs.map qtT)) [stT c' n',z,.int m]
section
variable{P:NW}{w:N3}{K:NM}{mg:Str->Option NK}{base:N5}
theorem wg:FnScope ["_law_state","_law_rows","_law_many"] ["_law_state","_law_rows","_law_many"] (aA s_some):=⟨rfl,rfl,rfl,by decide +kernel,rfl,by decide +kernel,by decide +kernel⟩
set_option maxHeartbeats 4000000 in
theorem CU{f:NN}{fd:N9}(F:Fun K "_law_some" "_law_some" s_some f fd)(TX:Txt mg)  (G_take:Cal P w K mg base 1 "_law_take" ["_law_state","_law_many"] (aM K 2 gG)):FnOk P w K mg base CX0 2 f fd ["_law_state","_law_rows","_law_many"] (aM K 3 Br):=by
 refine cq F wg [true,true,true] rfl (fun cdv A outer s H E hr=>?_)
 have sc:=@wg
 have nd1:(["_law_turn","_law_rows","_law_state"]:List Str).Nodup:=by decide +kernel
 refine⟨_,(aj (d5 (gp (br (cJ hr) (af 1) (aT ag) (aL _))) (aq (aQ (aD (aT ag)))) b6) (aq (aQ (cF sc ["_law_turn","_law_rows","_law_state"] [none,some 1,some 0] nd1 (by decide +kernel) (eM (by rfl) TX.range (ae (cC 2) ag)) (fun _ _ _=>(av (i:=0) nd1 (by rfl) (e_ rfl) (by rfl) (hf:=(k_ rfl)))) (fun _ _ _=>cA) (fun _ _ _=>(az hr (cC 1) (ax G_take hr (by rfl) (aJ 2 (ai (aD (aK iZ (by rfl) TX.len (by decide +kernel) (ae (af 1) ag))) ay))))))))),fun ts kk hl hp=>?_⟩
 clear hl
 obtain⟨c,n,o,qs,m,rfl,hn,hl,m0,m1,q⟩:=hp
 walk_at "go"
 refine CW ?_
 walk_at "go"
 refine aN (fun h=>?_) (fun h=>?_)
 ·walk_at "go"
  exact q c n [] _ (c_ _) (by lia) (fun r m=>by cases m)
 have h0:0 < qs.length:=Lq.mpr h
 walk_at "go"
 refine⟨by lia,aW (by rw[bC,sizeLine_eq];lia) (fun i acc ie=>∃(c':Cells) (n':Nat) (rs:List Qt) (z:T) (o':Bool),n<=n'/\n'<=n + i/\(∀ r∈rs,r∈qs)/\acc=rs.map qtT/\ie=[z,.lst o' (qs.map qtT),stT c' n']) ⟨c,n,[],_,o,c_ _,c_ _,(fun r m=>by cases m),rfl,rfl⟩ ?_ ?_⟩
 ·rintro i t _ _ ⟨c',n',rs,z,o',l1,l2,hr,rfl,rfl⟩ ei
  have hi:=eK ei
  walk_at "go"
  walk_at "take"
  intro r c2 a2 b2
  walk_at "go"
  obtain⟨t,mt,e⟩:=qu (l:=qs.map qtT) (i:=r) a2 (by rw[a_];exact b2)
  obtain⟨v,mv,rfl⟩:=y_.mp mt
  refine bz e ?_
  walk_at "go"
  refine⟨c2,n' + 1,rs++[v],_,_,by lia,by lia,fun r m=>?_,by rw[r_];rfl,rfl⟩
  rcases D_.mp m with m | m
  ·exact hr r m
  rw[C_.mp m];exact mv
 rintro _ _ ⟨c',n',rs,z,o',l1,l2,hr,rfl,rfl⟩
 rw[bC]at l2
 walk_at "go"
 exact q c' n' rs _ l1 (by lia) hr
end
noncomputable def tN:FP:=fun ts k=>∃(c:Cells) (n:Nat) (u:Bool) (qs:List Qt),ts=[stT c n,.dT u (dQ qs)]/\n < 2 ^ 38/\upQ qs/\qs.length < 250000/\∀(c':Cells) (n':Nat) (b:Bool) (rs:List Qt) (z:T),n<=n'->n'<=n + 20->rs.Perm qs->k (.lst true (rs.map (qbT b true))) [stT c' n',z]
section
variable{P:NW}{w:N3}{K:NM}{mg:Str->Option NK}{base:N5}
theorem oM:FnScope ["_law_state","_law_held","_law_rows","_law_way","_law_cut"] ["_law_state","_law_held"] (aA s_strewn):=⟨rfl,rfl,rfl,by decide +kernel,rfl,by decide +kernel,by decide +kernel⟩
set_option maxHeartbeats 4000000 in
theorem xK{f:NN}{fd:N9}(F:Fun K "_law_strewn" "_law_strewn" s_strewn f fd)(TX:Txt mg)  (G_take:Cal P w K mg base 1 "_law_take" ["_law_state","_law_many"] (aM K 2 gG)):FnOk P w K mg base CX0 2 f fd ["_law_state","_law_held"] (aM K 2 tN):=by
 refine cq F oM [true,true] rfl (fun cdv A outer s H E hr=>?_)
 have sc:=@oM
 have nd1:(["_law_quarter"]:List Str).Nodup:=by decide +kernel
 refine⟨_,(aj (aC (i:=2) sc.nd (by rfl) (e_ rfl) (by rfl) (aD (aK (cE hr rfl) (by rfl) TX.sorted (by decide +kernel) (ae (aP (gy rfl) (by rfl) TX.list (by decide +kernel) (ae (af 1) ag)) ag)))) (aj (aC (i:=3) sc.nd (by rfl) (e_ rfl) (by rfl) (ax G_take hr (by rfl) (aJ 0 (ai ge_int ay)))) (bc (d5 (gp (br (cJ hr) (af 3) ge_int (aL _))) (aq (eX (mM 2 P9 P_ iO))) b6) (bc (d5 (gp (En (AF (br uW (af 3) ge_int (aL _)) (xB (br (qg hr) (af 2) (aT ag) (aL _)))))) (aj (aC (i:=4) sc.nd (by rfl) (e_ rfl) (by rfl) (ax G_take hr (by rfl) (aJ 0 (ai (aD (aK iZ (by rfl) TX.len (by decide +kernel) (ae (af 2) ag))) ay)))) (aq (aC (i:=2) sc.nd (by rfl) (e_ rfl) (by rfl) (aD (ah au (jJ (af 2) (mC (af 4)) me) (jJ (af 2) me (mC (af 4)))))))) b6) (bc (d5 (gp (br (cJ hr) (af 3) ge_int (aL _))) (aq (aC (i:=2) sc.nd (by rfl) (e_ rfl) (by rfl) (aD (ah au (uD (af 2) ge_int) (xH (af 2) ge_int ge_int))))) b6) (bc (d5 (br (cJ hr) (ax G_take hr (by rfl) (aJ 0 (ai ge_int ay))) ge_int (aL _)) (aq (nz sc (i:=2) ["_law_quarter"] [none] nd1 (by decide +kernel) (by rfl) (e_ rfl) (by rfl) (cI (af 2)) (fun _ _ _=>(av (i:=0) nd1 (by rfl) (e_ rfl) (by rfl) (hf:=(k_ rfl)))) (fun _ _ _=>cA) (fun _ _ _=>(aP gm (by rfl) TX.list (by decide +kernel) (ae (af 0) ag))) (by rfl))) b6) (aq (aQ (iq 2))))))))),fun ts kk hl hp=>?_⟩
 clear hl
 obtain⟨c,n,u,qs,rfl,hn,hu,hl,q⟩:=hp
 walk_at "go"
 refine mG (mB hu ?_)
 walk_at "go"
 walk_at "take"
 intro w' c1 a1 b1
 walk_at "go"
 refine cv (fun env=>∃(rs:List Qt) (z:T),rs.Perm qs/\env=[stT c1 (n + 1),.dT u (dQ qs),.lst true (rs.map qtT),.int w',z]) ?_ ?_
 ·walk_at "go"
  refine aN (fun g=>?_) (fun g=>?_)
  ·walk_at "go"
   exact⟨qs.reverse,_,Na _,by rw[Nq]⟩
  walk_at "go"
  exact⟨qs,_,.refl _,rfl⟩
 rintro _ ⟨rs,z,pm,rfl⟩
 refine cv (fun env=>∃(c':Cells) (n':Nat) (rs:List Qt) (z:T),n + 1<=n'/\n'<=n + 2/\rs.Perm qs/\env=[stT c' n',.dT u (dQ qs),.lst true (rs.map qtT),.int w',z]) ?_ ?_
 ·walk_at "go"
  refine aN (fun g=>?_) (fun g=>?_)
  ·walk_at "go"
   refine Cu ?_
   walk_at "go"
   refine aN (fun h=>?_) (fun h=>?_)
   ·walk_at "go"
    exact⟨c1,n + 1,rs,_,c_ _,by lia,pm,rfl⟩
   have h0:0 < rs.length:=Lq.mpr h
   have hl':=pm.length_eq
   walk_at "go"
   walk_at "take"
   intro r c2 a2 b2
   walk_at "go"
   obtain⟨e1,e2⟩:=E8 (ts:=rs.map qtT) (m:=r) a2 (by rw[a_];exact b2)
   rw[e1,e2,<-MR,<-MT,dC,dC,<-r_]
   refine⟨by rw[a_,a_,C',A_];omega,by rw[show((rs.drop r.toNat).all fun x=>cD (qtT x))=true from fM _,show((rs.take r.toNat).all fun x=>cD (qtT x))=true from fM _];rfl,c2,n + 1 + 1,rs.drop r.toNat++rs.take r.toNat,_,by lia,by lia,?_,rfl⟩
   exact(JX.trans (.of_eq (E_ _ _))).trans pm
  walk_at "go"
  exact⟨c1,n + 1,rs,_,c_ _,by lia,pm,rfl⟩
 clear pm rs
 rintro _ ⟨c2,n2,rs,z,l1,l2,pm,rfl⟩
 refine cv (fun env=>∃(rs:List Qt) (z:T),rs.Perm qs/\env=[stT c2 n2,.dT u (dQ qs),.lst true (rs.map qtT),.int w',z]) ?_ ?_
 ·walk_at "go"
  refine aN (fun g=>?_) (fun g=>?_)
  ·walk_at "go"
   refine zo (by decide) (by decide) (by rw[jj];exact fM _) ?_
   walk_at "go"
   refine zo (by decide) (by decide) (by rw[jj];exact fM _) ?_
   walk_at "go"
   have pp:=yn rs
   have pl:=pp.length_eq
   have hl':=pm.length_eq
   rw[h_]at pl
   rw[sN,sN,dC,dC,<-r_]
   exact⟨by rw[a_,a_];lia,by rw[show((bt rs 0 2).all fun x=>cD (qtT x))=true from fM _,show((bt rs 1 2).all fun x=>cD (qtT x))=true from fM _];rfl,_,_,pp.trans pm,rfl⟩
  walk_at "go"
  exact⟨rs,_,pm,rfl⟩
 clear pm rs
 rintro _ ⟨rs,z,pm,rfl⟩
 refine cv (fun env=>∃(c':Cells) (b:Bool) (rs:List Qt) (z:T),rs.Perm qs/\env=[stT c' (n2 + 1),.dT u (dQ qs),.lst true (rs.map (qbT b true)),.int w',z]) ?_ ?_
 ·walk_at "go"
  walk_at "take"
  intro r c3 a3 b3
  walk_at "go"
  refine aN (fun g=>?_) (fun g=>?_)
  ·walk_at "go"
   refine aW (by rw[a_,sizeLine_eq,pm.length_eq];lia) (fun i acc ie=>∃ z,acc=(rs.take i).map (qbT true true)/\ie=[z]) ⟨_,rfl,rfl⟩ ?_ ?_
   ·rintro i t _ _ ⟨z,rfl,rfl⟩ ei
    obtain⟨m,em,rfl⟩:=cx ei
    walk_at "go"
    exact⟨_,by rw[map_take em];rfl,rfl⟩
   rintro _ _ ⟨z,rfl,rfl⟩
   rw[a_,F']
   walk_at "go"
   exact⟨fM rs,c3,true,rs,_,pm,rfl⟩
  walk_at "go"
  exact⟨c3,false,rs,_,pm,rfl⟩
 clear pm rs
 rintro _ ⟨c3,b,rs,z,pm,rfl⟩
 walk_at "go"
 exact q c3 (n2 + 1) b rs _ (by lia) (by lia) pm
end
noncomputable def tP:FP:=fun ts k=>∃(c:Cells) (n:Nat) (b:Bool),ts=[stT c n,.bl b]/\n < 2 ^ 37/\∀(c':Cells) (n':Nat) (qs:List Qt) (z:T),n<=n'->n'<=n + 1000->upQ qs->(∀ q∈qs,okQ q)->qs.length<=230400->k (.dT true (dQ qs)) [stT c' n',z]
section
variable{P:NW}{w:N3}{K:NM}{mg:Str->Option NK}{base:N5}
theorem pH:FnScope ["_law_state","_law_broad","_law_x","_law_y","_law_wide","_law_high","_law_held","_law_turn","_law_spot","_law_quarter"] ["_law_state","_law_broad"] (aA s_pocket):=⟨rfl,rfl,rfl,by decide +kernel,rfl,by decide +kernel,by decide +kernel⟩
set_option maxHeartbeats 4000000 in
theorem yd{f:NN}{fd:N9}(F:Fun K "_law_pocket" "_law_pocket" s_pocket f fd)(TX:Txt mg)  (G_take:Cal P w K mg base 1 "_law_take" ["_law_state","_law_many"] (aM K 2 gG))(G_outline:Cal P w K mg base 2 "_law_outline" ["_law_state","_law_x","_law_y","_law_wide","_law_high"] (aM K 5 pI))(G_inside:Cal P w K mg base 2 "_law_inside" ["_law_corners"] (aM K 1 sO))(G_island:Cal P w K mg base 2 "_law_island" ["_law_state","_law_x","_law_y"] (aM K 3 rF)):FnOk P w K mg base CX0 3 f fd ["_law_state","_law_broad"] (aM K 2 tP):=by
 refine cq F pH [true,true] rfl (fun cdv A outer s H E hr=>?_)
 have sc:=@pH
 refine⟨_,(bc (n9 (i:=2) (j:=3) (by rfl) sc.nd (by rfl) (by rfl) (by decide) (by rfl) (by rfl) (by rfl) (by rfl) (ae (ah aS (ax G_take hr (by rfl) (aJ 0 (ai ge_int ay))) ge_int) (ae (ah aS (ax G_take hr (by rfl) (aJ 0 (ai ge_int ay))) ge_int) ag)) (by rfl)) (bc (aC (i:=4) sc.nd (by rfl) (e_ rfl) (by rfl) (az hr (aT (ae (ah au ge_int (ax G_take hr (by rfl) (aJ 0 (ai ge_int ay)))) (ae (ah au ge_int (ax G_take hr (by rfl) (aJ 0 (ai ge_int ay)))) ag))) (aD (aP fw (by rfl) TX.int (by decide +kernel) (ae (af 1) ag))))) (aj (aC (i:=5) sc.nd (by rfl) (e_ rfl) (by rfl) (ah au (aD (ah au ge_int (aP fw (by rfl) TX.int (by decide +kernel) (ae (af 1) ag)))) (ax G_take hr (by rfl) (aJ 0 (ai (aD (ah au ge_int (aP fw (by rfl) TX.int (by decide +kernel) (ae (af 1) ag)))) ay))))) (bc (aC (i:=6) sc.nd (by rfl) (e_ rfl) (by rfl) (ax G_inside hr (by rfl) (ai (ax G_outline hr (by rfl) (aJ 0 (ai (cC 2) (ai (cC 3) (ai (cC 4) (ai (cC 5) ay)))))) ay))) (bc (cP Od (by rfl) (eM (by rfl) TX.range (ae (az hr (aD (aT (ae ge_int (ae ge_int (ae ge_int (ae ge_int (ae ge_int (ae ge_int ag)))))))) (ax G_take hr (by rfl) (aJ 0 (ai ge_int ay)))) ag)) (av (i:=7) sc.nd (by rfl) (e_ rfl) (by rfl)) (aj (aC (i:=8) sc.nd (by rfl) (e_ rfl) (by rfl) (aB (ae (ah au (cC 2) (ax G_take hr (by rfl) (aJ 0 (ai (cC 4) ay)))) (ae (ah au (cC 3) (ax G_take hr (by rfl) (aJ 0 (ai (cC 5) ay)))) ag)))) (aq (cP Od (by rfl) (vF (ax G_inside hr (by rfl) (ai (ax G_island hr (by rfl) (aJ 0 (ai (aD (az hr (af 8) ge_int)) (ai (aD (az hr (af 8) ge_int)) ay)))) ay))) (av (i:=9) sc.nd (by rfl) (e_ rfl) (by rfl)) (aq (eX (AB (i:=6) hr (cC 9) i8 ⟨rfl,rfl,rfl,rfl⟩))))))) (bc (d5 (En (AF (gp (br (Dj hr) (af 6) qq (aL _))) (xB (br (cJ hr) (ax G_take hr (by rfl) (aJ 0 (ai ge_int ay))) ge_int (aL _))))) (aq (eX (Bq (i:=6) hr (az hr (aD (aK (cE hr rfl) (by rfl) TX.sorted (by decide +kernel) (ae (aP (gy rfl) (by rfl) TX.list (by decide +kernel) (ae (af 6) ag)) ag))) (ax G_take hr (by rfl) (aJ 0 (ai (aD (aK iZ (by rfl) TX.len (by decide +kernel) (ae (af 6) ag))) ay)))) ⟨rfl,rfl,rfl,rfl⟩))) b6) (aq (aQ (iq 6))))))))),fun ts kk hl hp=>?_⟩
 clear hl
 obtain⟨c,n,b,rfl,hn,q⟩:=hp
 refine cv (fun env=>∃(c':Cells) (x y:Int),bd 50 x/\bd 50 y/\env=[stT c' (n + 2),.bl b,.int x,.int y,.any,.any,.any,.any,.any,.any]) ?_ ?_
 ·walk_at "go"
  walk_at "take"
  intro x c1 x0 x1
  walk_at "go"
  walk_at "take"
  intro y c2 y0 y1
  walk_at "go"
  exact⟨c2,_,_,⟨by lia,by lia⟩,⟨by lia,by lia⟩,rfl⟩
 rintro _ ⟨c1,x,y,hx,hy,rfl⟩
 refine cv (fun env=>∃(c':Cells) (wd:Int),8<=wd/\wd<=20/\env=[stT c' (n + 4),.bl b,.int x,.int y,.int wd,.any,.any,.any,.any,.any]) ?_ ?_
 ·walk_at "go"
  walk_at "take"
  intro w1 c3 a3 b3
  walk_at "go"
  walk_at "take"
  intro w2 c4 a4 b4
  walk_at "go"
  obtain⟨wd,ew,w0,w5⟩:∃ v:Int,atI [T.int (8 + w1),.int (13 + w2)] (if b=true then 1 else 0)=some (.int v)/\8<=v/\v<=20:=by
   cases b
   ·exact⟨_,rfl,by lia,by lia⟩
   exact⟨_,rfl,by lia,by lia⟩
  refine bz ew ?_
  walk_at "go"
  exact⟨c4,wd,w0,w5,rfl⟩
 rintro _ ⟨c2,wd,w0,w1,rfl⟩
 obtain⟨bi,eb,bi0,bi1⟩:∃ v:Int,(if b=true then(1:Int)else 0)=v/\0<=v/\v<=1:=by
  cases b
  ·exact⟨_,rfl,by decide,by decide⟩
  exact⟨_,rfl,by decide,by decide⟩
 walk_at "go"
 rw[eb]
 walk_at "take"
 intro h1 c5 a5 b5
 walk_at "go"
 obtain⟨hx0,hx1⟩:=id hx
 obtain⟨hy0,hy1⟩:=id hy
 have hg0:8<=8 + bi + h1/\8 + bi + h1<=20:=by lia
 generalize 8 + bi + h1=hg at *
 refine cv (fun env=>∃(c':Cells) (n':Nat) (qs:List Qt),n + 5<=n'/\n'<=n + 25/\upQ qs/\(∀ q∈qs,okQ q)/\qs.length<=230400/\env=[stT c' n',.bl b,.int x,.int y,.int wd,.int hg,.dT true (dQ qs),.any,.any,.any]) ?_ ?_
 ·walk_at "go"
  refine⟨c5,n + 5,x,y,wd,hg,rfl,by lia,hx,hy,by lia,by lia,by lia,by lia,fun c6 n6 ps l1 l2 p0 p1 pb=>?_⟩
  walk_at "go"
  refine⟨true,ps,rfl,p0,by lia,nP fun p m=>yP (fG pb m) (by decide),fun qs z u1 u2 u3=>?_⟩
  walk_at "go"
  exact⟨c6,n6,qs,by omega,by omega,u1,u2,u3,rfl⟩
 rintro _ ⟨c6,n6,qs,l1,l2,u1,u2,u3,rfl⟩
 refine cv (fun env=>∃(c':Cells) (n':Nat) (qs:List Qt) (z7 z8 z9:T),n6<=n'/\n'<=n6 + 500/\upQ qs/\(∀ q∈qs,okQ q)/\qs.length<=230400/\env=[stT c' n',.bl b,.int x,.int y,.int wd,.int hg,.dT true (dQ qs),z7,z8,z9]) ?_ ?_
 ·walk_at "go"
  walk_at "take"
  intro r c7 a7 b7
  walk_at "go"
  obtain⟨v,ev,v0,v1⟩:=iW (fun v=>0<=v/\v<=2) (ns:=[0,0,0,1,1,2]) (i:=r) (by omega) (by show r < 6;omega) (by
   intro v hv
   simp only[t_,LO,or_false]at hv
   lia)
  refine bz ev ?_
  walk_at "go"
  refine⟨by lia,bF (fun i env=>∃(c':Cells) (n':Nat) (qs:List Qt) (z7 z8 z9:T),n6<=n'/\n'<=n6 + 1 + 50 * i/\upQ qs/\(∀ q∈qs,okQ q)/\qs.length<=230400/\env=[stT c' n',.bl b,.int x,.int y,.int wd,.int hg,.dT true (dQ qs),z7,z8,z9]) ⟨c7,n6 + 1,qs,_,_,_,by lia,by lia,u1,u2,u3,rfl⟩ ?_ ?_⟩
  ·clear u1 u2 u3 qs
   rintro i t7 _ ⟨c8,n8,qs,z7,z8,z9,l3,l4,u1,u2,u3,rfl⟩ ei
   have hi:=eK ei
   walk_at "go"
   walk_at "take"
   intro r1 c9 a9 b9
   walk_at "go"
   walk_at "take"
   intro r2 c10 a10 b10
   walk_at "go"
   refine⟨c10,n8 + 1 + 1,x + r1,y + r2,rfl,by lia,⟨by lia,by lia⟩,⟨by lia,by lia⟩,fun c11 n11 ps l5 l6 p0 p1 pb=>?_⟩
   walk_at "go"
   refine⟨true,ps,rfl,p0,by lia,nP fun p m=>yP (fG pb m) (by decide),fun is z w1 w2 w3=>?_⟩
   walk_at "go"
   refine bF (fun j env=>∃(qs:List Qt) (z9:T),upQ qs/\(∀ q∈qs,okQ q)/\qs.length<=230400/\env=[stT c11 n11,.bl b,.int x,.int y,.int wd,.int hg,  .dT true (dQ qs),t7,.tup [.int (x + r1),.int (y + r2)],z9]) ⟨qs,_,u1,u2,u3,rfl⟩ ?_ ?_
   ·clear u1 u2 u3 qs
    rintro j t _ ⟨qs,z9,u1,u2,u3,rfl⟩ ej
    obtain⟨m,em,rfl⟩:=cx ej
    walk_at "go"
    refine Bh fun rs u hs=>?_
    exact⟨rs,_,u1.sublist hs,fun q m=>u2 q (hs.subset m),n_ hs.length_le u3,rfl⟩
   clear u1 u2 u3 qs
   rintro _ ⟨qs,z9,u1,u2,u3,rfl⟩
   exact⟨c11,n11,qs,_,_,_,by lia,by lia,u1,u2,u3,rfl⟩
  clear u1 u2 u3 qs
  rintro _ ⟨c8,n8,qs,z7,z8,z9,l3,l4,u1,u2,u3,rfl⟩
  rw[bC]at l4
  exact⟨c8,n8,qs,_,_,_,by omega,by lia,u1,u2,u3,rfl⟩
 clear u1 u2 u3 qs
 rintro _ ⟨c7,n7,qs,z7,z8,z9,l3,l4,u1,u2,u3,rfl⟩
 refine cv (fun env=>∃(c':Cells) (n':Nat) (qs:List Qt) (z7 z8 z9:T),n7<=n'/\n'<=n7 + 2/\upQ qs/\(∀ q∈qs,okQ q)/\qs.length<=230400/\env=[stT c' n',.bl b,.int x,.int y,.int wd,.int hg,.dT true (dQ qs),z7,z8,z9]) ?_ ?_
 ·walk_at "go"
  rw[nA]
  refine v5 (fun h=>?_) (fun h=>?_)
  ·have h0:0 < qs.length:=by
    have:=bne_iff_ne.mp h
    lia
   walk_at "go"
   walk_at "take"
   intro r c8 a8 b8
   walk_at "go"
   refine aN (fun g=>?_) (fun g=>?_)
   ·walk_at "go"
    refine mG (mB u1 ?_)
    walk_at "go"
    rw[nA]
    walk_at "take"
    intro r2 c9 a9 b9
    walk_at "go"
    obtain⟨t,mt,e⟩:=qu (l:=qs.map qtT) (i:=r2) a9 (by rw[a_];exact b9)
    obtain⟨v,mv,rfl⟩:=y_.mp mt
    refine bz e ?_
    walk_at "go"
    refine BW mv fun rs u hs=>?_
    exact⟨c9,n7 + 1 + 1,rs,_,_,_,by lia,by lia,u1.sublist hs,fun q m=>u2 q (hs.subset m),n_ hs.length_le u3,rfl⟩
   walk_at "go"
   exact⟨c8,n7 + 1,qs,_,_,_,by lia,by lia,u1,u2,u3,rfl⟩
  walk_at "go"
  exact⟨c7,n7,qs,_,_,_,by lia,by lia,u1,u2,u3,rfl⟩
 clear u1 u2 u3 qs
 rintro _ ⟨c8,n8,qs,z7,z8,z9,l5,l6,u1,u2,u3,rfl⟩
 walk_at "go"
 exact q c8 n8 qs _ (by lia) (by lia) u1 u2 u3
end
section
variable{P:NW}{w:N3}{K:NM}{mg:Str->Option NK}{base:N5}
theorem B0:FnScope ["_law_script","_law_state","_law_held","_law_region","_law_tools_here","_law_marks_here","_law_kept","_law_handed","_law_quarter","_law_due","_law_found","_law_some_here"] ["_law_script"] (aA s_law):=⟨rfl,rfl,rfl,by decide +kernel,rfl,by decide +kernel,by decide +kernel⟩
set_option maxHeartbeats 4000000 in
theorem Gj{f:NN}{fd:N9}(F:Fun K "law" "law" s_law f fd)(TX:Txt mg)  (G_why_left:Cal P w K mg base 5 "why_left" ["region","tools","quarter"] (aM K 3 n0))(G_begin:Cal P w K mg base 1 "_law_begin" ["_law_script"] (aM K 1 (qa K)))(G_take:Cal P w K mg base 1 "_law_take" ["_law_state","_law_many"] (aM K 2 gG))(G_same:Cal P w K mg base 4 "_law_same" ["_law_found","_law_due"] (aM K 2 (nU 4)))(G_tool:Cal P w K mg base 2 "_law_tool" ["_law_state","_law_most"] (aM K 2 uG))(G_pocket:Cal P w K mg base 3 "_law_pocket" ["_law_state","_law_broad"] (aM K 2 tP))(G_strewn:Cal P w K mg base 2 "_law_strewn" ["_law_state","_law_held"] (aM K 2 tN))(G_marks:Cal P w K mg base 3 "_law_marks" ["_law_tools_here"] (aM K 1 xA))(G_why:Cal P w K mg base 2 "_law_why" ["_law_held","_law_marks_here","_law_quarter"] (aM K 3 Ek))(G_tools:Cal P w K mg base 3 "_law_tools" ["_law_state","_law_most","_law_least"] (aM K 3 wU))(G_some:Cal P w K mg base 2 "_law_some" ["_law_state","_law_rows","_law_many"] (aM K 3 Br)):FnOk P w K mg base CX0 6 f fd ["_law_script"] (aM K 1 (A3 K)):=by
 refine cq F B0 [true] rfl (fun cdv A outer s H E hr=>?_)
 have sc:=@B0
 have nd1:(["_law_turn","_law_state"]:List Str).Nodup:=by decide +kernel
 have nd2:(["_law_tool_here"]:List Str).Nodup:=by decide +kernel
 refine⟨_,(bc (aC (i:=1) sc.nd (by rfl) (k_ rfl) (by rfl) (aD (ax G_begin hr (by rfl) (ai (af 0) ay)))) (bc (aC (i:=2) sc.nd (by rfl) (e_ rfl) (by rfl) (ax G_pocket hr (by rfl) (aJ 1 (ai (gE (cJ hr) (ax G_take hr (by rfl) (aJ 1 (ai ge_int ay))) ge_int (aL _)) ay)))) (bc (aC (i:=3) sc.nd (by rfl) (e_ rfl) (by rfl) (ax G_strewn hr (by rfl) (aJ 1 (ai (cC 2) ay)))) (bc (aC (i:=4) sc.nd (by rfl) (e_ rfl) (by rfl) (ax G_tools hr (by rfl) (aJ 1 (ai (az hr (aD (aT (ae ge_int (ae ge_int ag)))) (aP fw (by rfl) TX.int (by decide +kernel) (ae (gE (cJ hr) (ax G_take hr (by rfl) (aJ 1 (ai ge_int ay))) ge_int (aL _)) ag))) (ai (aP fw (by rfl) TX.int (by decide +kernel) (ae (gE uW (ax G_take hr (by rfl) (aJ 1 (ai ge_int ay))) ge_int (aL _)) ag)) ay))))) (bc (d5 (br (cJ hr) (ax G_take hr (by rfl) (aJ 1 (ai ge_int ay))) ge_int (aL _)) (aq (wZ sc (i:=4) ["_law_turn","_law_state"] [none,some 1] nd1 (by decide +kernel) (by rfl) (e_ rfl) (by rfl) (eM (by rfl) TX.range (ae ge_int ag)) (fun _ _ _=>(av (i:=0) nd1 (by rfl) (e_ rfl) (by rfl) (hf:=(k_ rfl)))) (fun _ _ _=>cA) (fun _ _ _=>(ax G_tool hr (by rfl) (aJ 1 (ai ge_int ay)))) (by rfl))) b6) (bc (aC (i:=5) sc.nd (by rfl) (e_ rfl) (by rfl) (aD (ax G_marks hr (by rfl) (ai (af 4) ay)))) (bc (aC (i:=6) sc.nd (by rfl) (e_ rfl) (by rfl) (aD (aP (pF hr) (by rfl) TX.str (by decide +kernel) (ae (af 3) ag)))) (bc (aC (i:=7) sc.nd (by rfl) (e_ rfl) (by rfl) (aT (ae (aP gm (by rfl) TX.list (by decide +kernel) (ae (cC 3) ag)) (ae (aP gm (by rfl) TX.list (by decide +kernel) (ae (cC 4) ag)) ag)))) (aj (cP Od (by rfl) (cI (ax G_some hr (by rfl) (aJ 1 (ai (aD (aK (cE hr rfl) (by rfl) TX.sorted (by decide +kernel) (ae (aP (gy rfl) (by rfl) TX.list (by decide +kernel) (ae (af 2) ag)) ag))) (ai ge_int ay))))) (av (i:=8) sc.nd (by rfl) (e_ rfl) (by rfl)) (aj (aC (i:=9) sc.nd (by rfl) (e_ rfl) (by rfl) (aD (ax G_why hr (by rfl) (ai (af 2) (ai (af 5) (ai (af 8) ay)))))) (aj (aC (i:=10) sc.nd (by rfl) (e_ rfl) (by rfl) (aD (ax G_why_left hr (by rfl) (ai (az hr (af 7) ge_int) (ai (az hr (af 7) ge_int) (ai (af 8) ay)))))) (aj (d5 (gp (En (E3 (uH (kJ (ax G_same hr (by rfl) (ai (af 10) (ai (af 9) ay))))) (E3 (br (qg hr) (af 7) (aT (ae (af 3) (ae (af 4) ag))) (aL _)) (Fw (br (qg hr) (aP (pF hr) (by rfl) TX.str (by decide +kernel) (ae (af 3) ag)) (af 6) (aL _))))))) (aq (aQ mZ)) b6) (bc (d5 (gp (br Ao (af 10) i8 (aL _))) (aj (eX (iR 10 O2 O3 gj (ae i8 ag))) (aq (eX (mM 10 P9 P_ iO)))) b6) (aj (aC (i:=11) sc.nd (by rfl) (e_ rfl) (by rfl) (aD (aP fI (by rfl) TX.tuple (by decide +kernel) (ae (cF sc ["_law_tool_here"] [none] nd2 (by decide +kernel) (cI (af 4)) (fun _ _ _=>(av (i:=0) nd2 (by rfl) (e_ rfl) (by rfl) (hf:=(k_ rfl)))) (fun _ _ _=>cA) (fun _ _ _=>(aP gm (by rfl) TX.list (by decide +kernel) (ae (af 0) ag)))) ag)))) (aj (d5 (gp (uH (kJ (ax G_same hr (by rfl) (ai (ax G_why_left hr (by rfl) (ai (aP fI (by rfl) TX.tuple (by decide +kernel) (ae (aK (cE hr rfl) (by rfl) TX.sorted (by decide +kernel) (ae (af 3) ag)) ag)) (ai (af 11) (ai (aP gm (by rfl) TX.list (by decide +kernel) (ae (af 8) ag)) ay)))) (ai (af 9) ay)))))) (aq (aQ mZ)) b6) (aq (d5 (gp (uH (kJ (ax G_same hr (by rfl) (ai (ax G_why_left hr (by rfl) (ai (af 3) (ai (aT ag) (ai (af 8) ay)))) (ai (aT ag) ay)))))) (aq (aQ mZ)) b6))))))))) (aq (aQ mZ))))))))))),fun ts kk hl hp=>?_⟩
 clear hl
 obtain⟨t,ns,rfl,hs,hn,q⟩:=hp
 refine cv (fun env=>∃ z c,env=[z,stT c 0,.any,.any,.any,.any,.any,.any,.any,.any,.any,.any]) ?_ ?_
 ·walk_at "go"
  obtain⟨e,i⟩:=Fd hs
  rw[e]
  exact⟨i,t,ns,rfl,hs,hn,fun c=>⟨zK,_,c,rfl⟩⟩
 rintro _ ⟨z,c,rfl⟩
 refine cv (fun env=>∃(c:Cells) (n:Nat) (qs:List Qt),n<=1100/\upQ qs/\(∀ q∈qs,okQ q)/\qs.length<=230400/\env=[z,stT c n,.dT true (dQ qs),.any,.any,.any,.any,.any,.any,.any,.any,.any]) ?_ ?_
 ·walk_at "go"
  walk_at "take"
  intro r c1 a1 b1
  walk_at "go"
  refine⟨c1,1,decide (r=0),rfl,by decide,fun c2 n2 qs z l1 l2 u1 u2 u3=>?_⟩
  walk_at "go"
  exact⟨c2,n2,qs,by lia,u1,u2,u3,rfl⟩
 rintro _ ⟨c,n,qs,hn,u1,u2,u3,rfl⟩
 refine cv (fun env=>∃(c:Cells) (n:Nat) (b:Bool) (rs:List Qt),n<=1200/\rs.Perm qs/\env=[z,stT c n,.dT false (dQ qs),rgT false true b true rs,.any,.any,.any,.any,.any,.any,.any,.any]) ?_ ?_
 ·walk_at "go"
  refine⟨c,n,false,qs,rfl,by lia,u1,by lia,fun c2 n2 b rs z l1 l2 pm=>?_⟩
  walk_at "go"
  exact⟨c2,n2,b,rs,by lia,pm,rfl⟩
 clear hn c n
 rintro _ ⟨c,n,b,rs,hn,pm,rfl⟩
 have hr:∀ q∈rs,okQ q:=fun q m=>u2 q (pm.mem_iff.mp m)
 have hl:rs.length<=230400:=by rw[pm.length_eq];exact u3
 have hd:rs.Nodup:=xv pm (IP u1)
 refine cv (fun env=>∃(c:Cells) (n:Nat) (tl:List Tl),n<=1400/\tl.length<=8/\(∀ t∈tl,tlO t)/\env=[z,stT c n,.dT false (dQ qs),rgT false true b true rs,tgT false true false false tl,.any,.any,.any,.any,.any,.any,.any]) ?_ ?_
 ·walk_at "go"
  walk_at "take"
  intro r c1 a1 b1
  walk_at "go"
  obtain⟨m,em,m0,m1⟩:∃ m:Int,atI [T.int 3,.int 4] (if r=0 then 1 else 0)=some (.int m)/\2<=m/\m<=4:=by
   by_cases h:r=0
   ·rw[if_pos h];exact⟨4,rfl,by decide,by decide⟩
   rw[if_neg h];exact⟨3,rfl,by decide,by decide⟩
  refine bz em ?_
  walk_at "go"
  walk_at "take"
  intro r2 c2 a2 b2
  walk_at "go"
  refine⟨c2,n + 1 + 1,m,_,rfl,by lia,m0,m1,by split <;> decide,by split <;> decide,fun c3 n3 tl l1 l2 l3 l4=>?_⟩
  walk_at "go"
  exact⟨c3,n3,tl,by lia,l3,l4,rfl⟩
 clear hn c n
 rintro _ ⟨c,n,tl,hn,ht,ho,rfl⟩
 refine cv (fun env=>∃(c:Cells) (n:Nat) (tl:List Tl),n<=1500/\tl.length<=8/\(∀ t∈tl,tlO t)/\env=[z,stT c n,.dT false (dQ qs),rgT false true b true rs,tgT false true false false tl,.any,.any,.any,.any,.any,.any,.any]) ?_ ?_
 ·walk_at "go"
  walk_at "take"
  intro r c1 a1 b1
  walk_at "go"
  refine aN (fun g=>?_) (fun g=>?_)
  ·walk_at "go"
   refine⟨by decide,aW (by rw[bC,sizeLine_eq];decide) (fun i acc ie=>∃(c':Cells) (n':Nat) (tl:List Tl) (z:T),n<=n'/\n'<=n + 1 + 5 * i/\tl.length=i/\(∀ t∈tl,tlO t)/\acc=tl.map (tlT false false)/\ie=[z,stT c' n']) ⟨c1,n + 1,[],_,by lia,by lia,rfl,(fun _ h=>by cases h),rfl,rfl⟩ ?_ ?_⟩
   ·rintro i u _ _ ⟨c',n',tl,z,l2,l3,l4,ht,rfl,rfl⟩ ei
    have hi:i < 5:=eK ei
    walk_at "go"
    refine⟨c',n',3,rfl,by lia,by decide,by decide,fun c2 t h=>?_⟩
    walk_at "go"
    refine⟨c2,n' + 5,tl++[t],_,by lia,by lia,by rw[h_,l4];rfl,fun v mv=>?_,by rw[r_];rfl,rfl⟩
    rcases D_.mp mv with mv | mv
    ·exact ht v mv
    rw[C_.mp mv];exact h
   rintro _ _ ⟨c',n',tl,z,l2,l3,l4,ht,rfl,rfl⟩
   have l3:n'<=n + 1 + 5 * 5:=l3
   have l4:tl.length=5:=l4
   walk_at "go"
   exact⟨c',n',tl,by lia,by lia,ht,rfl⟩
  walk_at "go"
  exact⟨c1,n + 1,tl,by lia,ht,ho,rfl⟩
 clear hn c n ht ho tl
 rintro _ ⟨c,n,tl,hn,ht,ho,rfl⟩
 refine cv (fun env=>env=[z,stT c n,.dT false (dQ qs),rgT false true b true rs,tgT false true false false tl,.lst true (tl.map fun t=>.dT true (dQ (nrQ t))),.any,.any,.any,.any,.any,.any]) ?_ ?_
 ·walk_at "go"
  refine⟨false,tl,rfl,by lia,ho,?_⟩
  walk_at "go"
 rintro _ rfl
 refine cv (fun env=>env=[z,stT c n,.dT false (dQ qs),rgT false true b true rs,tgT false true false false tl,.lst true (tl.map fun t=>.dT true (dQ (nrQ t))),.str (toPy (dt (rgT false false b false rs))).shown,.any,.any,.any,.any,.any]) ?_ ?_
 ·walk_at "go"
  refine Bg hr hl ?_
  walk_at "go"
 rintro _ rfl
 refine cv (fun env=>env=[z,stT c n,.dT false (dQ qs),rgT false false b false rs,tgT false false false false tl,.lst true (tl.map fun t=>.dT true (dQ (nrQ t))),.str (toPy (dt (rgT false false b false rs))).shown,.lst true [rgT false true b false rs,tgT false true false false tl],.any,.any,.any,.any]) ?_ ?_
 ·walk_at "go"
 rintro _ rfl
 walk_at "go"
 refine mG (mB u1 ?_)
 walk_at "go"
 refine⟨c,n,true,qs,6,rfl,by lia,by lia,by decide,by decide,fun c1 n1 xs z1 l1 l2 hx=>?_⟩
 walk_at "go"
 refine bF (fun i env=>∃ z8 z9 z10 z11,env=[z,stT c1 n1,.dT false (dQ qs),rgT false false b false rs,tgT false false false false tl,.lst true (tl.map fun t=>.dT true (dQ (nrQ t))),.str (toPy (dt (rgT false false b false rs))).shown,.lst true [rgT false true b false rs,tgT false true false false tl],z8,z9,z10,z11]) ⟨_,_,_,_,rfl⟩ ?_ ?_
 ·rintro i t _ ⟨z8,z9,z10,z11,rfl⟩ ei
  obtain⟨q',eq',rfl⟩:=cx ei
  walk_at "go"
  refine⟨false,false,false,qs,tl,q',rfl,by lia,ho,fun z1 z2 z3=>?_⟩
  rw[pE (fun q=>(pm.mem_iff (a:=q)).symm)]
  have gW:=DP (o:=false) (rs:=rs) (q:=q') ho ht
  have gT:=DP (o:=true) (rs:=rs) (q:=q') ho ht
  walk_at "go"
  refine⟨false,false,b,false,false,false,false,false,false,false,rs,tl,q',rfl,hd,by lia,by lia,ho,fun z1 z2 z3=>?_⟩
  have lw:∀ l,wyN rs q' 0 (tl.map nrQ)=some l->l.length<=9600 * 8:=fun l e=>by
   have l1:=x9 (fun M m=>by obtain⟨t,mt,rfl⟩:=y_.mp m;exact ql (ho t mt)) e
   rw[a_]at l1
   lia
  generalize hW:wyN rs q' 0 (tl.map nrQ)=W at *
  walk_at "go"
  refine same_self gW (by decide) ?_
  walk_at "go"
  refine ym hr hl ?_
  walk_at "go"
  refine Bg hr hl ?_
  walk_at "go"
  refine cv (fun env=>∃ z10,env=[z,stT c1 n1,.dT false (dQ qs),rgT false false b false rs,tgT false false false false tl,.lst true (tl.map fun t=>.dT true (dQ (nrQ t))),.str (toPy (dt (rgT false false b false rs))).shown,.lst true [rgT false true b false rs,tgT false true false false tl],qtT q',wyU true W,z10,z11]) ?_ ?_
  ·walk_at "go"
   cases W with
   | none=>
    rw[show(none:Option (List Rw)).isNone=true from rfl]
    walk_at "go"
    exact⟨_,rfl⟩
   | some l=>
    have l8:=lw l rfl
    rw[show(some l).isNone=false from rfl]
    walk_at "go"
    dsimp only[wyT,wyU]
    walk_at "go"
    exact⟨by lia,_,rfl⟩
  rintro _ ⟨z10,rfl⟩
  walk_at "go"
  refine aW (by rw[a_,sizeLine_eq];lia) (fun i acc ie=>∃ z,acc=(tl.take i).map (tlT true true)/\ie=[z]) ⟨_,rfl,rfl⟩ ?_ ?_
  ·rintro i u _ _ ⟨z,rfl,rfl⟩ ei
   obtain⟨t,et,rfl⟩:=cx ei
   walk_at "go"
   exact⟨_,by rw[map_take et],rfl⟩
  rintro _ _ ⟨z',rfl,rfl⟩
  rw[a_,F']
  walk_at "go"
  obtain⟨rs',pm',e'⟩:=AJ rs
  refine⟨Li.mpr fun x _=>rfl,m9 (o:=false) b (gc rs) (by rw[mw];rfl) (qR rs) ?_⟩
  rw[e',mw]
  walk_at "go"
  refine⟨true,false,b,false,true,false,true,false,true,true,rs',tl,q',rfl,xv pm' hd,by rw[pm'.length_eq];lia,by lia,ho,fun z1 z2 z3=>?_⟩
  rw[pE (fun q=>pm'.mem_iff (a:=q)),hW]
  walk_at "go"
  refine wz gW (by decide) gT.1 GD ?_
  walk_at "go"
  refine⟨false,false,b,false,false,true,false,false,false,false,rs,[],q',rfl,hd,by lia,by decide,(fun t m=>by cases m),fun z1 z2 z3=>?_⟩
  walk_at "go"
  have e0:wyT (wyN rs q' 0 [])=T.lst true []:=rfl
  rw[e0]
  refine same_self (d:=T.lst true []) (n:=1) (GL i6 (by decide)) (by decide) ?_
  walk_at "go"
  exact⟨_,_,_,_,rfl⟩
 rintro _ ⟨z8,z9,z10,z11,rfl⟩
 walk_at "go"
 exact q _
end
theorem ar0{α:Type}{P:List α->Prop}(h:P []):∀ us:List α,us.length=0->P us:=fun us e=>by
 cases us with
 | nil=>exact h
 | cons a r=>cases e
theorem ar1{α:Type}{P:List α->Prop}(h:∀ a0,P [a0]):∀ us:List α,us.length=1->P us:=fun us e=>by
 cases us with
 | nil=>cases e
 | cons a0 r=>exact ar0 (P:=fun r=>P (a0::r)) (h a0) r (Ku e)
theorem ar2{α:Type}{P:List α->Prop}(h:∀ a0 a1,P [a0,a1]):∀ us:List α,us.length=2->P us:=fun us e=>by
 cases us with
 | nil=>cases e
 | cons a0 r=>exact ar1 (P:=fun r=>P (a0::r)) (h a0) r (Ku e)
theorem ar3{α:Type}{P:List α->Prop}(h:∀ a0 a1 a2,P [a0,a1,a2]):∀ us:List α,us.length=3->P us:=fun us e=>by
 cases us with
 | nil=>cases e
 | cons a0 r=>exact ar2 (P:=fun r=>P (a0::r)) (h a0) r (Ku e)
theorem ar4{α:Type}{P:List α->Prop}(h:∀ a0 a1 a2 a3,P [a0,a1,a2,a3]):∀ us:List α,us.length=4->P us:=fun us e=>by
 cases us with
 | nil=>cases e
 | cons a0 r=>exact ar3 (P:=fun r=>P (a0::r)) (h a0) r (Ku e)
theorem ar5{α:Type}{P:List α->Prop}(h:∀ a0 a1 a2 a3 a4,P [a0,a1,a2,a3,a4]):∀ us:List α,us.length=5->P us:=fun us e=>by
 cases us with
 | nil=>cases e
 | cons a0 r=>exact ar4 (P:=fun r=>P (a0::r)) (h a0) r (Ku e)
theorem walk{l:RJ}{q:NW}{loose:List Str}{XP:(Str->Option NK)->N5->Prop}{YP:N3->N5->Prop}{d:DefRec}{K:Rx->NM}(hn:l.most=some 63)(hdf:d.params.defaults=[])
  (hY:∀(w:N3) (h:N5),YP w h->(K w.params).In h)
  (F:∀(w:N3) (mg:Str->Option NK) (fa:NN) (h:N5),(K w.params).In h->h.Ns OA mg->mg d.name=some (.ref fa)->
   ∃ fd:N9,(∀(s:NO) (u:NK),RY s fd ⟨[u],[]⟩ [("_law_script",u)])/\∀ base:N5,(K w.params).In base->base.Ns OA mg->FnOk l.prog w (K w.params) mg base CX0 6 fa fd ["_law_script"] (xu (K w.params))) :
  T' q loose XP YP l.row.toRowW d [] (fun f vs=>To f vs):=
 L2.Ce (n:=63) (k:=6) (x:="_law_script") (CX:=fun _=>CX0) (sp:=fun w=>xu (K w.params)) hn (by decide) hdf ⟨rfl,by decide,by decide,rfl⟩ hY F (fun _ _ a ns hl _ hS=>⟨a,ns,rfl,hS,hl,fun _=>rfl⟩) fun _ _ _ _ _ z=>z
noncomputable def kd(P:Rx) (x:Str) (t:Tok) (v:NK):O4:=⟨PyData.keyHash P x,.str x t,v⟩
noncomputable def kf(n:Str) (s:Of) (m:NK) (c:NN):Obj:=⟨.type "function",none,.func (Pa n n (gx s) (fF s) (aA s) .none .none .none m none (.ref c) .none),#[]⟩
noncomputable def KK(P:Rx):NM:=[(3,⟨.type "dict",none,.dict #[kd P "__name__" 165 (.str "law_millpath_k21_why_left" 319),kd P "__doc__" 166 (.none),kd P "__package__" 167 (.none),kd P "__loader__" 168 (.builtin "__main__.__loader__#opaque"),kd P "__spec__" 169 (.none),kd P "__annotations__" 170 (.ref 6),kd P "__builtins__" 171 (.ref 4),kd P "__file__" 173 (.str "/claim/cut.py" 172),kd P "__cached__" 174 (.none),kd P "INNER" 197 (.ref 19),kd P "inner_point" 205 (.ref 26),kd P "octo_of" 213 (.ref 31),kd P "added" 219 (.ref 36),kd P "moved" 227 (.ref 43),kd P "quarters_in" 233 (.ref 48),kd P "is_flat" 240 (.ref 55),kd P "holds" 251 (.ref 62),kd P "mark_of" 263 (.ref 69),kd P "near_quarters" 272 (.ref 76),kd P "noted" 281 (.ref 83),kd P "why_left" 299 (.ref 90),kd P "corners_about" 305 (.ref 95),kd P "first_missing" 318 (.ref 102),kd P "_law_begin" 328 (.ref 109),kd P "_law_take" 341 (.ref 116),kd P "_law_same" 347 (.ref 121),kd P "_law_box" 353 (.ref 126),kd P "_law_angled" 359 (.ref 131),kd P "_law_outline" 365 (.ref 136),kd P "_law_mark" 377 (.ref 143),kd P "_law_in_mark" 383 (.ref 148),kd P "_law_inside" 389 (.ref 153),kd P "_law_crossed" 405 (.ref 160),kd P "_law_tool" 415 (.ref 167),kd P "_law_island" 427 (.ref 174),kd P "_law_pocket" 443 (.ref 181),kd P "_law_strewn" 449 (.ref 186),kd P "_law_marks" 455 (.ref 191),kd P "_law_holding" 461 (.ref 196),kd P "_law_first" 473 (.ref 203),kd P "_law_why" 488 (.ref 210),kd P "_law_tools" 494 (.ref 215),kd P "_law_some" 500 (.ref 220),kd P "law" 506 (.ref 225)] 44,#[]⟩),(26,kf "inner_point" s_inner_point (.str "millpath.corners" 187) 25),(25,⟨.type "code",none,.fields #[.str "inner_point" 198,.str "inner_point" 199,.str "/claim/cut.py" 200,.int (3) 0,.int (1) 0,.int (0) 0,.int (0) 0,.int (3) 0,.ref 20,.bool true,.int (181) 0,.ref 21,.none,.ref 22,.ref 23,.ref 24,.int (203) 0,.int (3) 0,.str "/claim/cut.py" 204],#[]⟩),(31,kf "octo_of" s_octo_of (.str "millpath.octos" 206) 30),(30,⟨.type "code",none,.fields #[.str "octo_of" 208,.str "octo_of" 209,.str "/claim/cut.py" 210,.int (7) 0,.int (1) 0,.int (0) 0,.int (0) 0,.int (3) 0,.ref 27,.bool true,.int (181) 0,.ref 28,.none,.none,.none,.ref 29,.int (211) 0,.int (7) 0,.str "/claim/cut.py" 212],#[]⟩),(36,kf "added" s_added (.str "millpath.octos" 206) 35),(35,⟨.type "code",none,.fields #[.str "added" 214,.str "added" 215,.str "/claim/cut.py" 216,.int (13) 0,.int (2) 0,.int (0) 0,.int (0) 0,.int (3) 0,.ref 32,.bool true,.int (181) 0,.ref 33,.none,.none,.none,.ref 34,.int (217) 0,.int (13) 0,.str "/claim/cut.py" 218],#[]⟩),(43,kf "moved" s_moved (.str "millpath.octos" 206) 42),(42,⟨.type "code",none,.fields #[.str "moved" 220,.str "moved" 221,.str "/claim/cut.py" 222,.int (15) 0,.int (2) 0,.int (0) 0,.int (0) 0,.int (3) 0,.ref 37,.bool true,.int (181) 0,.ref 38,.none,.ref 39,.ref 40,.ref 41,.int (225) 0,.int (15) 0,.str "/claim/cut.py" 226],#[]⟩),(48,kf "quarters_in" s_quarters_in (.str "millpath.octos" 206) 47),(47,⟨.type "code",none,.fields #[.str "quarters_in" 228,.str "quarters_in" 229,.str "/claim/cut.py" 230,.int (17) 0,.int (1) 0,.int (0) 0,.int (0) 0,.int (3) 0,.ref 44,.bool true,.int (181) 0,.ref 45,.none,.none,.none,.ref 46,.int (231) 0,.int (17) 0,.str "/claim/cut.py" 232],#[]⟩),(55,kf "is_flat" s_is_flat (.str "millpath.octos" 206) 54),(54,⟨.type "code",none,.fields #[.str "is_flat" 234,.str "is_flat" 235,.str "/claim/cut.py" 236,.int (27) 0,.int (1) 0,.int (0) 0,.int (0) 0,.int (3) 0,.ref 49,.bool true,.int (181) 0,.ref 50,.none,.ref 51,.ref 52,.ref 53,.int (238) 0,.int (27) 0,.str "/claim/cut.py" 239],#[]⟩),(62,kf "holds" s_holds (.str "millpath.octos" 206) 61),(61,⟨.type "code",none,.fields #[.str "holds" 241,.str "holds" 242,.str "/claim/cut.py" 243,.int (29) 0,.int (2) 0,.int (0) 0,.int (0) 0,.int (3) 0,.ref 56,.bool true,.int (181) 0,.ref 57,.none,.ref 58,.ref 59,.ref 60,.int (249) 0,.int (29) 0,.str "/claim/cut.py" 250],#[]⟩),(69,kf "mark_of" s_mark_of (.str "millpath.tools" 252) 68),(68,⟨.type "code",none,.fields #[.str "mark_of" 254,.str "mark_of" 255,.str "/claim/cut.py" 256,.int (35) 0,.int (2) 0,.int (0) 0,.int (0) 0,.int (3) 0,.ref 63,.bool true,.int (181) 0,.ref 64,.none,.ref 65,.ref 66,.ref 67,.int (261) 0,.int (35) 0,.str "/claim/cut.py" 262],#[]⟩),(76,kf "near_quarters" s_near_quarters (.str "millpath.marks" 264) 75),(75,⟨.type "code",none,.fields #[.str "near_quarters" 266,.str "near_quarters" 267,.str "/claim/cut.py" 268,.int (40) 0,.int (1) 0,.int (0) 0,.int (0) 0,.int (3) 0,.ref 70,.bool true,.int (181) 0,.ref 71,.none,.ref 72,.ref 73,.ref 74,.int (270) 0,.int (40) 0,.str "/claim/cut.py" 271],#[]⟩),(83,kf "noted" s_noted (.str "millpath.marks" 264) 82),(82,⟨.type "code",none,.fields #[.str "noted" 273,.str "noted" 274,.str "/claim/cut.py" 275,.int (42) 0,.int (1) 0,.int (0) 0,.int (0) 0,.int (3) 0,.ref 77,.bool true,.int (181) 0,.ref 78,.none,.ref 79,.ref 80,.ref 81,.int (279) 0,.int (42) 0,.str "/claim/cut.py" 280],#[]⟩),(90,kf "why_left" s_why_left (.str "millpath.lefts" 282) 89),(89,⟨.type "code",none,.fields #[.str "why_left" 284,.str "why_left" 285,.str "/claim/cut.py" 286,.int (48) 0,.int (3) 0,.int (0) 0,.int (0) 0,.int (3) 0,.ref 84,.bool true,.int (181) 0,.ref 85,.none,.ref 86,.ref 87,.ref 88,.int (297) 0,.int (48) 0,.str "/claim/cut.py" 298],#[]⟩),(95,kf "corners_about" s_corners_about (.str "millpath.lefts" 282) 94),(94,⟨.type "code",none,.fields #[.str "corners_about" 300,.str "corners_about" 301,.str "/claim/cut.py" 302,.int (59) 0,.int (2) 0,.int (0) 0,.int (0) 0,.int (3) 0,.ref 91,.bool true,.int (181) 0,.ref 92,.none,.none,.none,.ref 93,.int (303) 0,.int (59) 0,.str "/claim/cut.py" 304],#[]⟩),(102,kf "first_missing" s_first_missing (.str "millpath.lefts" 282) 101),(101,⟨.type "code",none,.fields #[.str "first_missing" 306,.str "first_missing" 307,.str "/claim/cut.py" 308,.int (61) 0,.int (3) 0,.int (0) 0,.int (0) 0,.int (3) 0,.ref 96,.bool true,.int (181) 0,.ref 97,.none,.ref 98,.ref 99,.ref 100,.int (316) 0,.int (61) 0,.str "/claim/cut.py" 317],#[]⟩),(109,kf "_law_begin" s_begin (.str "law_millpath_k21_why_left" 319) 108),(108,⟨.type "code",none,.fields #[.str "_law_begin" 321,.str "_law_begin" 322,.str "/claim/cut.py" 323,.int (68) 0,.int (1) 0,.int (0) 0,.int (0) 0,.int (3) 0,.ref 103,.bool true,.int (181) 0,.ref 104,.none,.ref 105,.ref 106,.ref 107,.int (326) 0,.int (68) 0,.str "/claim/cut.py" 327],#[]⟩),(116,kf "_law_take" s_take (.str "law_millpath_k21_why_left" 319) 115),(115,⟨.type "code",none,.fields #[.str "_law_take" 329,.str "_law_take" 330,.str "/claim/cut.py" 331,.int (73) 0,.int (2) 0,.int (0) 0,.int (0) 0,.int (3) 0,.ref 110,.bool true,.int (181) 0,.ref 111,.none,.ref 112,.ref 113,.ref 114,.int (339) 0,.int (73) 0,.str "/claim/cut.py" 340],#[]⟩),(121,kf "_law_same" s_same (.str "law_millpath_k21_why_left" 319) 120),(120,⟨.type "code",none,.fields #[.str "_law_same" 342,.str "_law_same" 343,.str "/claim/cut.py" 344,.int (84) 0,.int (2) 0,.int (0) 0,.int (0) 0,.int (3) 0,.ref 117,.bool true,.int (181) 0,.ref 118,.none,.none,.none,.ref 119,.int (345) 0,.int (84) 0,.str "/claim/cut.py" 346],#[]⟩),(126,kf "_law_box" s_box (.str "law_millpath_k21_why_left" 319) 125),(125,⟨.type "code",none,.fields #[.str "_law_box" 348,.str "_law_box" 349,.str "/claim/cut.py" 350,.int (100) 0,.int (5) 0,.int (0) 0,.int (0) 0,.int (3) 0,.ref 122,.bool true,.int (181) 0,.ref 123,.none,.none,.none,.ref 124,.int (351) 0,.int (100) 0,.str "/claim/cut.py" 352],#[]⟩),(131,kf "_law_angled" s_angled (.str "law_millpath_k21_why_left" 319) 130),(130,⟨.type "code",none,.fields #[.str "_law_angled" 354,.str "_law_angled" 355,.str "/claim/cut.py" 356,.int (105) 0,.int (5) 0,.int (0) 0,.int (0) 0,.int (3) 0,.ref 127,.bool true,.int (181) 0,.ref 128,.none,.none,.none,.ref 129,.int (357) 0,.int (105) 0,.str "/claim/cut.py" 358],#[]⟩),(136,kf "_law_outline" s_outline (.str "law_millpath_k21_why_left" 319) 135),(135,⟨.type "code",none,.fields #[.str "_law_outline" 360,.str "_law_outline" 361,.str "/claim/cut.py" 362,.int (116) 0,.int (5) 0,.int (0) 0,.int (0) 0,.int (3) 0,.ref 132,.bool true,.int (181) 0,.ref 133,.none,.none,.none,.ref 134,.int (363) 0,.int (116) 0,.str "/claim/cut.py" 364],#[]⟩),(143,kf "_law_mark" s_mark (.str "law_millpath_k21_why_left" 319) 142),(142,⟨.type "code",none,.fields #[.str "_law_mark" 366,.str "_law_mark" 367,.str "/claim/cut.py" 368,.int (131) 0,.int (2) 0,.int (0) 0,.int (0) 0,.int (3) 0,.ref 137,.bool true,.int (181) 0,.ref 138,.none,.ref 139,.ref 140,.ref 141,.int (375) 0,.int (131) 0,.str "/claim/cut.py" 376],#[]⟩),(148,kf "_law_in_mark" s_in_mark (.str "law_millpath_k21_why_left" 319) 147),(147,⟨.type "code",none,.fields #[.str "_law_in_mark" 378,.str "_law_in_mark" 379,.str "/claim/cut.py" 380,.int (139) 0,.int (4) 0,.int (0) 0,.int (0) 0,.int (3) 0,.ref 144,.bool true,.int (181) 0,.ref 145,.none,.none,.none,.ref 146,.int (381) 0,.int (139) 0,.str "/claim/cut.py" 382],#[]⟩),(153,kf "_law_inside" s_inside (.str "law_millpath_k21_why_left" 319) 152),(152,⟨.type "code",none,.fields #[.str "_law_inside" 384,.str "_law_inside" 385,.str "/claim/cut.py" 386,.int (143) 0,.int (1) 0,.int (0) 0,.int (0) 0,.int (3) 0,.ref 149,.bool true,.int (181) 0,.ref 150,.none,.none,.none,.ref 151,.int (387) 0,.int (143) 0,.str "/claim/cut.py" 388],#[]⟩),(160,kf "_law_crossed" s_crossed (.str "law_millpath_k21_why_left" 319) 159),(159,⟨.type "code",none,.fields #[.str "_law_crossed" 390,.str "_law_crossed" 391,.str "/claim/cut.py" 392,.int (154) 0,.int (2) 0,.int (0) 0,.int (0) 0,.int (3) 0,.ref 154,.bool true,.int (181) 0,.ref 155,.none,.ref 156,.ref 157,.ref 158,.int (403) 0,.int (154) 0,.str "/claim/cut.py" 404],#[]⟩),(167,kf "_law_tool" s_tool (.str "law_millpath_k21_why_left" 319) 166),(166,⟨.type "code",none,.fields #[.str "_law_tool" 406,.str "_law_tool" 407,.str "/claim/cut.py" 408,.int (166) 0,.int (2) 0,.int (0) 0,.int (0) 0,.int (3) 0,.ref 161,.bool true,.int (181) 0,.ref 162,.none,.ref 163,.ref 164,.ref 165,.int (413) 0,.int (166) 0,.str "/claim/cut.py" 414],#[]⟩),(174,kf "_law_island" s_island (.str "law_millpath_k21_why_left" 319) 173),(173,⟨.type "code",none,.fields #[.str "_law_island" 416,.str "_law_island" 417,.str "/claim/cut.py" 418,.int (170) 0,.int (3) 0,.int (0) 0,.int (0) 0,.int (3) 0,.ref 168,.bool true,.int (181) 0,.ref 169,.none,.ref 170,.ref 171,.ref 172,.int (425) 0,.int (170) 0,.str "/claim/cut.py" 426],#[]⟩),(181,kf "_law_pocket" s_pocket (.str "law_millpath_k21_why_left" 319) 180),(180,⟨.type "code",none,.fields #[.str "_law_pocket" 428,.str "_law_pocket" 429,.str "/claim/cut.py" 430,.int (176) 0,.int (2) 0,.int (0) 0,.int (0) 0,.int (3) 0,.ref 175,.bool true,.int (181) 0,.ref 176,.none,.ref 177,.ref 178,.ref 179,.int (441) 0,.int (176) 0,.str "/claim/cut.py" 442],#[]⟩),(186,kf "_law_strewn" s_strewn (.str "law_millpath_k21_why_left" 319) 185),(185,⟨.type "code",none,.fields #[.str "_law_strewn" 444,.str "_law_strewn" 445,.str "/claim/cut.py" 446,.int (188) 0,.int (2) 0,.int (0) 0,.int (0) 0,.int (3) 0,.ref 182,.bool true,.int (181) 0,.ref 183,.none,.none,.none,.ref 184,.int (447) 0,.int (188) 0,.str "/claim/cut.py" 448],#[]⟩),(191,kf "_law_marks" s_marks (.str "law_millpath_k21_why_left" 319) 190),(190,⟨.type "code",none,.fields #[.str "_law_marks" 450,.str "_law_marks" 451,.str "/claim/cut.py" 452,.int (201) 0,.int (1) 0,.int (0) 0,.int (0) 0,.int (3) 0,.ref 187,.bool true,.int (181) 0,.ref 188,.none,.none,.none,.ref 189,.int (453) 0,.int (201) 0,.str "/claim/cut.py" 454],#[]⟩),(196,kf "_law_holding" s_holding (.str "law_millpath_k21_why_left" 319) 195),(195,⟨.type "code",none,.fields #[.str "_law_holding" 456,.str "_law_holding" 457,.str "/claim/cut.py" 458,.int (203) 0,.int (2) 0,.int (0) 0,.int (0) 0,.int (3) 0,.ref 192,.bool true,.int (181) 0,.ref 193,.none,.none,.none,.ref 194,.int (459) 0,.int (203) 0,.str "/claim/cut.py" 460],#[]⟩),(203,kf "_law_first" s_first (.str "law_millpath_k21_why_left" 319) 202),(202,⟨.type "code",none,.fields #[.str "_law_first" 462,.str "_law_first" 463,.str "/claim/cut.py" 464,.int (205) 0,.int (3) 0,.int (0) 0,.int (0) 0,.int (3) 0,.ref 197,.bool true,.int (181) 0,.ref 198,.none,.ref 199,.ref 200,.ref 201,.int (471) 0,.int (205) 0,.str "/claim/cut.py" 472],#[]⟩),(210,kf "_law_why" s_why (.str "law_millpath_k21_why_left" 319) 209),(209,⟨.type "code",none,.fields #[.str "_law_why" 474,.str "_law_why" 475,.str "/claim/cut.py" 476,.int (210) 0,.int (3) 0,.int (0) 0,.int (0) 0,.int (3) 0,.ref 204,.bool true,.int (181) 0,.ref 205,.none,.ref 206,.ref 207,.ref 208,.int (486) 0,.int (210) 0,.str "/claim/cut.py" 487],#[]⟩),(215,kf "_law_tools" s_tools (.str "law_millpath_k21_why_left" 319) 214),(214,⟨.type "code",none,.fields #[.str "_law_tools" 489,.str "_law_tools" 490,.str "/claim/cut.py" 491,.int (220) 0,.int (3) 0,.int (0) 0,.int (0) 0,.int (3) 0,.ref 211,.bool true,.int (181) 0,.ref 212,.none,.none,.none,.ref 213,.int (492) 0,.int (220) 0,.str "/claim/cut.py" 493],#[]⟩),(220,kf "_law_some" s_some (.str "law_millpath_k21_why_left" 319) 219),(219,⟨.type "code",none,.fields #[.str "_law_some" 495,.str "_law_some" 496,.str "/claim/cut.py" 497,.int (222) 0,.int (3) 0,.int (0) 0,.int (0) 0,.int (3) 0,.ref 216,.bool true,.int (181) 0,.ref 217,.none,.none,.none,.ref 218,.int (498) 0,.int (222) 0,.str "/claim/cut.py" 499],#[]⟩),(225,kf "law" s_law (.str "law_millpath_k21_why_left" 319) 224),(224,⟨.type "code",none,.fields #[.str "law" 501,.str "law" 502,.str "/claim/cut.py" 503,.int (226) 0,.int (1) 0,.int (0) 0,.int (0) 0,.int (3) 0,.ref 221,.bool true,.int (181) 0,.ref 222,.none,.none,.none,.ref 223,.int (504) 0,.int (226) 0,.str "/claim/cut.py" 505],#[]⟩),(19,⟨.type "tuple",none,.seq #[.ref 15,.ref 16,.ref 17,.ref 18] 0,#[]⟩),(15,⟨.type "tuple",none,.seq #[.int (3) 189,.int (2) 190] 0,#[]⟩),(16,⟨.type "tuple",none,.seq #[.int (2) 191,.int (3) 192] 0,#[]⟩),(17,⟨.type "tuple",none,.seq #[.int (1) 193,.int (2) 194] 0,#[]⟩),(18,⟨.type "tuple",none,.seq #[.int (2) 195,.int (1) 196] 0,#[]⟩)]
noncomputable def kas:List NN:=[3,26,25,31,30,36,35,43,42,48,47,55,54,62,61,69,68,76,75,83,82,90,89,95,94,102,101,109,108,116,115,121,120,126,125,131,130,136,135,143,142,148,147,153,152,160,159,167,166,174,173,181,180,186,185,191,190,196,195,203,202,210,209,215,214,220,219,225,224,19,15,16,17,18]
theorem uF(P:Rx):kas=(KK P).map (·.1):=by kernel_rfl
noncomputable def VW:NW:=PySem.W.view PySem.Challenge.pw_millpath_k21_why_left [1,2,4,5,6,7,8,9,11,13,14,16,17,18,20,21,22,23,24,25,26,27,28,29,30,31,32,33,34,35,36,37,38,39,40]
def Fi(s:Of):Pos:=match s with
 | .FunctionDef _ _ _ _ _ _ _ _ _ p=>p
 | _=>⟨0,0,0,0⟩
theorem dfn{h:N5}{mg:Str->Option NK}{P:Rx}{x:Str}{st:Of}{ps:List Str}(X:(KK P).In h)(G:h.Ns OA mg)(f c:NN)(m:NK)(l:(KK P).lookup f=some (kf x st m c):=by kernel_rfl)(a:RB (KK P) OA x=some (some (.ref f)):=by kernel_rfl)(cd:QP (KK P) (.ref c) x=true:=by kernel_rfl)(kp:Qk (KK P) (.ref f)=true:=by kernel_rfl)
  (hb:∀(kV doc pm:NK) (an:Option NN) (cdv ct:NK) (us:List NK),us.length=ps.length->UK (Pa x x (gx st) (fF st) (aA st) .none kV doc pm an cdv ct) ⟨us,[]⟩=pure (ps.zip us):=by intro _ _ _ _ _ _ us;revert us;first | (apply ar1;intros;rfl) | (apply ar2;intros;rfl) | (apply ar3;intros;rfl) | (apply ar4;intros;rfl) | (apply ar5;intros;rfl)):Dfn (KK P) mg x st ps:=⟨f,_,um (st:=st) l cd kp,So X G a,(um (st:=st) l cd kp).binds hb⟩
def mo0:NK:=.str "millpath.corners" 187
def mo1:NK:=.str "millpath.octos" 206
def mo2:NK:=.str "millpath.tools" 252
def mo3:NK:=.str "millpath.marks" 264
def mo4:NK:=.str "millpath.lefts" 282
def mo5:NK:=.str "law_millpath_k21_why_left" 319
set_option maxHeartbeats 0 in
theorem all_mk{l:RJ}{w:N3}{h:N5}{mg:Str->Option NK}{fa:NN}(X:(KK w.params).In h)(G:h.Ns OA mg)(hfa:mg "law"=some (.ref fa)):∃ fd:N9,(∀(s:NO) (v:NK),RY s fd ⟨[v],[]⟩ [("_law_script",v)])/\∀ base:N5,(KK w.params).In base->base.Ns OA mg->FnOk l.prog w (KK w.params) mg base CX0 6 fa fd ["_law_script"] (xu (KK w.params)):=by
 have e:=hfa.symm.trans (So X G (show RB (KK w.params) OA "law"=some (some (.ref 225)) by kernel_rfl))
 cases e
 have z:∀ {x:Str},RB (KK w.params) OA x=some none->mg x=none:=fun h=>PySem.W.mg_none_of X G h
 have T:Txt mg:=⟨z (by kernel_rfl),z (by kernel_rfl),z (by kernel_rfl),z (by kernel_rfl),z (by kernel_rfl),z (by kernel_rfl),z (by kernel_rfl),z (by kernel_rfl),z (by kernel_rfl),z (by kernel_rfl),z (by kernel_rfl),z (by kernel_rfl),z (by kernel_rfl),z (by kernel_rfl),z (by kernel_rfl),z (by kernel_rfl),z (by kernel_rfl),z (by kernel_rfl),z (by kernel_rfl),z (by kernel_rfl),z (by kernel_rfl)⟩
 have F:=um (st:=s_law) (K:=KK w.params) (x:="law") (qual:="law") (f:=225) (oc:=.type "function") (od:=none) (an:=none) (osl:=#[]) (kV:=.none) (doc:=.none) (pm:=mo5) (cdv:=.ref 224) (ct:=.none) (by kernel_rfl) (by kernel_rfl) (by kernel_rfl)
 refine⟨Pa "law" "law" (gx s_law) (fF s_law) (aA s_law) .none .none .none mo5 none (.ref 224) .none,fun s v=>.of_eq rfl,fun base _ _=>?_⟩
 have cl1:(KK w.params).lookup 19=some ⟨.type "tuple",none,.seq #[.ref 15,.ref 16,.ref 17,.ref 18] 0,#[]⟩:=by kernel_rfl
 have cl2:(KK w.params).lookup 15=some ⟨.type "tuple",none,.seq #[.int (3) 189,.int (2) 190] 0,#[]⟩:=by kernel_rfl
 have cl3:(KK w.params).lookup 16=some ⟨.type "tuple",none,.seq #[.int (2) 191,.int (3) 192] 0,#[]⟩:=by kernel_rfl
 have cl4:(KK w.params).lookup 17=some ⟨.type "tuple",none,.seq #[.int (1) 193,.int (2) 194] 0,#[]⟩:=by kernel_rfl
 have cl5:(KK w.params).lookup 18=some ⟨.type "tuple",none,.seq #[.int (2) 195,.int (1) 196] 0,#[]⟩:=by kernel_rfl
 have gt_INNER:RB (KK w.params) OA "INNER"=some (some (.ref 19)):=by kernel_rfl
 have C_INNER:Glb (KK w.params) mg "INNER" vM:=⟨.ref 19,_,So X G gt_INNER,rfl,fun _ _=>(.cst (.inr ⟨_,_,0,cl1,rfl,rfl,(by show 4<=sizeLine;decide),(.cons (show RelV (.ref 15) (.ref 15)from rfl) (.cons (show RelV (.ref 16) (.ref 16)from rfl) (.cons (show RelV (.ref 17) (.ref 17)from rfl) (.cons (show RelV (.ref 18) (.ref 18)from rfl) .nil))))⟩) (.cons rfl (.cst (.inr ⟨_,_,0,cl2,rfl,rfl,(by show 2<=sizeLine;decide),(.cons (show RelV (.int (3)) (.int (3) 189)from⟨_,rfl⟩) (.cons (show RelV (.int (2)) (.int (2) 190)from⟨_,rfl⟩) .nil))⟩) (.cons rfl .int (.cons rfl .int .nil))) (.cons rfl (.cst (.inr ⟨_,_,0,cl3,rfl,rfl,(by show 2<=sizeLine;decide),(.cons (show RelV (.int (2)) (.int (2) 191)from⟨_,rfl⟩) (.cons (show RelV (.int (3)) (.int (3) 192)from⟨_,rfl⟩) .nil))⟩) (.cons rfl .int (.cons rfl .int .nil))) (.cons rfl (.cst (.inr ⟨_,_,0,cl4,rfl,rfl,(by show 2<=sizeLine;decide),(.cons (show RelV (.int (1)) (.int (1) 193)from⟨_,rfl⟩) (.cons (show RelV (.int (2)) (.int (2) 194)from⟨_,rfl⟩) .nil))⟩) (.cons rfl .int (.cons rfl .int .nil))) (.cons rfl (.cst (.inr ⟨_,_,0,cl5,rfl,rfl,(by show 2<=sizeLine;decide),(.cons (show RelV (.int (2)) (.int (2) 195)from⟨_,rfl⟩) (.cons (show RelV (.int (1)) (.int (1) 196)from⟨_,rfl⟩) .nil))⟩) (.cons rfl .int (.cons rfl .int .nil))) .nil)))))⟩
 have G_take:Cal l.prog w (KK w.params) mg base 1 "_law_take" ["_law_state","_law_many"] (aM (KK w.params) 2 gG):=B4 (dfn X G 116 115 mo5) T
 have G_begin:Cal l.prog w (KK w.params) mg base 1 "_law_begin" ["_law_script"] (aM (KK w.params) 1 (qa (KK w.params))):=y8 (dfn X G 109 108 mo5) T
 have G_same:Cal l.prog w (KK w.params) mg base 4 "_law_same" ["_law_found","_law_due"] (aM (KK w.params) 2 (nU 4)):=yS (dfn X G 121 120 mo5) 4 (sM (dfn X G 121 120 mo5) T 4)
 have G_inner_point:=(dfn X G 26 25 mo0).cal (base:=base) (P:=l.prog) (w:=w) fun _ _ F=>ni F T C_INNER
 have G_octo_of:=(dfn X G 31 30 mo1).cal (base:=base) (P:=l.prog) (w:=w) fun _ _ F=>u9 F T
 have G_added:=(dfn X G 36 35 mo1).cal (base:=base) (P:=l.prog) (w:=w) fun _ _ F=>AD F T
 have G_moved:=(dfn X G 43 42 mo1).cal (base:=base) (P:=l.prog) (w:=w) fun _ _ F=>AY F T G_octo_of G_added
 have G_is_flat:=(dfn X G 55 54 mo1).cal (base:=base) (P:=l.prog) (w:=w) fun _ _ F=>uy F T
 have G_holds:=(dfn X G 62 61 mo1).cal (base:=base) (P:=l.prog) (w:=w) fun _ _ F=>Bd F T G_inner_point
 have G_quarters_in:=(dfn X G 48 47 mo1).cal (base:=base) (P:=l.prog) (w:=w) fun _ _ F=>nW F T G_is_flat G_holds
 have G_mark_of:=(dfn X G 69 68 mo2).cal (base:=base) (P:=l.prog) (w:=w) fun _ _ F=>uf F T G_moved
 have G_near_quarters:=(dfn X G 76 75 mo3).cal (base:=base) (P:=l.prog) (w:=w) fun _ _ F=>kY F T G_quarters_in G_mark_of
 have G_noted:=(dfn X G 83 82 mo3).cal (base:=base) (P:=l.prog) (w:=w) fun _ _ F=>Aw F T
 have G_corners_about:=(dfn X G 95 94 mo4).cal (base:=base) (P:=l.prog) (w:=w) fun _ _ F=>kP F T
 have G_first_missing:=(dfn X G 102 101 mo4).cal (base:=base) (P:=l.prog) (w:=w) fun _ _ F=>lE F T
 have G_why_left:=(dfn X G 90 89 mo4).cal (base:=base) (P:=l.prog) (w:=w) fun _ _ F=>rD F T G_near_quarters G_noted G_corners_about G_first_missing
 have G_crossed:=(dfn X G 160 159 mo5).cal (base:=base) (P:=l.prog) (w:=w) fun _ _ F=>uv F T
 have G_inside:=(dfn X G 153 152 mo5).cal (base:=base) (P:=l.prog) (w:=w) fun _ _ F=>yM F T G_crossed
 have G_box:=(dfn X G 126 125 mo5).cal (base:=base) (P:=l.prog) (w:=w) fun _ _ F=>Gw F T
 have G_angled:=(dfn X G 131 130 mo5).cal (base:=base) (P:=l.prog) (w:=w) fun _ _ F=>yF F T
 have G_outline:=(dfn X G 136 135 mo5).cal (base:=base) (P:=l.prog) (w:=w) fun _ _ F=>uL F T G_take G_box G_angled
 have G_island:=(dfn X G 174 173 mo5).cal (base:=base) (P:=l.prog) (w:=w) fun _ _ F=>xI F T G_take G_box
 have G_in_mark:=(dfn X G 148 147 mo5).cal (base:=base) (P:=l.prog) (w:=w) fun _ _ F=>vi F T
 have G_mark:=(dfn X G 143 142 mo5).cal (base:=base) (P:=l.prog) (w:=w) fun _ _ F=>BQ F T G_in_mark
 have G_tool:=(dfn X G 167 166 mo5).cal (base:=base) (P:=l.prog) (w:=w) fun _ _ F=>Dg F T G_take
 have G_tools:=(dfn X G 215 214 mo5).cal (base:=base) (P:=l.prog) (w:=w) fun _ _ F=>zj F T G_take G_tool
 have G_marks:=(dfn X G 191 190 mo5).cal (base:=base) (P:=l.prog) (w:=w) fun _ _ F=>yY F T G_mark
 have G_first:=(dfn X G 203 202 mo5).cal (base:=base) (P:=l.prog) (w:=w) fun _ _ F=>AQ F T
 have G_holding:=(dfn X G 196 195 mo5).cal (base:=base) (P:=l.prog) (w:=w) fun _ _ F=>vh F T
 have G_why:=(dfn X G 210 209 mo5).cal (base:=base) (P:=l.prog) (w:=w) fun _ _ F=>GQ F T G_holding G_first
 have G_some:=(dfn X G 220 219 mo5).cal (base:=base) (P:=l.prog) (w:=w) fun _ _ F=>CU F T G_take
 have G_strewn:=(dfn X G 186 185 mo5).cal (base:=base) (P:=l.prog) (w:=w) fun _ _ F=>xK F T G_take
 have G_pocket:=(dfn X G 181 180 mo5).cal (base:=base) (P:=l.prog) (w:=w) fun _ _ F=>yd F T G_take G_outline G_inside G_island
 exact Fh (Gj F T G_why_left G_begin G_take G_same G_tool G_pocket G_strewn G_marks G_why G_tools G_some)
end Mp
open PySem PySem.W PyProof.Rows
set_option maxRecDepth 100000 in
set_option maxHeartbeats 0 in
theorem Mp.F9:PySem.Challenge.rw_millpath_k21_why_left.wellSaid=true:=by kernel_rfl
set_option maxRecDepth 100000 in
theorem Mp.left:PySem.W.LeftO PySem.Challenge.rw_millpath_k21_why_left.row.prog Mp.VW [] (fun s=>PySem.W.xlAt Mp.VW [] s && PySem.W.recOk (PySem.Challenge.rw_millpath_k21_why_left.row.toRowW.records) s) (VC (Sr Mp.KK Mp.kas Mp.uF)) (VD (Sr Mp.KK Mp.kas Mp.uF)) 6000:=fun w=>by kernel_rfl
set_option maxRecDepth 100000 in
set_option maxHeartbeats 0 in
theorem PySem.Challenge.cw_millpath_k21_why_left_holds : PySem.Challenge.rw_millpath_k21_why_left.Holds := by
 refine PySem.W.holds_law Mp.F9 fun F9=>?_
 refine PySem.W.holds_open (r:=PySem.Challenge.rw_millpath_k21_why_left.row) (XP:=PySem.W.XL Mp.VW []) (YP:=Vy (Sr Mp.KK Mp.kas Mp.uF)) (d:=⟨"law",L2.gx Mp.s_law,L2.fF Mp.s_law,L2.aA Mp.s_law,Mp.Fi Mp.s_law⟩) (kwd:=[]) Mp.left (VH _) (Vw _) (fun s e=>PySem.W.xl_of s (MO.mp e).1) VE (by kernel_rfl) (by kernel_rfl) (by kernel_rfl) (fun s e=>PySem.W.recFacts_of (MO.mp e).2) (by kernel_rfl) F9 (by kernel_rfl) ⟨rfl,rfl,rfl,rfl,rfl,by decide +kernel⟩ ?hw ?hc
 case hw=>w_witness2
 case hc=>
  refine Mp.walk (l:=PySem.Challenge.rw_millpath_k21_why_left) rfl (by kernel_rfl) (fun w h Y=>PySem.W.kIn_of Y) ?F
  case F=>
  intro w mg fa h KX G hmg
  exact Mp.all_mk KX G hmg
