import PyProof.Rows.All
import Wide.All
import OpenK.AllK
import Wide.FinOn
import Lean
import PyProof.EqAt
import PyProof.EqKinds
import PyProof.TupleCall
import PyProof.ZipIter
import PyProof.NeKinds
import PyProof.SeqI3
import PyProof.MaxThree
import PyProof.CompUse
import PyProof.EnumMake
import PyProof.Draws
import PyProof.EnumFor
import PyProof.Rows.EnumRows
import KE.KDictList
import PyProof.Rows.SortRuns
import KE.KSortTup
import PyProof.ListRange
import PyProof.Rows.SetFrom
import PySem.Challenge.RW_millpath_k58_least_takes_and_first_order
set_option Elab.async false
set_option linter.all false
set_option maxRecDepth 100000
set_option genSizeOf false
noncomputable section
open List renaming length_map->a_,getElem?_eq_getElem->b_,getElem?_eq_some_iff->c_,perm_middle->d_,map_cons->g_,length_append->h_,append_assoc->i_,length_cons->k_,size_toArray->l_,range->m_,mem_cons_of_mem->o_,perm_append_comm_assoc->p_,mem_append_right->q_,Perm.trans->r_,replicate->s_,mem_cons->t_,map_append->v_,getD_eq_getElem?_getD->x_,mem_cons_self->y_,length_range->z_,mem_singleton->A_,getElem?_map->A',mem_of_getElem?->C_,pairwise_append->C',nodup_cons->D_,mem_append->FF,mem_map->FG,eq_nil_of_length_eq_zero->FH,length_set->FJ,take_append_drop->FL,mem_append_left->FN,length_take->FO,Perm.append_left->FQ,length_drop->FU,append_nil->FX,find?_cons->FY,map_map->FZ,take_length->F_,Pairwise.sublist->F',cons_append->Gb,replicate_succ->Ge,getElem?_append_right->Gf,mem_range->Gg,map_congr_left->Gh,mem_of_mem_take->Gi,take_of_length_le->Gj,drop_of_length_le->Gk,perm_append_comm->Gm,mem_iff_getElem?->Gn,getElem?_append_left->Gq,mem_filter->Gs,mem_iff_getElem->Gv,take_add_one->Gy,nodup_append->Gz,any_cons->GC,cons.inj->GD,length_reverse->GF,zip_cons_cons->GH,length_singleton->GN,nil_append->GO,getElem?_toArray->GQ,extract_eq_drop_take->GX,drop_eq_getElem_cons->GY,nodup_nil->GZ,map->G1,getElem?_range->G2,getElem?_cons_succ->G3,getElem?_drop->G6,getElem?_take->G7,getElem?_set_self->G9,take_sublist->Hb,reverse_cons->Hc,flatten_cons->Hd,drop_sublist->He,length_replicate->Hf,map_nil->Hg,getElem?_set_ne->Hh,lookup_cons->Hi,all_eq_true->Hj,getElem_mem->Hk,mem_of_mem_drop->Hl,any_eq_true->Ho,length->Hu,reverse_append->Hx,forIn_cons->HC,range_succ->HD,pairwise_iff_getElem->HG,cons.injEq->HH,getElem?_take_of_lt->HJ,all_map->HL,filter_append->HM,set_eq_of_length_le->HP,drop_drop->HR,drop_zero->HS,getElem?_cons_zero->HV,pairwise_map->HX,pairwise_lt_range->HZ,countP_cons->Ib,filter_cons->Ic,length_filter_le->Ig,getElem?_eq_none->Ih,length_nil->Ii,foldl_cons->Ij,drop_append_of_le_length->Ir,filterMap_cons->Iu,Perm.swap->Iy,Perm.cons->Iz,pairwise_cons->IA,set_cons_succ->IB,map_replicate->IC,all_cons->IG,take_add->IH,length_eraseIdx_of_lt->IJ,Pairwise.nil->IL,zipIdx_cons->IS,Pairwise.imp_of_mem->IX,set_set->IY,not_mem_nil->IZ,pairwise_singleton->Ja,eraseIdx_cons_succ->Jc,of_mem_zip->Jd,range_succ_eq_map->Jg,Perm.append_right->Jh,forIn_nil->Jj,singleton_append->Jl,getElem?_zipWith->Jm,reverse_reverse->Jo,drop_eq_nil_iff->Jq,length_eraseIdx->Jr,length_zipWith->Ju,map_eq_nil_iff->Jw,mem_filterMap->Jx,set_cons_zero->JA,any_map->JC,map_set->JD,mapM_toArray->JH,map_id->JJ,mem_reverse->JL,nodup_range->JO,foldl->JQ,zipIdx_nil->JR,zip_append->JV,filter_nil->JW,Perm->JZ,zipWith->J9
open Nat renaming le_refl->e_,le_trans->n_,lt_of_lt_of_le->u_,ne_of_lt->w_,zero_le->B',le_of_lt->FK,le_of_not_lt->FV,lt_of_le_of_lt->FW,lt_of_le_of_ne->Gp,sub_le->Gu,two_pow_pos->Gw,lt_irrefl->GB,succ.inj->GJ,pos_of_ne_zero->GL,ne_of_gt->G0,one_pos->G_,lt_succ_self->Hq,eq_of_testBit_eq->Hr,pow_le_pow_right->Hs,le_succ->Hv,add_le_add_left->Hw,add_sub_cancel'->HA,sub_lt_left_of_lt_add->HF,le_of_eq->HK,zero_add->HN,add_sub_cancel_left->HU,le_of_lt_succ->HW,add_assoc->H0,succ_le_succ->H_,le_add_right->Ia,zero_testBit->Ie,lt_trans->Ik,sub_self->Il,not_lt_zero->Im,le_sub_one_of_lt->Io,testBit_and->Iq,add_lt_add_left->Iw,lt_succ_of_lt->IP,sub_lt->IQ,lt_of_not_le->IT,max_eq_right->IU,add_zero->IV,not_lt_of_le->I_,testBit_or->Jn,sub_le_sub_right->Jp,testBit_two_pow->Jv,succ_mul->Jy,le_succ_of_le->JE,add_sub_assoc->JF,min_eq_right->JM,min_eq_left->JS,le_add_left->JT,le_antisymm->JU,left_le_or->JX,add_le_add->JY,mul_comm->J5,min_self->J6,lt_or_ge->J7,le_zero->Kd,not_lt->Kg,mod_lt->Kh
open Int renaming toNat_natCast->E_,toNat_of_nonneg->HB,emod_lt_of_pos->HQ,emod_nonneg->Ip,natCast_nonneg->ID,fdiv_eq_ediv_of_nonneg->IE,fmod_eq_emod_of_nonneg->IF,sub_zero->J8,ne_of_lt->J_,zero_add->Kb,mul_one->Kc,le_refl->Ke
open Option renaming some.inj->D',map->G8,map_eq_some_iff->HY,isSome_map->IK,some->Jf,isSome_some->Jz,some.injEq->JG,getD_none->JK,any->Kf
open Bool renaming false_ne_true->B_,and_eq_true->FI,false_eq_true->Ga,beq_eq_decide_eq->GP,eq_false_iff->GV,true_and->G4,eq_iff_iff->G5,or_eq_true->HE,not_eq_true'->IM,and_false->Ji,not_false->Jk,and_eq_true_iff->Js,not_true->Jt,or_false->J0,and_true->J3
open Array renaming getElem?_toList->fk,length_toList->f_,getElem?_eq_getElem->gV,toList_append->FR,toList_push->Gx,getD_eq_getD_getElem?->GK,perm_iff_toList_perm->GU,getElem?_extract->G',getElem?_eq_none->Ha,toList_extract->Hm,toList_reverse->Hn,getElem?_eq_some_iff->Ht,toList_setIfInBounds->II,size_setIfInBounds->IW,Perm.refl->Je,size_extract->JB,toList_map->JN,toList->J4
open And renaming intro->f'
open Or renaming inr->j_,inl->j'
open Prod renaming mk.inj->JI
open Classical renaming byContradiction->Q2
open False renaming elim->KJ
open ForInStep renaming done->Kx,yield->KL
open LT renaming lt->R0
open Ne renaming symm->LJ
open PyProof renaming noPylong_small->N3
open PyProof.Rows renaming Keyed->Kq,arrOf->Ks,wpS_bind->Ku,SortSt->Kv,wpS_pure->KA,pendingOf->KI,wpS_forRange->La,elem'->Lb,failedOf->Lc,wpS_mono->LA,callWith_type1->LX,seqObj->L0,SortKind->Mh,reverseSlice'->Mz,wpS_get->MP,subscriptTail->M5,AllBare->M8,envOfC->Na,wpS_modify->Nd,gallopOf->NO,subscriptTail_builtinR->N5,wpS_lift->Ov,mergeAt'->Ow,getElem?_mirror_all->OH,minRun'->O1,oneType'->Pt,boot_range->PK,callWith_builtin1->PQ,Subscript_->PR,bubble->P5,getElem?_bubble->P6,ltAt'->P7,get?_update_seq->P8,countRun'->Qx,Constant_none->Qz,listUpdate_at->QJ,isTrue_plain->Q4,keyKind'->Rv,binarySort'->RO,seqEpoch_at->RP,bitAnd_nn->RS,bitAnd_pp->RT,IsTup->RV,Call_->RW,IntsAre->RZ
open PyProof.Rows.F renaming plain_set_update_loop->MW,entry_set_update_loop->NT
open PyProof.Rows.IsTup renaming new->Sd
open PyProof.Rows.SortSt renaming mk'->L_
open PySem renaming wpAny_bind->Ki,Value->Kj,Addr->Kl,Shared->Km,wpAny_pure->Ko,wpAny->Kr,model->Kw,Program->Kz,Expr->KC,World->KD,starEach->KG,Heap->KH,Around->KN,FuncData->KP,eval->KR,wpAny_mono->KW,wpAny_holding->KY,compareOp->K4,sizeLine_eq->K5,wpAny_newObj_type->K7,Stmt->K8,binaryOp->Lf,SetTable->Lg,codeAny_builtin->Lh,foldedSetIterable->Li,wpAny_seqItems->Lk,mainGlobals->Ll,wpAny_pyIter_tuple->Lm,wpAny_callSpecial?_slot->Ln,Scope->Lp,wpAny_call_entry->Lq,rawInt->Lr,plainId_quiet->Lu,argBest->Lw,wpAny_loadPart'->Lx,wpAny_Call_Name_kw->Lz,Builtin->LC,wpAny_truthy_bool->LF,wpAny_pyIter_list->LG,wpAny_ite_split->LH,mem_of_lookup->LK,wpAny_field->LL,IsPair->LM,sysModules->LN,behindInMarks->LO,codeAny->LQ,wpAny_setField->LU,assignEach->LV,wpAny_rule->LW,wpAny_setField_rec->LZ,wpAny_passesOwn->L4,pyNext->L7,wpAny_setState_of->L8,bootBuiltins->Mb,backTo->Mc,codeAny_mono->Md,NameKind->Me,intKind->Mk,wpAny_attempt->Ml,typeIs_int->Mo,wpAny_of_eq->Mq,wpAny_letGo->Mr,fits_of_scanBound->Mt,firstArgMember->Mu,Model->Mv,IsZip->Mw,wpAny_isInstance->Mx,holding->MA,sliceBounds->MB,wpAny_updateSeq->MD,swapsWith->ME,tupleKind_room_in1->MG,seqItems?->MI,call_meets->MO,wpAny_tryCatch->MQ,assign->MZ,wpAny_standAt->M4,attributeBase->M6,comprehension->M7,wpAny_execs_nil->M9,letOwnedTupleGo->M_,pyIter->M',wpAny_updateSeq_pair->Nb,wpAny_setEntries_of->Nf,isSubtype_type->Ni,subscripted->Nj,richCompare->Nk,wpAny_richCompare_same_room->Nq,wpAny_onRaise->Nt,Comprehension->Nu,wpAny_newList->Nv,richCompare_gives->Nz,wpAny_setEpoch_of->NA,valueAt->NH,callerA->NI,wpAny_eqBool_int->NJ,Operator->NK,noFill_tuple_add->NL,Params->NM,relayAll->NP,argsOk->NQ,wpAny_askSetting->NR,tupleKind->NU,CmpOp->NV,atKey->NW,wpAny_specialOf->NX,IsRangeIter->NZ,wpAny_pyNext_range_end->N1,wpAny_pyIter_rangeiter->N2,codeAny_compStart_list->N7,Paired->N8,isTrue->N9,wpAny_isTrue_Compare1->N_,BindsTo->Oa,getItem->Ob,Keyword->Oc,getitemInPython_of_ne->Od,isSubtype_stop->Oe,builtinLookup_eq_fast->Og,builtinsNs->Oj,wpAny_loadName_local->Ol,bindL->Om,bindC->Oo,wpAny_letTemporaryGo->Oq,field->Ot,wpAny_newFunctionEnv->Ou,intKind_is->Ox,codeAny_call_builtin->Oy,seq_tuple_add->OB,wpAny_handled->OC,Builtin->OD,wpAny_loadName_cell->OF,wpAny_Constant_int->OL,PassesOwn->OM,wpAny_pyIter_range->ON,wpAny_List_spliced->OO,Result->OP,concat_meets->OQ,seqIndex_neg->OR,newExc->OU,gives_int_lt->OV,updateSeq->OX,wpAny_tupleItemsOf->OY,standAt->O0,wpAny_assign_Name->O2,wpAny_pyIter_enum->O6,wpAny_storeSet_of->O8,wpAny_pyIter_slot->O9,seqIndex_of->Pc,keywordEach->Pe,wpAny_throw->Pg,GenState->Pj,wpAny_execs_cons->Pl,wpAny_comp_letGo->Pp,wpAny_pyIter_zip->Pq,entryFor->Pu,checkBuiltinCall->Pw,wpAny_Name->PH,wpAny_load->PJ,wpAny_call->PN,call_tuple_same->PU,typeOf->PV,wpAny_operating->PY,call->PZ,typeLookup_type->P_,Walks->P',codeAny_of_tree->Qb,wpAny_Compare1->Qe,setItem->Qf,Slot->Qg,fitsIndex_both->Qh,letTemporaryGo->Qj,wpAny_newTuple->Qk,ItemsOf->Qm,entryFor_alias->Qn,setNext->Qo,wpAny_fieldsOf->Qp,wpAny_runValue->Qq,storeName->Qs,cellsFrom->Qt,seqIndex?->Qu,DictEntry->Qv,swapsWithSole->QA,swappedStores->QB,intBits_le_64->QC,evalPart_none->QD,call_list_seq->QE,wpAny_standIf->QH,signature?_of->QL,Drawn->QO,Meets->QZ,truthy->Q3,call_range_1->Q5,bindArgs->Rj,backToKw->Rk,newTuple->Rn,raiseNew->Ro,callType_new->Rq,IsEnum->Ru,setAddHashed->Ry,wpAny_typeOf->RC,wpAny_mkInt->RI,interactive->RK,operate->RU,table->RY
open PySem.Around renaming under_plainId->K9
open PySem.AutoListH renaming list___mul___list_int_3->Pf
open PySem.AutoSeq1 renaming wpAny_loadPart'->Mg,list_extend_list_list_0->Pm,list_reverse_list_0->Qi,sub_list_list->RQ
open PySem.Builtin renaming bitOr->LR,bitAnd->MM,bitNot->MR
open PySem.Builtin.Builtins renaming bindParams->L3
open PySem.Builtin.Dict renaming pendingCount->Q0
open PySem.Builtin.Frozenset renaming updateFrom->Qr,newClass->QM,sizeOf->RB,slot0->RF
open PySem.Builtin.List renaming listTooLong->Mf,listLengthHint->Nn,listExtendWith->Np,listSameRef->NS,listFitsIndex->QF,listUpdate->RE
open PySem.Builtin.Range renaming rangeSize->Mj,small->OG,rangeFitsLong->Qw
open PySem.Builtin.SmallTypes renaming nextOf->KZ,ownedTupleIsFree->LD,ownedTupleHandOut->MJ
open PySem.Builtin.Str renaming occurrences->MT
open PySem.Calls renaming spliced_cons->Mn,Name_function_global->Nr,call_function_entry->ND,callWith_builtin->N6,spliced_nil->O3
open PySem.CmpOp renaming NotIn->RJ,In->Ss
open PySem.Data renaming cell->Nl,fields->N0,seq->Rm
open PySem.Env renaming kindOf->P0
open PySem.EqMixed renaming eq_bool_str->QS,eq_str_bool->QT,ne_bool_str->QX,ne_str_bool->QY,eq_int_str->Q9,eq_str_int->Ra,ne_int_str->Rg,ne_str_int->Ri
open PySem.EqNone renaming eq_none_none->QP,eq_none_bool->QQ,eq_bool_none->QR,ne_none_none->QU,ne_none_bool->QV,ne_bool_none->QW,eq_none_int->Q6,eq_none_str->Q7,eq_int_none->Q8,eq_str_none->Q_,ne_none_int->Rb,ne_none_str->Rc,ne_int_none->Rf,ne_str_none->Rh
open PySem.F renaming plain_min_loop->Ld,slot_tuple_iterator_next->L6,called_set->Mi,entry_min_loop->Ms,args_tuple_add_2->MF,slot_list_append->MK,type_list_append->ML,entry_tuple_add->MU,plainAttrs_list->MV,slot_tuple_add->M0,slot_zip_next->Nc,args_tuple_iterator_next_1->Nh,entry_tuple_iterator_next->Nm,slot_dict_getitem->NB,plain_extend_loop->NF,slot_dict_len->Of,slot_tuple_lt->Oh,args_int_lt_2->Oi,slot_list_lt->Oz,entry_int_lt->OA,slot_int_lt->OJ,args_zip_next_1->O4,plain_list_iadd->O_,plain_min->O',entry_min->Pa,entry_zip_next->Pn,kind_min->Py,slot_int_rmul->PX,slot_set_iter->Qa,plain_set_new->Qc
open PySem.Heap renaming get?_push_of_some->Kn,get?_push_size->Kt,lt_size->Ky,get?_update_other->KS,size_push->K0,get?_update_self->K6,SameBut->Lj,ExtBut->M1,IsTuple->NN,get?_update_ne->OI,IsList->Ph
open PySem.Heap.DictOf renaming new->SD
open PySem.Heap.IsList renaming push->Po,extBut->Se
open PySem.Heap.IsListIter renaming extBut->RN
open PySem.Heap.IsSliceOf renaming new->R'
open PySem.Heap.IsTuple renaming push->O5,extBut->R6
open PySem.Heap.IsTupleIter renaming extBut->RD
open PySem.Heap.SameBut renaming update->Le,refl->So
open PySem.IsL renaming update->Su
open PySem.IsRange renaming new->Pb
open PySem.Manifest renaming sig_set_iterator->Q1,signature?->R8,owners->SF
open PySem.MeetsSeq renaming list_pop_at->RX
open PySem.NameKind renaming free->LP,cell->SK
open PySem.Obj renaming data_mapFields->K_,mapSeq->LB,isFreed_of_fields->L5,cls_mapFields->MX,mapFields->Nw,putSet->P9
open PySem.Paired renaming length->M3,snoc->RM
open PySem.PassesOwn renaming never->Ly
open PySem.SeqAt renaming EqAt->My,RcAt->P4,RcNeAt->Rr
open PySem.SeqAt.EqAt renaming same->Pz,int_none->R1,str_none->R3,none_int->R4,none_str->R5,int_str->R9,str_int->R_,of_refs->Sf
open PySem.SeqAt.RcAt renaming lists_lengths->Rt,tuples->Sj,lists->Sv
open PySem.SeqAt.RcNeAt renaming lists_lengths->QI,tuples->R7,lists->Sg
open PySem.SetTable renaming below->KU,grown->Ma,sizeAbove->OW,slot->QK,toList_insertAt->Rw,has->Rx,orStandIn->Sh,insertAt->Sl,freeSlot->Sm,layClean->Sn,advance->Sw,relaid->SE,Probe->SJ,laid->SM,fits->SN
open PySem.SetTable.below renaming go->MY
open PySem.SetTable.probe renaming go->O7
open PySem.Shared renaming heap->MC
open PySem.Str renaming ofString->Ls
open PySem.StrLaws renaming seqIndex_nonneg->Qd
open PySem.Value renaming ref->KO,none->K',type->Lo,int->Mm,str->OK,bool->PD,isStrOf->Qy,isInt->RG
open PySem.W renaming Frag->Kk,fnOf->LY,keepIn->MN,codeIn->Ng,methodObj->Ny,OpenLaw->NY,cellsFrom_some->N4,kHook->OE,nsIn->OZ,kitAny->Ql,WalkO->QG,mg_of->QN
open PySem.W.Hook renaming keeps->Si,says->Sr,obs->Sx,val->Sy,of->SH
open PySem.W.XL renaming keeps->Sz
open PySem.Walks renaming list->NC,range->RL
open PySem.pickOrder renaming go->RA
open Sum renaming inr->KQ,inl->NG
open Sum.inl renaming inj->RH
open True renaming intro->L9
namespace L2
open PySem PySem.Spec PyProof.Rows
abbrev Key:=Sum Int (Option Str)
def m5:Key->Kj->Bool
 | .inl k,v=>RG k v
 | .inr (some x),v=>Qy x v
 | .inr none,.none=>true
 | .inr none,_=>false
def Fz(w:KD):Key->Int
 | .inl k=>hashInt k
 | .inr (some x)=>hashStr w x
 | .inr none=>4238894112
theorem b8:∀ {k:Key} {v:Kj},m5 k v=true->(∃ i t,k=NG i/\v=Mm i t)\/(∃ x t,k=KQ (some x)/\v=OK x t)\/(k=KQ none/\v=K')
 | .inl i,v,h=>by
  obtain⟨t,e⟩:=Value.isInt_shape (k:=i) (v:=v) h
  exact .inl ⟨i,t,rfl,e⟩
 | .inr (some x),v,h=>by
  obtain⟨t,e⟩:=Value.isStrOf_shape (x:=x) (v:=v) h
  exact .inr (.inl ⟨x,t,rfl,e⟩)
 | .inr none,v,h=>by
  cases v <;> first | exact .inr (.inr ⟨rfl,rfl⟩) | cases h
theorem u6(i:Int)(t:Tok):m5 (.inl i) (.int i t)=true:=by simp[m5,RG]
theorem uH(x:Str)(t:Tok):m5 (.inr x) (.str x t)=true:=by simp[m5,Qy]
theorem Dd(a b:Int):decide ((NG a:Key)=NG b)=(a == b):=by
 by_cases e:a=b
 ·subst e;simp
 have h:¬(NG a:Key)=NG b:=fun q=>e (RH q)
 rw[decide_eq_false h]
 exact(beq_eq_false_iff_ne.mpr e).symm
theorem Be(a b:Str):decide ((KQ (some a):Key)=KQ (some b))=decide (a=b):=by
 by_cases e:a=b
 ·subst e;simp
 have h:¬(KQ (some a):Key)=KQ (some b):=fun q=>e (D' (Sum.inr.inj q))
 rw[decide_eq_false h,decide_eq_false e]
theorem vb{prog:Kz}{w:KD}{A:KN}{E:Kj->Km->Prop}{s:Km}{Q:Int->Km->Prop}(h:Q 4238894112 { s with toks:=s.toks + 1 }):Kr (Kw prog w) A (PySem.pyHash .none) Q E s:=
 PySem.W.pyHash_slot (T:="NoneType") rfl F.slot_NoneType_hash F.entry_NoneType_hash (F.args_NoneType_hash_1 _) (beq_builtin_none _) (.inl rfl) (Ki (Ko (Ki (RI (Ko ⟨_,_,rfl,h⟩)))))
noncomputable def aV(prog:Kz)(w:KD):PySem.KeyKind prog w Key where
 is:=m5
 hash:=Fz w
 inj:=fun v a b ha hb=>by
  rcases b8 ha with⟨i,t,rfl,rfl⟩ | ⟨x,t,rfl,rfl⟩ | ⟨rfl,rfl⟩ <;> rcases b8 hb with⟨j,u,rfl,e⟩ | ⟨y,u,rfl,e⟩ | ⟨rfl,e⟩ <;> cases e <;> rfl
 byValue:=fun k v h=>by
  rcases b8 h with⟨i,t,rfl,rfl⟩ | ⟨x,t,rfl,rfl⟩ | ⟨rfl,rfl⟩ <;> rfl
 pyHash:=fun hv h=>by
  rcases b8 hv with⟨i,t,rfl,rfl⟩ | ⟨x,t,rfl,rfl⟩ | ⟨rfl,rfl⟩
  ·exact wpAny_pyHash_int h
  ·exact wpAny_pyHash_str h
  exact vb h
 eqBool:=fun hu hv h=>by
  rcases b8 hu with⟨i,t,rfl,rfl⟩ | ⟨x,t,rfl,rfl⟩ | ⟨rfl,rfl⟩ <;> rcases b8 hv with⟨j,u,rfl,rfl⟩ | ⟨y,u,rfl,rfl⟩ | ⟨rfl,rfl⟩
  ·rw[Dd]at h;exact NJ h
  ·exact R9 i t y u _ _ _ _ h
  ·exact R1 i t _ _ _ _ h
  ·exact R_ x t j u _ _ _ _ h
  ·rw[Be]at h;exact wpAny_eqBool_str h
  ·exact R3 x t _ _ _ _ h
  ·exact R4 j u _ _ _ _ h
  ·exact R5 y u _ _ _ _ h
  exact Pz _ _ _ _ _ h
 «strs»:=fun k x t v h=>by
  rcases b8 h with⟨i,u,rfl,e⟩ | ⟨y,u,rfl,e⟩ | ⟨rfl,e⟩
  ·exact nomatch e
  ·injection e with e1 _
   subst e1
   cases v <;> rfl
  exact nomatch e
theorem pG(prog:Kz)(w:KD)(i:Int)(t:Tok):(aV prog w).is (.inl i) (.int i t)=true:=u6 i t
theorem oR(prog:Kz)(w:KD)(x:Str)(t:Tok):(aV prog w).is (.inr x) (.str x t)=true:=uH x t
inductive V where
 | non | bl (b:Bool) | int (i:Int) | str (x:Str) | byt (b:Array UInt8) | flt (b:UInt64) | ref (a:Kl) | ty (n:String)
 deriving DecidableEq
set_option genInjectivity false
noncomputable def RelV:V->Kj->Prop
 | .non,u=>u=K'
 | .bl b,u=>u=PD b
 | .int i,u=>∃ t,u=Mm i t
 | .str x,u=>∃ t,u=OK x t
 | .byt b,u=>∃ t,u=Value.bytes b t
 | .flt b,u=>∃ t,u=Value.float b t
 | .ref a,u=>u=KO a
 | .ty n,u=>u=Lo n
abbrev Vals:List V->List Kj->Prop:=N8 RelV
theorem Vals.length {xs:List V}{us:List Kj}(r:Vals xs us):xs.length=us.length:=M3 r
theorem Vals.get:∀ {xs:List V} {us:List Kj} {i:Nat} {x:V},Vals xs us->xs[i]?=some x->∃ u,us[i]?=some u/\RelV x u
 | _,_,_,_,.nil,e=>by simp at e
 | _,_,0,_,.cons r _,e=>by simp at e;subst e;exact⟨_,rfl,r⟩
 | _,_,i + 1,x,.cons _ t,e=>by
  obtain⟨u,h1,h2⟩:=Vals.get (i:=i) (x:=x) t (by simpa using e)
  exact⟨u,by simpa using h1,h2⟩
theorem Vals.set {x:V}{u:Kj}(r:RelV x u):∀ {xs:List V} {us:List Kj} (i:Nat),Vals xs us->Vals (xs.set i x) (us.set i u)
 | _,_,_,.nil=>.nil
 | _,_,0,.cons _ t=>.cons r t
 | _,_,i + 1,.cons q t=>.cons q (Vals.set r i t)
theorem Vals.append:∀ {xs ys:List V} {us ws:List Kj},Vals xs us->Vals ys ws->Vals (xs++ys) (us++ws)
 | _,_,_,_,.nil,s=>s
 | _,_,_,_,.cons r t,s=>.cons r (Vals.append t s)
theorem Vals.take:∀ {xs:List V} {us:List Kj} (n:Nat),Vals xs us->Vals (xs.take n) (us.take n)
 | _,_,0,_=>.nil
 | _,_,_ + 1,.nil=>.nil
 | _,_,n + 1,.cons r t=>.cons r (Vals.take n t)
theorem Vals.drop:∀ {xs:List V} {us:List Kj} (n:Nat),Vals xs us->Vals (xs.drop n) (us.drop n)
 | _,_,0,r=>r
 | _,_,_ + 1,.nil=>.nil
 | _,_,n + 1,.cons _ t=>Vals.drop n t
def l4:Option V->Option Kj->Prop
 | some v,some u=>RelV v u
 | none,none=>True
 | _,_=>False
def KV{κ:Type}:List (κ × V)->List (κ × Kj)->Prop:=N8 fun(p:κ × V) (q:κ × Kj)=>p.1=q.1/\RelV p.2 q.2
def kV:Key->V
 | .inl i=>.int i
 | .inr (some x)=>.str x
 | .inr none=>.non
inductive HO where
 | lst (xs:List V)
 | tup (xs:List V)
 | dK (kvs:List (Key × V)) | dT (kvs:List (List Key × V))
 | set (S:Int->Bool) (n:Nat)
 | ins (C dx:Kl) (fs:List (Str × V))
 | own (x:Kl)
 | xd (fs:List (Str × V))
 | met (f x:Kl)
 | rng (lo hi:Int)
 | frz (o:Obj) (u:HO)
 | tbl (ps:Array Kj)
 | ext (φ:KH->Prop)
abbrev Hp:=Kl->Option HO
def upd(H:Hp)(a:Kl)(o:HO):Hp:=fun b=>if b=a then some o else H b
theorem ax{H:Hp}{a:Kl}{o:HO}:upd H a o a=some o:=by unfold upd;rw[if_pos rfl]
theorem ak{H:Hp}{a b:Kl}{o:HO}(h:b≠a):upd H a o b=H b:=by unfold upd;rw[if_neg h]
theorem A8{H:Hp}{a:Kl}{o u:HO}:upd (upd H a o) a u=upd H a u:=by
 funext b;unfold upd;split <;> rfl
theorem Av{H:Hp}{a b:Kl}{o u:HO}(h:H a=some o)(h':H b=some u)(d:o≠u):a≠b:=by
 intro e;subst e;rw[h]at h';exact d (D' h')
theorem aQ{H:Hp}{a b:Kl}{o:HO}(h:H a=some o)(h':H b=none):a≠b:=by
 intro e;subst e;rw[h]at h';cases h'
section
variable(P:Kz)(w:KD)
noncomputable def aW(H:Hp)(h:KH)(a:Kl):HO->Prop
 | .lst xs=>xs.length<=sizeLine/\∃(its:List Kj) (n:Nat),Vals xs its/\h.get? a=some { cls:=.type "list",data:=.seq its.toArray n }
 | .tup xs=>xs.length<=sizeLine/\∃ its:List Kj,Vals xs its/\RV h a its.toArray
 | .dK kvs=>kvs.length<=sizeLine/\(a == LN)=false/\∃ vs,KV kvs vs/\h.DictOf (aV P w) a vs
 | .dT kvs=>kvs.length<=sizeLine/\(a == LN)=false/\∃ xs:List (List Key × Kl × Kj),
   N8 (fun(p:List Key × V) (q:List Key × Kl × Kj)=>p.1=q.1/\H q.2.1=some (.tup (p.1.map kV))/\RelV p.2 q.2.2) kvs xs/\
   ∃ o es ep,h.get? a=some o/\o.ExactDict/\o.data=.dict es ep/\es.toList=xs.map (entryOfKey (NU (aV P w)))/\(xs.map (·.1)).Nodup
 | .set S n=>h.SetOf (Mk P w) a S n
 | .ins C dx fs=>H dx=some (.own a)/\fs.length<=1000/\dx≠a/\h.get? a=some (PySem.W.instObj C dx)/\
   ∃ mA,h.Ns1 dx mA/\(∀ f,l4 (fs.lookup f) (mA f))/\PySem.Within mA (fs.map (·.1))
 | .own _=>∃ o,h.get? a=some o
 | .xd fs=>∃ mA,h.Ns1 a mA/\∀ f,l4 (fs.lookup f) (mA f)
 | .rng lo hi=>∃ t u v,h.get? a=some { cls:=.type "range",data:=.fields #[.int lo t,.int hi u,.int 1 v] }
 | .frz o u=>h.get? a=some o/\aW H h a u
 | .tbl ps=>h.get? a=some { cls:=.none,data:=.fields ps }
 | .met f x=>h.get? a=some (Ny (.ref f) (.ref x))
 | .ext φ=>φ h/\(∃ o,h.get? a=some o)/\∀ h1 h2:KH,φ h1->(∀ o,h1.get? a=some o->h2.get? a=some o)->φ h2
def HOk(H:Hp)(h:KH):Prop:=∀ a o,H a=some o->aW P w H h a o
end
section
variable{P:Kz}{w:KD}{H H':Hp}{h h':KH}{a:Kl}{o:HO}
theorem aW.lt (x:aW P w H h a o):a < h.objs.size:=by
 cases o with
 | lst xs=>obtain⟨_,_,_,_,e⟩:=x;exact Ky e
 | tup xs=>obtain⟨_,_,_,p⟩:=x;exact p.lt
 | dK kvs=>obtain⟨_,_,_,_,o,_,_,e,_⟩:=x;exact Ky e
 | dT kvs=>obtain⟨_,_,_,_,o,_,_,e,_⟩:=x;exact Ky e
 | set S n=>obtain⟨o,_,_,_,e,_⟩:=x;exact Ky e
 | ins C dx fs=>obtain⟨_,_,_,e,_⟩:=x;exact Ky e
 | own y=>obtain⟨_,e⟩:=x;exact Ky e
 | xd fs=>obtain⟨_,⟨_,_,_,e,_⟩,_⟩:=x;exact Ky e
 | rng lo hi=>obtain⟨_,_,_,e⟩:=x;exact Ky e
 | frz ob u=>obtain⟨e,_⟩:=x;exact Ky e
 | tbl ps=>exact Ky (show h.get? a=some _ from x)
 | met f y=>exact Ky (show h.get? a=some _ from x)
 | ext φ=>obtain⟨_,⟨_,e⟩,_⟩:=x;exact Ky e
theorem Paired.Bk {α β:Type}{F G:α->β->Prop}:∀ {l₁:List α} {l₂:List β},N8 F l₁ l₂->(∀ a b,F a b->G a b)->N8 G l₁ l₂
 | _,_,.nil,_=>.nil
 | _,_,.cons r t,f=>.cons (f _ _ r) (Paired.Bk t f)
theorem aW.eB (x:aW P w H h a o)(k:∀ b u,(b=a\/H b=some (.own a))->h.get? b=some u->h'.get? b=some u)
  (ho:∀ b,H b=some (.own a)->H' b=some (.own a)) (ht:∀ b xs,H b=some (.tup xs)->H' b=some (.tup xs)):aW P w H' h' a o:=by
 induction o with
 | lst xs=>obtain⟨z,its,n,r,e⟩:=x;exact⟨z,its,n,r,k _ _ (.inl rfl) e⟩
 | tup xs=>obtain⟨z,its,r,ob,e,c⟩:=x;exact⟨z,its,r,ob,k _ _ (.inl rfl) e,c⟩
 | dK kvs=>obtain⟨z,y,vs,r,ob,es,ep,e,c⟩:=x;exact⟨z,y,vs,r,ob,es,ep,k _ _ (.inl rfl) e,c⟩
 | dT kvs=>
  obtain⟨z,y,xs,r,ob,es,ep,e,c⟩:=x
  exact⟨z,y,xs,Paired.Bk r fun p q z=>⟨z.1,ht _ _ z.2.1,z.2.2⟩,ob,es,ep,k _ _ (.inl rfl) e,c⟩
 | set S n=>obtain⟨ob,es,ep,t,e,c⟩:=x;exact⟨ob,es,ep,t,k _ _ (.inl rfl) e,c⟩
 | ins C dx fs=>
  obtain⟨d,z,ne,e,mA,⟨od,es,ep,e2,c⟩,r⟩:=x
  exact⟨ho _ d,z,ne,k _ _ (.inl rfl) e,mA,⟨od,es,ep,k _ _ (.inr d) e2,c⟩,r⟩
 | own y=>obtain⟨ob,e⟩:=x;exact⟨ob,k _ _ (.inl rfl) e⟩
 | xd fs=>obtain⟨mA,⟨od,es,ep,e,c⟩,r⟩:=x;exact⟨mA,⟨od,es,ep,k _ _ (.inl rfl) e,c⟩,r⟩
 | rng lo hi=>obtain⟨t,u,v,e⟩:=x;exact⟨t,u,v,k _ _ (.inl rfl) e⟩
 | frz ob u ih=>obtain⟨e,q⟩:=x;exact⟨k _ _ (.inl rfl) e,ih q⟩
 | tbl ps=>
  have e:h.get? a=some { cls:=.none,data:=.fields ps }:=x
  show h'.get? a=some { cls:=.none,data:=.fields ps }
  exact k a _ (.inl rfl) e
 | met f y=>
  have e:h.get? a=some (Ny (.ref f) (.ref y)):=x
  show h'.get? a=some (Ny (.ref f) (.ref y))
  exact k a _ (.inl rfl) e
 | ext φ=>obtain⟨p,⟨o,e⟩,st⟩:=x;exact⟨st _ _ p fun o q=>k _ _ (.inl rfl) q,⟨o,k _ _ (.inl rfl) e⟩,st⟩
theorem HOk.lt (x:HOk P w H h)(e:H a=some o):a < h.objs.size:=(x a o e).lt
theorem HOk.fresh (x:HOk P w H h)(e:h.objs.size<=a):H a=none:=by
 cases q:H a with
 | none=>rfl
 | some u=>exact absurd (u_ (x.lt q) e) (GB _)
theorem HOk.kept (x:HOk P w H h)(k:∀ b u,h.get? b=some u->h'.get? b=some u):HOk P w H h':=fun a o e=>
 (x a o e).eB (fun b u _ q=>k b u q) (fun _ q=>q) fun _ _ q=>q
theorem HOk.laid (x:HOk P w H h)(k:∀ b u,h.get? b=some u->h'.get? b=some u)(hp:h.objs.size<=a)(new:aW P w (upd H a o) h' a o):HOk P w (upd H a o) h':=fun b u e=>by
 have hn:=x.fresh hp
 by_cases hb:b=a
 ·subst hb;rw[ax]at e;cases e;exact new
 rw[ak hb]at e
 exact(x b u e).eB (fun c v _ q=>k c v q) (fun c q=>by rw[ak (aQ q hn)];exact q) fun c xs q=>by rw[ak (aQ q hn)];exact q
end
def Rd(H:Hp)(a:Kl)(u:HO):Prop:=H a=some u\/∃ o,H a=some (.frz o u)
theorem Rd.ok {P:Kz}{w:KD}{H:Hp}{h:KH}{a:Kl}{u:HO}(r:Rd H a u)(x:HOk P w H h):aW P w H h a u:=by
 rcases r with r | ⟨o,r⟩
 ·exact x a u r
 obtain⟨_,q⟩:=x a _ r
 exact q
noncomputable def Mut:Option HO->Prop
 | some (.lst _)=>True
 | some (.dK _)=>True
 | some (.dT _)=>True
 | some (.set _ _)=>True
 | some (.ins _ _ _)=>True
 | some (.ext _)=>True
 | _=>False
section
variable{P:Kz}{w:KD}{H:Hp}{h h':KH}{x e:Kl}{o':HO}
theorem HOk.write (ok:HOk P w H h)(mu:Mut (H x))(he:e=x\/H e=some (.own x))(k:∀ b u,b≠e->h.get? b=some u->h'.get? b=some u)(heo:∃ u,h'.get? e=some u)
  (new:aW P w (upd H x o') h' x o'):HOk P w (upd H x o') h':=fun b u q=>by
 have nown:∀ c y,H c=some (.own y)->c≠x:=fun c y r z=>by subst z;rw[r]at mu;exact mu
 have ntup:∀ c xs,H c=some (.tup xs)->c≠x:=fun c xs r z=>by subst z;rw[r]at mu;exact mu
 by_cases hb:b=x
 ·subst hb;rw[ax]at q;cases q;exact new
 rw[ak hb]at q
 by_cases hbe:b=e
 ·have q':H b=some (.own x):=by
   rcases he with z | z
   ·exact absurd (hbe.trans z) hb
   rw[hbe];exact z
  rw[q]at q';cases q'
  obtain⟨v,hv⟩:=heo
  exact⟨v,by rw[hbe];exact hv⟩
 refine(ok b u q).eB (fun c v hc r=>k c v ?_ r) (fun c r=>by rw[ak (nown c b r)];exact r) fun c xs r=>by rw[ak (ntup c xs r)];exact r
 rcases hc with rfl | hc
 ·exact hbe
 rintro rfl
 rcases he with z | z
 ·exact nown c b hc z
 rw[hc]at z;cases z;exact hb rfl
end
structure Un (fs ex:List Kl) (H H':Hp) (h h':KH):Prop where
 keep:∀ b o,h.get? b=some o->H b=none->b ∉ fs->b ∉ ex->h'.get? b=some o
 slot:∀ b o,h.get? b=some o->H b=none->b∈fs->b ∉ ex->∃ sl,h'.get? b=some { o with slots:=sl }
 free:∀ b o,h.get? b=some o->H b=none->b ∉ ex->H' b=none
 there:∀ b o,h.get? b=some o->b ∉ ex->∃ o',h'.get? b=some o'
 tups:∀ b xs,H b=some (.tup xs)->H' b=some (.tup xs)
 frzs:∀ b o u,H b=some (.frz o u)->H' b=some (.frz o u)
 tbls:∀ b ps,H b=some (.tbl ps)->∃ more,H' b=some (.tbl (ps++more))
section
variable{fs fs' ex ex':List Kl}{H H1 H2:Hp}{h h1 h2 h':KH}{a x e:Kl}{o:HO}
theorem Un.any (u:Un fs ex H H1 h h1){b:Kl}{ob:Obj}(q:h.get? b=some ob)(n:H b=none)(hx:b ∉ ex):∃ sl,h1.get? b=some { ob with slots:=sl }:=by
 by_cases hb:b∈fs
 ·exact u.slot b ob q n hb hx
 exact⟨ob.slots,u.keep b ob q n hb hx⟩
theorem Un.kept (k:∀ b u,h.get? b=some u->h'.get? b=some u):Un fs ex H H h h':=
 ⟨fun b ob q _ _ _=>k b ob q,fun b ob q _ _ _=>⟨ob.slots,k b ob q⟩,fun _ _ _ n _=>n,fun b ob q _=>⟨ob,k b ob q⟩,fun _ _ q=>q,fun _ _ _ q=>q,fun _ ps q=>⟨#[],by rw[q];simp⟩⟩
theorem Un.refl:Un fs ex H H h h:=Un.kept fun _ _ q=>q
theorem Un.laid (k:∀ b u,h.get? b=some u->h'.get? b=some u)(hp:h.objs.size<=a)(hn:H a=none):Un fs ex H (upd H a o) h h' where
 keep:=fun b u q _ _ _=>k b u q
 slot:=fun b u q _ _ _=>⟨u.slots,k b u q⟩
 free:=fun b u q n _=>by rw[ak (w_ (u_ (Ky q) hp))];exact n
 there:=fun b u q _=>⟨u,k b u q⟩
 tups:=fun b xs q=>by rw[ak (aQ q hn)];exact q
 frzs:=fun b u xs q=>by rw[ak (aQ q hn)];exact q
 tbls:=fun b ps q=>⟨#[],by rw[ak (aQ q hn),q];simp⟩
theorem Un.write (mu:Mut (H x))(he:e=x\/H e=some (.own x))(k:∀ b u,b≠e->h.get? b=some u->h'.get? b=some u)(heo:∃ u,h'.get? e=some u):Un fs ex H (upd H x o) h h':=by
 have hx:∀ b,H b=none->b≠x:=fun b n z=>by subst z;rw[n]at mu;exact mu
 have hb:∀ b,H b=none->b≠e:=fun b n z=>by
  subst z
  rcases he with r | r
  ·exact hx b n r
  rw[n]at r;cases r
 have hm:∀ b u,H b=some u->¬ Mut (some u)->b≠x:=fun b u q nm z=>by subst z;rw[q]at mu;exact nm mu
 refine⟨fun b u q n _ _=>k b u (hb b n) q,fun b u q n _ _=>⟨u.slots,k b u (hb b n) q⟩,fun b u q n _=>by rw[ak (hx b n)];exact n,fun b u q _=>?_,
  fun b xs q=>by rw[ak (hm b _ q fun z=>z)];exact q,fun b u xs q=>by rw[ak (hm b _ q fun z=>z)];exact q,fun b ps q=>⟨#[],by rw[ak (hm b _ q fun z=>z),q];simp⟩⟩
 by_cases hbe:b=e
 ·subst hbe;exact heo
 exact⟨u,k b u hbe q⟩
end
def trk(h:KH)(H:Hp):List Kl:=(m_ h.objs.size).filter fun a=>(H a).isSome
def nu(h:KH)(H:Hp):KH:=PySem.W.hideAll h (trk h H)
theorem uS(h:KH)(H:Hp):(nu h H).objs.size=h.objs.size:=PySem.W.hideAll_size _ _
theorem wK{h:KH}{H:Hp}{b:Kl}{o:Obj}(e:h.get? b=some o)(n:H b=none):(nu h H).get? b=some o:=
 PySem.W.hideAll_get _ e fun hm=>by
  have q:(H b).isSome=true:=(Gs.mp hm).2
  rw[n]at q;simp at q
theorem A2{h:KH}{H:Hp}{b:Kl}{o:Obj}(e:(nu h H).get? b=some o):h.get? b=some o/\H b=none:=by
 have e':h.get? b=some o:=PySem.W.of_hideAll (trk h H) e
 refine⟨e',?_⟩
 cases q:H b with
 | none=>rfl
 | some x=>
  have hm:b∈trk h H:=Gs.mpr ⟨Gg.mpr (Ky e'),by simp[q]⟩
  have z:(nu h H).get? b=none:=PySem.W.hideAll_none (trk h H) hm
  rw[z]at e;cases e
noncomputable def zi(g h:KH)(L:Kl):List (Kl × Obj):=(m_ h.objs.size).filterMap fun a=>if a=L\/(g.get? a).isSome=true then none else(h.get? a).map fun o=>(a,o)
def rest(g h:KH)(L d:Kl):List (Kl × Obj):=(zi g h L).filter fun p=>decide (p.1≠d)
structure Mod (K:Kk) (mg:Str->Option Kj) (base:KH):Prop where
 kin:K.In base
 glob:base.Ns Ll mg
 blt:∃ mb,base.Ns Oj mb/\∀ x:Str,x≠"__name__"->mb x=Mb x
 nolimit:base.NoLimit
structure Cx where
 prog:Kz
 w:KD
 K:Kk
 mg:Str->Option Kj
 base:KH
 A:KN
 N:List Str
 s₀:Km
 H₀:Hp
 env:Env
 outer:List Env
 stack:List Env
 ex:List Kl
 fn:Str->Bool
 calm:Bool
 pn:List (Kl × Obj)
 xe:Kj->Km->Prop
def frs(l:List Env):List Kl:=l.filterMap (·.frame)
abbrev Cx.fs (X:Cx):List Kl:=frs X.outer
noncomputable def Vis(sc:Lp)(x:Str):Prop:=sc.names.lookup x=some .local\/sc.names.lookup x=some .cell\/sc.names.lookup x=some .free
def Loc(sc:Lp)(x:Str):Prop:=sc.names.lookup x=some .local\/sc.names.lookup x=some .cell
noncomputable def Look(env:Env)(h:KH)(m:Str->Option Kj)(x:Str)(u:Kj):Prop:=
 (env.kindOf x=some .local/\m x=some u)\/((env.kindOf x=some .cell\/env.kindOf x=some .free)/\∃ c,env.cells.lookup x=some c/\h.IsCell c (some u))
structure Cx.Ok (X:Cx):Prop where
 mod:Mod X.K X.mg X.base
 kind:X.env.scope.kind=.function
 glob:X.env.globals=Ll
 blt:X.env.builtins=Oj
 above:X.s₀.heap.objs.size<=X.env.locals
 inj:∀ x y c,X.env.cells.lookup x=some c->X.env.cells.lookup y=some c->x=y
 has:∀ x,(X.env.kindOf x=some .cell\/X.env.kindOf x=some .free)->∃ c,X.env.cells.lookup x=some c
 cab:∀ x c,X.fn x=true->X.env.cells.lookup x=some c->X.s₀.heap.objs.size<=c
 hd:X.calm=true->X.A.handled=none
 frames:X.A.frames=some X.stack
 stk:X.stack=X.outer\/(X.stack=X.env::X.outer/\X.env.frame=some X.env.locals)
 exf:∀ b∈X.ex,b≠X.env.locals/\∀ x c,X.env.cells.lookup x=some c->c≠b
 bs:∀ b o,X.base.get? b=some o->X.s₀.heap.get? b=some o/\X.H₀ b=none
 bsz:X.base.objs.size<=X.s₀.heap.objs.size
 noex:∀ b o,X.base.get? b=some o->b ∉ X.ex
 exfs:∀ b∈X.ex,b ∉ X.fs
 kU:X.s₀.heap.FunFrames X.base X.outer
 frf:∀ b∈X.fs,X.H₀ b=none
structure Inv (X:Cx) (pins:List (Kl × Obj)) (σ:List (Option V)) (H:Hp) (s:Km):Prop where
 ok:X.Ok
 os:s.os=X.s₀.os
 bare:M8 s.gens
 base:Un X.fs X.ex X.H₀ H X.s₀.heap s.heap
 loc:∃ m,s.heap.Ns X.env.locals m/\∀(i:Nat) (x:Str) (v:V),X.N[i]?=some x->σ[i]?=some (some v)->Vis X.env.scope x->∃ u,RelV v u/\Look X.env s.heap m x u
 cell:∀ x c,X.env.cells.lookup x=some c->∃ v,s.heap.IsCell c v
 free:H X.env.locals=none
 freeC:∀ x c,X.env.cells.lookup x=some c->H c=none
 pin:∀ p∈X.pn++pins,s.heap.get? p.1=some p.2/\H p.1=none/\p.1≠X.env.locals/\p.1 ∉ X.fs/\∀ v,p.2.data≠.cell v
 hok:HOk X.prog X.w H s.heap
 len:σ.length=X.N.length
section
variable{X:Cx}{pins:List (Kl × Obj)}{σ:List (Option V)}{H H':Hp}{s:Km}{h':KH}
theorem Cx.Ok.Fn (ok:X.Ok){b:Kl}{o:Obj}(e:X.base.get? b=some o):b ∉ X.fs:=fun hb=>by
 have:=(ok.kU.mem hb).1
 rw[e]at this;cases this
theorem Inv.bs (I:Inv X pins σ H s):∀ b o,X.base.get? b=some o->s.heap.get? b=some o/\H b=none:=fun b o e=>
 ⟨I.base.keep b o (I.ok.bs b o e).1 (I.ok.bs b o e).2 (I.ok.Fn e) (I.ok.noex b o e),I.base.free b o (I.ok.bs b o e).1 (I.ok.bs b o e).2 (I.ok.noex b o e)⟩
theorem Inv.bk (I:Inv X pins σ H s):∀ b o,X.base.get? b=some o->s.heap.get? b=some o:=fun b o e=>(I.bs b o e).1
theorem Inv.mod (I:Inv X pins σ H s):Mod X.K X.mg X.base:=I.ok.mod
theorem Inv.kIn (I:Inv X pins σ H s):X.K.In s.heap:=I.ok.mod.kin.keeps I.bk
theorem Inv.lt (I:Inv X pins σ H s):X.env.locals < s.heap.objs.size:=let ⟨_,hn,_⟩:=I.loc;hn.lt
theorem Inv.sz (I:Inv X pins σ H s):X.s₀.heap.objs.size<=s.heap.objs.size:=n_ I.ok.above (FK I.lt)
theorem Inv.Fi (I:Inv X pins σ H s){a:Kl}(h:s.heap.objs.size<=a):a ∉ X.fs:=fun hb=>by
 obtain⟨_,o,ho,_⟩:=I.ok.kU.mem hb
 exact absurd (u_ (Ky ho) (n_ I.sz h)) (GB _)
theorem Inv.cne (I:Inv X pins σ H s):∀ x c,X.env.cells.lookup x=some c->c≠X.env.locals:=fun x c e z=>by
 obtain⟨v,o,ho,hd⟩:=I.cell x c e
 obtain⟨m,⟨o',es,ep,ho',hd',_⟩,_⟩:=I.loc
 rw[z,ho']at ho;cases ho;rw[hd']at hd;cases hd
theorem Inv.kU (I:Inv X pins σ H s):s.heap.FunFrames X.base X.outer:=by
 have all:∀(l:List Env),(∀ b∈frs l,b∈X.fs)->X.s₀.heap.FunFrames X.base l->s.heap.FunFrames X.base l:=by
  intro l
  induction l with
  | nil=>intro _ _;trivial
  | cons env r ih=>
   intro hs hl
   obtain⟨hk,⟨L,o,hf,hn,ho,hd⟩,hr⟩:=hl
   have hL:L∈X.fs:=hs L (by unfold frs;rw[Iu,hf];exact y_)
   obtain⟨sl,e⟩:=I.base.slot L o ho (I.ok.frf L hL) hL fun z=>I.ok.exfs L z hL
   exact⟨hk,⟨L,_,hf,hn,e,hd⟩,ih (fun b hb=>hs b (by unfold frs;rw[Iu,hf];exact o_ _ hb)) hr⟩
 exact all X.outer (fun _ hb=>hb) I.ok.kU
theorem Inv.stack (I:Inv X pins σ H s):s.heap.FunFrames X.base X.stack:=by
 rcases I.ok.stk with e | ⟨e,hf⟩
 ·rw[e];exact I.kU
 rw[e]
 obtain⟨m,hn,_⟩:=I.loc
 refine .cons (by rw[I.ok.kind];decide) hf hn ?_ I.kU
 exact Heap.get?_none_of_le (n_ I.ok.bsz I.ok.above)
theorem Inv.qJ (I:Inv X pins σ H s):∀ b∈frs X.stack,b∈X.env.locals::X.fs:=fun b hb=>by
 rcases I.ok.stk with e | ⟨e,hf⟩
 ·rw[e]at hb;exact o_ _ hb
 rw[e]at hb
 unfold frs at hb
 rw[Iu,hf]at hb
 exact hb
theorem Inv.rT (I:Inv X pins σ H s):∀ b∈frs X.stack,H b=none:=fun b hb=>by
 rcases t_.mp (I.qJ b hb)with e | hb
 ·rw[e];exact I.free
 obtain⟨_,o,ho,_⟩:=I.ok.kU.mem hb
 exact I.base.free b o ho (I.ok.frf b hb) fun z=>I.ok.exfs b z hb
theorem Inv.step {g':Array Pj}{t':Nat}{d':QO}{ch:List Kl}(I:Inv X pins σ H s)
  (hch:∀ b∈ch,(b∈X.ex\/X.s₀.heap.objs.size<=b)/\b≠X.env.locals/\(∀ x c,X.env.cells.lookup x=some c->c≠b)/\∀ p∈X.pn++pins,p.1≠b)
  (keep:∀ b o,b≠X.env.locals->b ∉ X.fs->b ∉ ch->s.heap.get? b=some o->H b=none->h'.get? b=some o)
  (slot:∀ b o,b≠X.env.locals->b∈X.fs->b ∉ ch->s.heap.get? b=some o->H b=none->∃ sl,h'.get? b=some { o with slots:=sl }) (free:∀ b o,b ∉ ch->s.heap.get? b=some o->H b=none->H' b=none)
  (there:∀ b o,b ∉ ch->s.heap.get? b=some o->∃ o',h'.get? b=some o')
  (tups:∀ b xs,H b=some (.tup xs)->H' b=some (.tup xs)) (frzs:∀ b o u,H b=some (.frz o u)->H' b=some (.frz o u)) (tbls:∀ b ps,H b=some (.tbl ps)->∃ more,H' b=some (.tbl (ps++more)))
  (ns:∀ m,s.heap.Ns X.env.locals m->h'.Ns X.env.locals m) (hok:HOk X.prog X.w H' h') (hg:M8 g') :
  Inv X pins σ H' { s with heap:=h',gens:=g',drawn:=d',toks:=t' }:=by
 have neL:∀ b o,X.s₀.heap.get? b=some o->b≠X.env.locals:=fun b o e=>w_ (u_ (Ky e) I.ok.above)
 have neC:∀ b o,X.s₀.heap.get? b=some o->b ∉ X.ex->b ∉ ch:=fun b o e hx hb=>by
  rcases(hch b hb).1 with z | z
  ·exact hx z
  exact absurd (u_ (Ky e) z) (GB _)
 have cellK:∀ x c,X.env.cells.lookup x=some c->∀ v,s.heap.IsCell c v->h'.IsCell c v:=fun x c e v ⟨o,ho,hd⟩=>by
  have nch:c ∉ ch:=fun z=>(hch c z).2.2.1 x c e rfl
  by_cases hc:c∈X.fs
  ·obtain⟨sl,q⟩:=slot c o (I.cne x c e) hc nch ho (I.freeC x c e)
   exact⟨_,q,hd⟩
  exact⟨o,keep c o (I.cne x c e) hc nch ho (I.freeC x c e),hd⟩
 refine⟨I.ok,I.os,hg,⟨fun b o e n hb hx=>?_,fun b o e n hb hx=>?_,fun b o e n hx=>?_,fun b o e hx=>?_,fun b xs e=>tups b xs (I.base.tups b xs e),fun b o xs e=>frzs b o xs (I.base.frzs b o xs e),fun b ps e=>?_⟩,?_,fun x c e=>?_,?_,fun x c e=>?_,fun p hp=>?_,hok,I.len⟩
 ·exact keep b o (neL b o e) hb (neC b o e hx) (I.base.keep b o e n hb hx) (I.base.free b o e n hx)
 ·obtain⟨sl,e1⟩:=I.base.slot b o e n hb hx
  obtain⟨sl',e2⟩:=slot b _ (neL b o e) hb (neC b o e hx) e1 (I.base.free b o e n hx)
  exact⟨sl',e2⟩
 ·obtain⟨o',e1⟩:=I.base.there b o e hx
  exact free b o' (neC b o e hx) e1 (I.base.free b o e n hx)
 ·obtain⟨o',e1⟩:=I.base.there b o e hx
  exact there b o' (neC b o e hx) e1
 ·obtain⟨m1,e1⟩:=I.base.tbls b ps e
  obtain⟨m2,e2⟩:=tbls b _ e1
  exact⟨m1++m2,by rw[e2,Array.append_assoc]⟩
 ·obtain⟨m,hn,hl⟩:=I.loc
  refine⟨m,ns m hn,fun i x v e1 e2 e3=>?_⟩
  obtain⟨u,r,l⟩:=hl i x v e1 e2 e3
  refine⟨u,r,?_⟩
  rcases l with l | ⟨k,c,e,z⟩
  ·exact .inl l
  exact .inr ⟨k,c,e,cellK x c e _ z⟩
 ·obtain⟨v,z⟩:=I.cell x c e
  exact⟨v,cellK x c e v z⟩
 ·obtain⟨m,⟨o,_,_,ho,_⟩,_⟩:=I.loc
  exact free _ o (fun z=>(hch _ z).2.1 rfl) ho I.free
 ·obtain⟨v,o,ho,hd⟩:=I.cell x c e
  exact free c o (fun z=>(hch c z).2.2.1 x c e rfl) ho (I.freeC x c e)
 obtain⟨e,n,ne,nf,d⟩:=I.pin p hp
 have nch:p.1 ∉ ch:=fun z=>(hch p.1 z).2.2.2 p hp rfl
 exact⟨keep p.1 p.2 ne nf nch e n,free p.1 p.2 nch e n,ne,nf,d⟩
theorem Inv.un {t':Nat}(I:Inv X pins σ H s)(u:Un X.fs [] H H' s.heap h')(hok:HOk X.prog X.w H' h'):Inv X pins σ H' { s with heap:=h',toks:=t' }:=by
 obtain⟨m,⟨o,es,ep,ho,r⟩,_⟩:=id I.loc
 obtain⟨sl,hL⟩:=u.any ho I.free (by simp)
 exact I.step (g':=s.gens) (d':=s.drawn) (ch:=[]) (fun _ z=>nomatch z) (fun b o _ hb _ e n=>u.keep b o e n hb (by simp)) (fun b o _ hb _ e n=>u.slot b o e n hb (by simp)) (fun b o _ e n=>u.free b o e n (by simp)) (fun b o _ e=>u.there b o e (by simp)) u.tups u.frzs u.tbls (fun m' hm=>by
  obtain⟨o',es',ep',ho',r'⟩:=hm
  rw[ho]at ho';cases ho'
  exact⟨_,es',ep',hL,r'⟩) hok I.bare
theorem Inv.call {g':Array Pj}{t':Nat}{d':QO}{ch:List Kl}(I:Inv X pins σ H s)(u:Un (frs X.stack) ch H H' s.heap h')(hok:HOk X.prog X.w H' h')(hg:M8 g')
  (hch:∀ b∈ch,(b∈X.ex\/X.s₀.heap.objs.size<=b)/\b≠X.env.locals/\(∀ x c,X.env.cells.lookup x=some c->c≠b)/\∀ p∈X.pn++pins,p.1≠b) :
  Inv X pins σ H' { s with heap:=h',gens:=g',drawn:=d',toks:=t' }:=by
 obtain⟨m,⟨o,es,ep,ho,r⟩,_⟩:=id I.loc
 obtain⟨sl,hL⟩:=u.any ho I.free fun z=>(hch _ z).2.1 rfl
 exact I.step (ch:=ch) hch (fun b o hL hb hc e n=>u.keep b o e n (fun z=>(t_.mp (I.qJ b z)).elim hL hb) hc) (fun b o _ _ hc e n=>u.any e n hc) (fun b o hc e n=>u.free b o e n hc) (fun b o hc e=>u.there b o e hc) u.tups u.frzs u.tbls (fun m' hm=>by
  obtain⟨o',es',ep',ho',r'⟩:=hm
  rw[ho]at ho';cases ho'
  exact⟨_,es',ep',hL,r'⟩) hok hg
theorem Inv.turned {t':Nat}{it:Kl}(I:Inv X pins σ H s)(k:∀ b o,b≠it->s.heap.get? b=some o->h'.get? b=some o)(hn:H it=none)(hL:it≠X.env.locals)
  (h1:it∈X.ex\/X.s₀.heap.objs.size<=it) (h2:∀ x c,X.env.cells.lookup x=some c->c≠it) (h3:∀ p∈X.pn++pins,p.1≠it):Inv X pins σ H { s with heap:=h',toks:=t' }:=by
 have nit:∀ b u,H b=some u->b≠it:=fun b u e z=>by rw[z,hn]at e;cases e
 refine I.step (g':=s.gens) (d':=s.drawn) (ch:=[it]) (fun b hb=>?_) (fun b o _ _ hc e _=>k b o (fun z=>hc (by simp[z])) e) (fun b o _ _ hc e _=>⟨o.slots,k b o (fun z=>hc (by simp[z])) e⟩) (fun _ _ _ _ n=>n)
  (fun b o hc e=>⟨o,k b o (fun z=>hc (by simp[z])) e⟩) (fun _ _ e=>e) (fun _ _ _ e=>e) (fun b ps e=>⟨#[],by rw[e];simp⟩) (fun m hm=>?_) (fun b u e=>?_) I.bare
 ·have e:b=it:=by simpa using hb
  subst e
  exact⟨h1,hL,h2,h3⟩
 ·obtain⟨o,es,ep,ho,r⟩:=hm
  exact⟨o,es,ep,k _ o (LJ hL) ho,r⟩
 refine(I.hok b u e).eB (fun c v hc q=>k c v ?_ q) (fun _ q=>q) fun _ _ q=>q
 rcases hc with z | z
 ·rw[z];exact nit b u e
 exact nit c _ z
theorem Inv.tok (I:Inv X pins σ H s)(t:Nat):Inv X pins σ H { s with toks:=t }:=I.un (h':=s.heap) (t':=t) Un.refl I.hok
theorem Inv.kept {t':Nat}(I:Inv X pins σ H s)(k:∀ b u,s.heap.get? b=some u->h'.get? b=some u):Inv X pins σ H { s with heap:=h',toks:=t' }:=I.un (Un.kept k) (I.hok.kept k)
theorem Inv.laid {a:Kl}{o:HO}{t':Nat}(I:Inv X pins σ H s)(k:∀ b u,s.heap.get? b=some u->h'.get? b=some u)(hp:s.heap.objs.size<=a)(new:aW X.prog X.w (upd H a o) h' a o) :
  Inv X pins σ (upd H a o) { s with heap:=h',toks:=t' }:=I.un (Un.laid k hp (I.hok.fresh hp)) (I.hok.laid k hp new)
theorem Inv.write {x e:Kl}{o:HO}{t':Nat}(I:Inv X pins σ H s)(mu:Mut (H x))(he:e=x\/H e=some (.own x))(k:∀ b u,b≠e->s.heap.get? b=some u->h'.get? b=some u)(heo:∃ u,h'.get? e=some u)
  (new:aW X.prog X.w (upd H x o) h' x o):Inv X pins σ (upd H x o) { s with heap:=h',toks:=t' }:=I.un (Un.write mu he k heo) (I.hok.write mu he k heo new)
theorem Inv.t9 {pins':List (Kl × Obj)}(I:Inv X pins σ H s)(h:∀ p∈pins',s.heap.get? p.1=some p.2/\H p.1=none/\p.1≠X.env.locals/\p.1 ∉ X.fs/\∀ v,p.2.data≠.cell v):Inv X pins' σ H s:=
 ⟨I.ok,I.os,I.bare,I.base,I.loc,I.cell,I.free,I.freeC,fun p hp=>(FF.mp hp).elim (fun z=>I.pin p (FN _ z)) (h p),I.hok,I.len⟩
theorem pY{N:List Str}(hN:N.Nodup){i j:Nat}{x:Str}(a:N[i]?=some x)(b:N[j]?=some x):i=j:=by
 obtain⟨h1,e1⟩:=c_.mp a
 obtain⟨h2,e2⟩:=c_.mp b
 exact(List.getElem_inj hN).mp (e1.trans e2.symm)
theorem lX{M:Mv}{A:KN}{E:Kj->Km->Prop}{i:Nat}{x:Str}{v:V}{u:Kj}{Q:Unit->Km->Prop}(I:Inv X pins σ H s)(hN:X.N.Nodup)(hi:X.N[i]?=some x)(hx:Loc X.env.scope x)(r:RelV v u)
  (h:∀ s',Inv X pins (σ.set i (some v)) H s'->(∃ a,Lj a s.heap s'.heap/\(a=X.env.locals\/X.env.cells.lookup x=some a))->Q () s') (hf:X.fn x=true\/X.env.scope.names.lookup x=some .local:=by first | exact .inl rfl | exact .inr rfl | assumption):Kr M A (Qs X.env x u) Q E s:=by
 obtain⟨m,hn,hl⟩:=id I.loc
 have hcls:(X.env.scope.kind == .class || (X.env.scope.kind == .module && X.env.locals != X.env.globals))=false:=by rw[I.ok.kind];rfl
 have hiσ:i < σ.length:=by rw[I.len];exact(c_.mp hi).1
 have cne:=I.cne
 have tracked:∀ {a:Kl} {h':KH},(∃ o,s.heap.get? a=some o/\H a=none)->Lj a s.heap h'->HOk X.prog X.w H h':=fun{a h'} ha hs b ob e=>by
  obtain⟨_,_,hfree⟩:=ha
  refine(I.hok b ob e).eB (fun c w' hc q=>(hs.2 c ?_).trans q) (fun _ q=>q) fun _ _ q=>q
  rintro rfl
  rcases hc with rfl | hc
  ·rw[hfree]at e;cases e
  rw[hfree]at hc;cases hc
 rcases hx with hk | hk
 ·refine wpAny_storeName_local hk hn (fun h' hn' hs=>?_) hcls
  obtain⟨oL,_,_,hoL,_⟩:=id hn
  refine h _ ⟨I.ok,I.os,I.bare,⟨fun b o e n hb hx=>?_,fun b o e n hb hx=>?_,I.base.free,fun b o e hx=>?_,I.base.tups,I.base.frzs,I.base.tbls⟩,⟨_,hn',fun j y v' e1 e2 e3=>?_⟩,fun y c e=>?_,I.free,I.freeC,fun p hp=>?_,tracked ⟨oL,hoL,I.free⟩ hs,by simpa using I.len⟩ ⟨_,hs,.inl rfl⟩
  ·exact(hs.2 b (w_ (u_ (Ky e) I.ok.above))).trans (I.base.keep b o e n hb hx)
  ·obtain⟨sl,e1⟩:=I.base.slot b o e n hb hx
   exact⟨sl,(hs.2 b (w_ (u_ (Ky e) I.ok.above))).trans e1⟩
  ·obtain⟨o',e1⟩:=I.base.there b o e hx
   exact⟨o',(hs.2 b (w_ (u_ (Ky e) I.ok.above))).trans e1⟩
  ·by_cases hj:j=i
   ·subst hj
    rw[hi]at e1;cases e1
    rw[G9 hiσ]at e2
    cases e2
    exact⟨u,r,.inl ⟨hk,by simp⟩⟩
   rw[Hh (LJ hj)]at e2
   obtain⟨u',r',q⟩:=hl j y v' e1 e2 e3
   refine⟨u',r',?_⟩
   rcases q with⟨k,e⟩ | ⟨k,c,e,z⟩
   ·refine .inl ⟨k,?_⟩
    have:y≠x:=fun e=>hj (pY hN e1 (e ▸ hi))
    simp[this,e]
   exact .inr ⟨k,c,e,z.sameBut hs (cne y c e)⟩
  ·obtain⟨w',z⟩:=I.cell y c e
   exact⟨w',z.sameBut hs (cne y c e)⟩
  obtain⟨e,n,ne,nf,d⟩:=I.pin p hp
  exact⟨(hs.2 p.1 ne).trans e,n,ne,nf,d⟩
 have hfn:X.fn x=true:=by
  rcases hf with z | z
  ·exact z
  rw[z]at hk;cases hk
 obtain⟨c,hc⟩:=I.ok.has x (.inl hk)
 obtain⟨w',z⟩:=I.cell x c hc
 refine wpAny_storeName_cell I.ok.kind hk hc z (fun h' hc' hs=>?_)
 obtain⟨oc,hoc,hocd⟩:=id z
 refine h { s with heap:=h' } ⟨I.ok,I.os,I.bare,⟨fun b o e n hb hx=>?_,fun b o e n hb hx=>?_,I.base.free,fun b o e hx=>?_,I.base.tups,I.base.frzs,I.base.tbls⟩,⟨m,hn.sameBut hs (LJ (cne x c hc)),fun j y v' e1 e2 e3=>?_⟩,fun y c' e=>?_,I.free,I.freeC,fun p hp=>?_,tracked ⟨oc,hoc,I.freeC x c hc⟩ hs,by simpa using I.len⟩ ⟨c,hs,.inr hc⟩
 ·exact(hs.2 b (w_ (u_ (Ky e) (I.ok.cab x c hfn hc)))).trans (I.base.keep b o e n hb hx)
 ·obtain⟨sl,e1⟩:=I.base.slot b o e n hb hx
  exact⟨sl,(hs.2 b (w_ (u_ (Ky e) (I.ok.cab x c hfn hc)))).trans e1⟩
 ·obtain⟨o',e1⟩:=I.base.there b o e hx
  exact⟨o',(hs.2 b (w_ (u_ (Ky e) (I.ok.cab x c hfn hc)))).trans e1⟩
 ·by_cases hj:j=i
  ·subst hj
   rw[hi]at e1;cases e1
   rw[G9 hiσ]at e2
   cases e2
   exact⟨u,r,.inr ⟨.inl hk,c,hc,hc'⟩⟩
  rw[Hh (LJ hj)]at e2
  obtain⟨u',r',q⟩:=hl j y v' e1 e2 e3
  refine⟨u',r',?_⟩
  rcases q with q | ⟨k,c',e,z'⟩
  ·exact .inl q
  refine .inr ⟨k,c',e,z'.sameBut hs ?_⟩
  rintro rfl
  exact hj (pY hN e1 (I.ok.inj _ _ _ e hc ▸ hi))
 ·by_cases hcc:c'=c
  ·subst hcc;exact⟨_,hc'⟩
  obtain⟨w2,z2⟩:=I.cell y c' e
  exact⟨w2,z2.sameBut hs hcc⟩
 obtain⟨e,n,ne,nf,d⟩:=I.pin p hp
 refine⟨(hs.2 p.1 ?_).trans e,n,ne,nf,d⟩
 intro q
 rw[q,hoc]at e
 have q':oc=p.2:=D' e
 exact d w' (by rw[<-q'];exact hocd)
theorem kQ{M:Mv}{A:KN}{E:Kj->Km->Prop}{i:Nat}{x:Str}{v:V}{u:Kj}{Q:Unit->Km->Prop}(I:Inv X pins σ H s)(hN:X.N.Nodup)(hi:X.N[i]?=some x)(hx:Loc X.env.scope x)(r:RelV v u)
  (h:∀ s',Inv X pins (σ.set i (some v)) H s'->Q () s') (hf:X.fn x=true\/X.env.scope.names.lookup x=some .local:=by first | exact .inl rfl | exact .inr rfl | assumption):Kr M A (Qs X.env x u) Q E s:=
 lX I hN hi hx r (fun s' I' _=>h s' I') hf
theorem Inv.B7 {s':Km}{ch:List Kl}(I:Inv X pins σ H s)(ho:s'.os=s.os)(u:Un (frs X.stack) ch H H' s.heap s'.heap)(hok:HOk X.prog X.w H' s'.heap)(hg:M8 s'.gens)
  (hch:∀ b∈ch,(b∈X.ex\/X.s₀.heap.objs.size<=b)/\b≠X.env.locals/\(∀ x c,X.env.cells.lookup x=some c->c≠b)/\∀ p∈X.pn++pins,p.1≠b):Inv X pins σ H' s':=by
 obtain⟨h',g',d',t',o'⟩:=s'
 have e:o'=s.os:=ho
 subst e
 exact I.call (g':=g') (t':=t') (d':=d') u hok hg hch
end
abbrev XK:=Kj->Option Kl->Hp->Prop
abbrev St:=List (Option V)
abbrev VK:=V->Hp->Prop
abbrev TE:=St->Hp->VK->Prop
abbrev TT:=St->Hp->(Bool->Hp->Prop)->Prop
abbrev TA:=St->Hp->(List V->Hp->Prop)->Prop
structure Ends where
 nx:St->Hp->Prop
 rt:VK
 bk:St->Hp->Prop:=fun _ _=>False
 ct:St->Hp->Prop:=fun _ _=>False
abbrev TS:=Ends->St->Hp->Prop
def EP(X:Cx)(pins:List (Kl × Obj))(σ:St)(Q:VK)(u:Kj)(s':Km):Prop:=∃ v H',Inv X pins σ H' s'/\RelV v u/\Q v H'
def TP(X:Cx)(pins:List (Kl × Obj))(σ:St)(Q:Bool->Hp->Prop)(b:Bool)(s':Km):Prop:=∃ H',Inv X pins σ H' s'/\Q b H'
noncomputable def AP(X:Cx)(pins:List (Kl × Obj))(σ:St)(Q:List V->Hp->Prop)(us:List Kj)(s':Km):Prop:=∃ vs H',Inv X pins σ H' s'/\Vals vs us/\Q vs H'
noncomputable def SP(X:Cx)(pins:List (Kl × Obj))(D:Ends)(f:Flow)(s':Km):Prop:=
 match f with
 | .next=>∃ σ' H',Inv X pins σ' H' s'/\D.nx σ' H'
 | .brk=>∃ σ' H',Inv X pins σ' H' s'/\D.bk σ' H'
 | .cont=>∃ σ' H',Inv X pins σ' H' s'/\D.ct σ' H'
 | .ret u=>∃ v σ' H',Inv X pins σ' H' s'/\RelV v u/\D.rt v H'
noncomputable def PE(X:Cx)(e:KC)(t:TE):Prop:=
 ∀(pins:List (Kl × Obj)) (s:Km) (σ:St) (H:Hp) (Q:VK),Inv X pins σ H s->t σ H Q->Kr (Kw X.prog X.w) X.A (KR e X.env) (EP X pins σ Q) X.xe s
noncomputable def PT(X:Cx)(e:KC)(t:TT):Prop:=
 ∀(pins:List (Kl × Obj)) (s:Km) (σ:St) (H:Hp) (Q:Bool->Hp->Prop),Inv X pins σ H s->t σ H Q->Kr (Kw X.prog X.w) X.A (N9 e X.env (KR e X.env)) (TP X pins σ Q) X.xe s
noncomputable def PW(X:Cx)(e:KC)(t:TT):Prop:=
 ∀(whole:Sem Kj) (pins:List (Kl × Obj)) (s:Km) (σ:St) (H:Hp) (Q:Bool->Hp->Prop),Inv X pins σ H s->t σ H Q->Kr (Kw X.prog X.w) X.A (N9 e X.env whole) (TP X pins σ Q) X.xe s
theorem PW.pt {X:Cx}{e:KC}{t:TT}(h:PW X e t):PT X e t:=h _
noncomputable def PA(X:Cx)(es:List KC)(t:TA):Prop:=
 ∀(pos:Pos) (pins:List (Kl × Obj)) (s:Km) (σ:St) (H:Hp) (Q:List V->Hp->Prop),Inv X pins σ H s->t σ H Q->Kr (Kw X.prog X.w) X.A (spliced (Mc pos (KG es X.env))) (AP X pins σ Q) X.xe s
noncomputable def PS(X:Cx)(st:K8)(t:TS):Prop:=
 ∀(pins:List (Kl × Obj)) (s:Km) (σ:St) (H:Hp) (D:Ends),Inv X pins σ H s->t D σ H->Kr (Kw X.prog X.w) X.A (exec st X.env) (SP X pins D) X.xe s
noncomputable def PSs(X:Cx)(st:List K8)(t:TS):Prop:=
 ∀(pins:List (Kl × Obj)) (s:Km) (σ:St) (H:Hp) (D:Ends),Inv X pins σ H s->t D σ H->Kr (Kw X.prog X.w) X.A (execs st X.env) (SP X pins D) X.xe s
theorem thn{α:Type}{t:Sem α}{Q Q':α->Km->Prop}{M:Mv}{A:KN}{E:Kj->Km->Prop}{s:Km}(h:Kr M A t Q E s)(hQ:∀ a s,Q a s->Q' a s):Kr M A t Q' E s:=KW h hQ fun _ _ x=>x
section
variable{X:Cx}
def zu(i:Nat):TE:=fun σ H Q=>∃ v,σ[i]?=some (some v)/\Q v H
def tC(v:V):TE:=fun _ H Q=>Q v H
theorem d8{i:Nat}{x:Str}{pos:Pos}(hN:X.N[i]?=some x)(hv:Vis X.env.scope x)(hd:(x ==("__debug__":Str))=false:=by decide)(hcd:(x ==("__classdict__":Str))=false:=by decide):PE X (.Name x pos) (zu i):=by
 intro pins s σ H Q I h
 obtain⟨v,e,h⟩:=h
 obtain⟨m,hn,hl⟩:=I.loc
 obtain⟨u,r,l⟩:=hl i x v hN e hv
 have fin:EP X pins σ Q u s:=⟨v,H,I,r,h⟩
 rcases l with⟨hk,hm⟩ | ⟨hk,c,hc,hcell⟩
 ·exact PH (Ol I.ok.kind hk hn hm fin) hd
 rcases hk with hk | hk
 ·exact PH (OF I.ok.kind hk hc hcell fin) hd
 exact PH (wpAny_loadName_free I.ok.kind hk hc hcell fin hcd) hd
theorem aZ{i j pos}:PE X (.Constant (.int i) j pos) (tC (.int i)):=fun _ _ _ H _ I h=>OL ⟨.int i,H,I.tok _,⟨_,rfl⟩,h⟩
theorem w6{b j pos}:PE X (.Constant (.bool b) j pos) (tC (.bl b)):=fun _ _ _ H _ I h=>Constant_bool ⟨.bl b,H,I,rfl,h⟩
theorem CW{j pos}:PE X (.Constant .none j pos) (tC .non):=fun _ _ _ H _ I h=>Qz ⟨.non,H,I,rfl,h⟩
theorem fh{x j pos}:PE X (.Constant (.str x) j pos) (tC (.str x)):=fun _ _ _ H _ I h=>Calls.Constant_str ⟨.str x,H,I.tok _,⟨_,rfl⟩,h⟩
def Gl(X:Cx)(x:Str):Prop:=X.env.kindOf x=some .globalImplicit
theorem zg{E:Kj->Km->Prop}{pins:List (Kl × Obj)}{s:Km}{σ:St}{H:Hp}{x:Str}{u:Kj}{pos:Pos}{Q:Kj->Km->Prop}(I:Inv X pins σ H s)(hg:Gl X x)(hm:X.mg x=some u)(h:Q u s)
  (hd:(x ==("__debug__":Str))=false:=by decide):Kr (Kw X.prog X.w) X.A (KR (.Name x pos) X.env) Q E s:=
 Nr I.ok.kind hg (Calls.loadGlobal_global (by rw[I.ok.glob];exact I.mod.glob.keeps I.bk) hm h) hd
theorem bQ{E:Kj->Km->Prop}{pins:List (Kl × Obj)}{s:Km}{σ:St}{H:Hp}{x:Str}{u:Kj}{pos:Pos}{Q:Kj->Km->Prop}(I:Inv X pins σ H s)(hg:Gl X x)(hm:X.mg x=none)(hv:Mb x=some u)(h:Q u s)
  (hn:x≠"__name__":=by decide) (hd:(x ==("__debug__":Str))=false:=by decide):Kr (Kw X.prog X.w) X.A (KR (.Name x pos) X.env) Q E s:=by
 obtain⟨mb,h1,h2⟩:=I.mod.blt
 exact Nr I.ok.kind hg (Calls.loadGlobal_builtin (by rw[I.ok.glob];exact I.mod.glob.keeps I.bk) hm (by rw[I.ok.blt];exact h1.keeps I.bk) ((h2 x hn).trans hv) h) hd
theorem bE{x:Str}{v:V}{u:Kj}{pos:Pos}(hg:Gl X x)(hm:X.mg x=none)(hv:Mb x=some u)(r:RelV v u)(hn:x≠"__name__":=by decide)(hd:(x ==("__debug__":Str))=false:=by decide):PE X (.Name x pos) (tC v):=
 fun _ _ _ H _ I h=>bQ I hg hm hv ⟨v,H,I,r,h⟩ hn hd
variable{a b:KC}{ta tb:TE}{pos:Pos}
noncomputable def PC(X:Cx)(op:NV)(a b:KC)(t:TE):Prop:=
 ∀(pins:List (Kl × Obj)) (s:Km) (σ:St) (H:Hp) (Q:VK),Inv X pins σ H s->t σ H Q->
  Kr (Kw X.prog X.w) X.A (KR a X.env) (fun v s₁=>Kr (Kw X.prog X.w) X.A (KR b X.env) (fun u s₂=>Kr (Kw X.prog X.w) X.A (K4 op v u) (EP X pins σ Q) X.xe s₂) X.xe s₁) X.xe s
theorem oN(b:KC){op:NV}(h:op≠.In)(h2:op≠.NotIn):LO op b=false:=by
 have e1:(op == Ss)=false:=by cases op <;> first | rfl | exact absurd rfl h
 have e2:(op == RJ)=false:=by cases op <;> first | rfl | exact absurd rfl h2
 cases b <;> simp[LO,e1,e2]
def FE(ta:TE):TE:=fun σ H Q=>ta σ H fun x H1=>Q (.bl (decide (x=.non))) H1
theorem RelV.xF {x:V}{v:Kj}(r:RelV x v):(v == K')=decide (x=.non):=by
 cases x with
 | non=>cases r;rfl
 | bl _=>cases r;rfl
 | int _=>obtain⟨t,rfl⟩:=r;rfl
 | str _=>obtain⟨t,rfl⟩:=r;rfl
 | byt _=>obtain⟨t,rfl⟩:=r;rfl
 | flt _=>obtain⟨t,rfl⟩:=r;rfl
 | ref _=>cases r;rfl
 | ty _=>cases r;rfl
theorem xq{j pos'}(ha:PE X a ta):PC X .Is a (.Constant .none j pos') (FE ta):=by
 intro pins s σ H Q I h
 refine thn (ha pins s σ H _ I h) ?_
 rintro v s1 ⟨x,H1,I1,r1,q1⟩
 exact Qz (is_none_gen ⟨.bl _,H1,I1,by rw[r1.xF];rfl,q1⟩)
def tB(t:TE):TT:=fun σ H Q=>t σ H fun x H1=>∃ c,x=.bl c/\Q c H1
theorem CJ{op:NV}{t:TE}(h:PC X op a b t)(h1:LO op b=false:=by first | exact oN _ (by decide) (by decide) | rfl):PE X (.Compare a [op] [b] pos) t:=fun pins s σ H Q I hw=>Qe (h pins s σ H Q I hw) h1
theorem De{op:NV}{t:TE}(h:PC X op a b t)(h1:LO op b=false:=by first | exact oN _ (by decide) (by decide) | rfl):PT X (.Compare a [op] [b] pos) (tB t):=by
 intro pins s σ H Q I hw
 refine N_ (thn (h pins s σ H _ I hw) fun v s1 h1=>thn h1 fun u s2 h2=>thn h2 fun c s3 ⟨x,H1,I1,r1,q1⟩=>?_) h1
 obtain⟨d,rfl,q⟩:=q1
 cases r1
 exact LF ⟨H1,I1,q⟩
theorem nR{e:KC}{t:TE}(h:PE X e t)(he:∀ whole,N9 e X.env whole=(do let v <-whole;O0 e.pos;MA [v] (Q3 v)):=by intro _;rfl):PT X e (tB t):=by
 intro pins s σ H Q I hw
 refine Q4 (thn (h pins s σ H _ I hw) fun v s1 ⟨x,H1,I1,r1,q1⟩=>?_) (he _)
 obtain⟨d,rfl,q⟩:=q1
 cases r1
 exact LF ⟨H1,I1,q⟩
variable{tA tB':TT}{rest:List KC}
def Fw(t u:TT):TT:=fun σ H Q=>t σ H fun c H1=>if c=true then u σ H1 Q else Q false H1
def tOr(t u:TT):TT:=fun σ H Q=>t σ H fun c H1=>if c=true then Q true H1 else u σ H1 Q
def FA(t:TT):TT:=fun σ H Q=>t σ H fun c H1=>Q (!c) H1
theorem yb(ha:PT X a tA):PW X (.BoolOp .And [a] pos) tA:=by
 intro wh pins s σ H Q I h
 refine isTrue_and (thn (ha pins s σ H Q I h) fun c s1 e=>?_)
 cases c with
 | true=>exact isTrue_and_nil e
 | false=>exact e
theorem vU(ha:PT X a tA):PW X (.BoolOp .Or [a] pos) tA:=by
 intro wh pins s σ H Q I h
 refine isTrue_or (thn (ha pins s σ H Q I h) fun c s1 e=>?_)
 cases c with
 | false=>exact isTrue_or_nil e
 | true=>exact e
theorem Cj(ha:PT X a tA)(hb:PW X (.BoolOp .And (b::rest) pos) tB'):PW X (.BoolOp .And (a::b::rest) pos) (Fw tA tB'):=by
 intro wh pins s σ H Q I h
 refine isTrue_and (thn (ha pins s σ H _ I h) ?_)
 rintro c s1 ⟨H1,I1,q1⟩
 cases c with
 | true=>exact hb wh pins s1 σ H1 Q I1 q1
 | false=>exact⟨H1,I1,q1⟩
theorem AD(ha:PT X a tA)(hb:PW X (.BoolOp .Or (b::rest) pos) tB'):PW X (.BoolOp .Or (a::b::rest) pos) (tOr tA tB'):=by
 intro wh pins s σ H Q I h
 refine isTrue_or (thn (ha pins s σ H _ I h) ?_)
 rintro c s1 ⟨H1,I1,q1⟩
 cases c with
 | true=>exact⟨H1,I1,q1⟩
 | false=>exact hb wh pins s1 σ H1 Q I1 q1
theorem BI(ha:PT X a tA):PT X (.UnaryOp .Not a pos) (FA tA):=by
 intro pins s σ H Q I h
 exact isTrue_not (ha pins s σ H (fun c H1=>Q (!c) H1) I h)
def EE(ta tb:TE):TE:=fun σ H Q=>ta σ H fun x H1=>∃ c,x=.bl c/\if c=true then tb σ H1 Q else Q (.bl false) H1
def Ea(ta:TE):TE:=fun σ H Q=>ta σ H fun x H1=>∃ c,x=.bl c/\Q (.bl (!c)) H1
theorem qH{op}{t:TE}(h:PE X a t):PE X (.BoolOp op [a] pos) t:=fun pins s σ H Q I hw=>BoolOp_one (h pins s σ H Q I hw)
theorem mS(ha:PE X a ta)(hb:PE X (.BoolOp .And (b::rest) pos) tb):PE X (.BoolOp .And (a::b::rest) pos) (EE ta tb):=by
 intro pins s σ H Q I h
 refine BoolOp_and (thn (ha pins s σ H _ I h) ?_)
 rintro v s1 ⟨x,H1,I1,r1,q1⟩
 obtain⟨c,rfl,q1⟩:=q1
 cases r1
 refine LF ?_
 cases c with
 | true=>exact hb pins s1 σ H1 Q I1 q1
 | false=>exact⟨.bl false,H1,I1,rfl,q1⟩
theorem Df(ha:PE X a ta):PE X (.UnaryOp .Not a pos) (Ea ta):=by
 intro pins s σ H Q I h
 refine UnaryOp_ (thn (ha pins s σ H _ I h) ?_)
 rintro v s1 ⟨x,H1,I1,r1,q1⟩
 obtain⟨c,rfl,q1⟩:=q1
 cases r1
 exact not_of (LF ⟨.bl (!c),H1,I1,rfl,q1⟩)
def tIf(t:TT)(ta tb:TE):TE:=fun σ H Q=>t σ H fun c H1=>if c=true then ta σ H1 Q else tb σ H1 Q
theorem w9{c:KC}(hc:PT X c tA)(ha:PE X a ta)(hb:PE X b tb):PE X (.IfExp c a b pos) (tIf tA ta tb):=by
 intro pins s σ H Q I h
 refine wpAny_IfExp (thn (hc pins s σ H _ I h) ?_)
 rintro d s1 ⟨H1,I1,q1⟩
 cases d with
 | true=>exact ha pins s1 σ H1 Q I1 q1
 | false=>exact hb pins s1 σ H1 Q I1 q1
end
noncomputable def SqL(K:Kk)(H:Hp)(a:Kl)(xs:List V):Prop:=
 Rd H a (.lst xs)\/
  ∃(o:Obj) (its:Array Kj) (n:Nat),K.lookup a=some o/\o.cls=.type "list"/\o.dict=none/\o.data=.seq its n/\its.size<=sizeLine/\Vals xs its.toList
noncomputable def SqT(K:Kk)(H:Hp)(a:Kl)(xs:List V):Prop:=
 Rd H a (.tup xs)\/
  ∃(o:Obj) (its:Array Kj) (n:Nat),K.lookup a=some o/\o.cls=.type "tuple"/\o.data=.seq its n/\its.size<=sizeLine/\Vals xs its.toList
noncomputable def Fp:Kj->Option V
 | .none=>some .non
 | .bool b=>some (.bl b)
 | .int i _=>some (.int i)
 | .str x _=>some (.str x)
 | .bytes b _=>some (.byt b)
 | .float b _=>some (.flt b)
 | .ref a=>some (.ref a)
 | .type n=>some (.ty n)
 | _=>none
theorem RelV.abs {x:V}{u:Kj}(r:RelV x u):Fp u=some x:=by
 cases x with
 | non=>cases r;rfl
 | bl _=>cases r;rfl
 | int _=>obtain⟨t,rfl⟩:=r;rfl
 | str _=>obtain⟨t,rfl⟩:=r;rfl
 | byt _=>obtain⟨t,rfl⟩:=r;rfl
 | flt _=>obtain⟨t,rfl⟩:=r;rfl
 | ref _=>cases r;rfl
 | ty _=>cases r;rfl
theorem RelV.inj {x y:V}{u:Kj}(r:RelV x u)(q:RelV y u):x=y:=D' (r.abs.symm.trans q.abs)
theorem Vals.inj:∀ {xs ys:List V} {us:List Kj},Vals xs us->Vals ys us->xs=ys
 | _,_,_,.nil,.nil=>rfl
 | _,_,_,.cons r t,.cons r' t'=>by rw[r.inj r',Vals.inj t t']
section
variable{X:Cx}{pins:List (Kl × Obj)}{σ:St}{H:Hp}{s:Km}{a:Kl}{xs ys:List V}
theorem SqL.of {K:Kk}(h:H a=some (.lst xs)):SqL K H a xs:=.inl (.inl h)
theorem SqT.of {K:Kk}(h:H a=some (.tup xs)):SqT K H a xs:=.inl (.inl h)
theorem Inv.list (I:Inv X pins σ H s)(h:SqL X.K H a xs):∃ its:List Kj,Vals xs its/\PlainL s.heap a its.toArray/\xs.length<=sizeLine:=by
 rcases h with h | ⟨o,its,n,hk,hc,hd,hs,hz,r⟩
 ·obtain⟨z,its,n,r,e⟩:=h.ok I.hok
  exact⟨its,r,⟨_,n,e,rfl,rfl,rfl⟩,z⟩
 refine⟨its.toList,r,⟨o,n,I.kIn a o hk,hc,hd,by simpa using hs⟩,?_⟩
 have e:=r.length
 simp only[f_]at e
 lia
theorem Inv.tuple (I:Inv X pins σ H s)(h:SqT X.K H a xs):∃ its:List Kj,Vals xs its/\RV s.heap a its.toArray/\xs.length<=sizeLine:=by
 rcases h with h | ⟨o,its,n,hk,hc,hs,hz,r⟩
 ·obtain⟨z,its,r,p⟩:=h.ok I.hok
  exact⟨its,r,p,z⟩
 refine⟨its.toList,r,⟨o,I.kIn a o hk,hc,n,by simpa using hs⟩,?_⟩
 have e:=r.length
 simp only[f_]at e
 lia
theorem Inv.kq (I:Inv X pins σ H s)(h:SqL X.K H a xs)(h':SqL X.K H a ys):xs=ys:=by
 obtain⟨its,r,⟨o,n,e,_,_,d⟩,_⟩:=I.list h
 obtain⟨its',r',⟨o',n',e',_,_,d'⟩,_⟩:=I.list h'
 rw[e]at e';cases e'
 rw[d]at d'
 injection d' with d1 _
 have:its=its':=by simpa using congrArg J4 d1
 subst this
 exact r.inj r'
theorem Inv.iG (I:Inv X pins σ H s)(h:SqT X.K H a xs)(h':SqT X.K H a ys):xs=ys:=by
 obtain⟨its,r,⟨o,e,_,n,d⟩,_⟩:=I.tuple h
 obtain⟨its',r',⟨o',e',_,n',d'⟩,_⟩:=I.tuple h'
 rw[e]at e';cases e'
 rw[d]at d'
 injection d' with d1 _
 have:its=its':=by simpa using congrArg J4 d1
 subst this
 exact r.inj r'
end
abbrev Cx.l6 (X:Cx)(E:Kj->Km->Prop):Cx:={ X with xe:=E }
abbrev Cx.nox (X:Cx):Cx:=X.l6 fun _ _=>False
theorem Cx.Ok.l6 {X:Cx}(ok:X.Ok)(E:Kj->Km->Prop):(X.l6 E).Ok:=
 ⟨ok.mod,ok.kind,ok.glob,ok.blt,ok.above,ok.inj,ok.has,ok.cab,ok.hd,ok.frames,ok.stk,ok.exf,ok.bs,ok.bsz,ok.noex,ok.exfs,ok.kU,ok.frf⟩
theorem Cx.Ok.dS {X:Cx}{E:Kj->Km->Prop}(ok:(X.l6 E).Ok):X.Ok:=
 ⟨ok.mod,ok.kind,ok.glob,ok.blt,ok.above,ok.inj,ok.has,ok.cab,ok.hd,ok.frames,ok.stk,ok.exf,ok.bs,ok.bsz,ok.noex,ok.exfs,ok.kU,ok.frf⟩
section
variable{X:Cx}{pins:List (Kl × Obj)}{σ:St}{H:Hp}{s:Km}{E:Kj->Km->Prop}
theorem Inv.l6 (I:Inv X pins σ H s)(E:Kj->Km->Prop):Inv (X.l6 E) pins σ H s:=⟨I.ok.l6 E,I.os,I.bare,I.base,I.loc,I.cell,I.free,I.freeC,I.pin,I.hok,I.len⟩
theorem Inv.dS (I:Inv (X.l6 E) pins σ H s):Inv X pins σ H s:=⟨I.ok.dS,I.os,I.bare,I.base,I.loc,I.cell,I.free,I.freeC,I.pin,I.hok,I.len⟩
theorem SP.dS {D:Ends}{f:Flow}{s':Km}(h:SP (X.l6 E) pins D f s'):SP X pins D f s':=by
 cases f with
 | next=>obtain⟨σ',H',I,q⟩:=h;exact⟨σ',H',I.dS,q⟩
 | brk=>obtain⟨σ',H',I,q⟩:=h;exact⟨σ',H',I.dS,q⟩
 | cont=>obtain⟨σ',H',I,q⟩:=h;exact⟨σ',H',I.dS,q⟩
 | ret u=>obtain⟨v,σ',H',I,r,q⟩:=h;exact⟨v,σ',H',I.dS,r,q⟩
theorem PSs.nox {st:List K8}{t:TS}(h:PSs X.nox st t):PSs X st t:=fun pins s σ H D I hw=>
 KW (h pins s σ H D (I.l6 _) hw) (fun _ _ q=>q.dS) fun _ _ z=>KJ z
end
section
variable{X:Cx}{st:K8}{rest:List K8}{t u:TS}{e:KC}{te:TE}{pos:Pos}
def DE:TS:=fun D σ H=>D.nx σ H
def Fj(t u:TS):TS:=fun D σ H=>t { D with nx:=u D } σ H
theorem cc:PSs X [] DE:=fun _ _ σ H _ I h=>M9 ⟨σ,H,I,h⟩
theorem aK(h1:PS X st t)(h2:PSs X rest u):PSs X (st::rest) (Fj t u):=by
 intro pins s σ H D I h
 refine Pl (thn (h1 pins s σ H { D with nx:=u D } I h) fun f s1 q=>?_)
 cases f with
 | next=>
  obtain⟨σ',H',I',q⟩:=q
  exact h2 pins s1 σ' H' D I' q
 | ret v=>exact q
 | brk=>exact q
 | cont=>exact q
theorem bD(h1:PS X st t):PSs X [st] t:=by
 intro pins s σ H D I h
 refine Pl (thn (h1 pins s σ H D I h) fun f s1 q=>?_)
 cases f with
 | next=>exact M9 q
 | ret v=>exact q
 | brk=>exact q
 | cont=>exact q
theorem Inv.quiet {pins:List (Kl × Obj)}{σ:St}{H:Hp}{s:Km}(I:Inv X pins σ H s):RK X.env=false:=by simp[RK,I.ok.kind]
def EC(te:TE):TS:=fun D σ H=>te σ H fun _ H1=>D.nx σ H1
theorem yF(he:PE X e te)(hs:ME e none pos.line X.env=pure false:=by rfl):PS X (.Expr e pos) (EC te):=by
 intro pins s σ H D I h
 exact wpAny_Expr_any (thn (he pins s σ H _ I h) fun v s1 ⟨x,H1,I1,r1,q1⟩=>⟨σ,H1,I1,q1⟩) I.quiet hs
def Fv(te:TE):TS:=fun D σ H=>te σ H D.rt
theorem cB(he:PE X e te):PS X (.Return (some e) pos) (Fv te):=by
 intro pins s σ H D I h
 exact wpAny_Return_some (thn (he pins s σ H _ I h) fun v s1 ⟨x,H1,I1,r1,q1⟩=>⟨x,σ,H1,I1,r1,q1⟩)
def Ff(c:TT)(t u:TS):TS:=fun D σ H=>c σ H fun b H1=>if b=true then t D σ H1 else u D σ H1
theorem h8{c:KC}{a b:List K8}{tc:TT}(hc:PT X c tc)(ha:PSs X a t)(hb:PSs X b u):PS X (.If c a b pos) (Ff tc t u):=by
 intro pins s σ H D I h
 refine wpAny_If (thn (hc pins s σ H _ I h) ?_)
 rintro d s1 ⟨H1,I1,q1⟩
 cases d with
 | true=>exact ha pins s1 σ H1 D I1 q1
 | false=>exact hb pins s1 σ H1 D I1 q1
def Bz:TS:=fun _ _ _=>False
theorem uK{sts:List K8}:PSs X sts Bz:=fun _ _ _ _ _ _ h=>h.elim
end
abbrev TG:=V->St->Hp->(St->Hp->Prop)->Prop
abbrev TGs:=List V->St->Hp->(St->Hp->Prop)->Prop
noncomputable def PG(X:Cx)(target:KC)(t:TG):Prop:=
 ∀(pins:List (Kl × Obj)) (s:Km) (σ:St) (H:Hp) (v:V) (u:Kj) (Q:St->Hp->Prop),Inv X pins σ H s->RelV v u->t v σ H Q->
  Kr (Kw X.prog X.w) X.A (MZ target X.env u) (fun _ s'=>∃ σ' H',Inv X pins σ' H' s'/\Q σ' H') X.xe s
noncomputable def PGs(X:Cx)(ts:List KC)(t:TGs):Prop:=
 ∀(pins:List (Kl × Obj)) (s:Km) (σ:St) (H:Hp) (vs:List V) (us:List Kj) (Q:St->Hp->Prop),Inv X pins σ H s->Vals vs us->t vs σ H Q->
  Kr (Kw X.prog X.w) X.A (assignInOrder ((LV ts X.env).map (·.2)) us) (fun _ s'=>∃ σ' H',Inv X pins σ' H' s'/\Q σ' H') X.xe s
abbrev yU:=V->V->V->Hp->(Hp->Prop)->Prop
noncomputable def rJ(X:Cx)(t:yU):Prop:=
 ∀(pins:List (Kl × Obj)) (s:Km) (σ:St) (H:Hp) (o i v:V) (ov iv u:Kj) (Q:Hp->Prop),Inv X pins σ H s->RelV o ov->RelV i iv->RelV v u->t o i v H Q->
  Kr (Kw X.prog X.w) X.A (Qf ov iv u) (fun _ s'=>∃ H',Inv X pins σ H' s'/\Q H') X.xe s
abbrev TIp:=V->V->Hp->VK->Prop
noncomputable def PIp(X:Cx)(op:NK)(t:TIp):Prop:=
 ∀(pins:List (Kl × Obj)) (s:Km) (σ:St) (H:Hp) (x y:V) (v u:Kj) (Q:VK),Inv X pins σ H s->RelV x v->RelV y u->t x y H Q->
  Kr (Kw X.prog X.w) X.A (inplaceOp op v u) (EP X pins σ Q) X.xe s
section
variable{X:Cx}{pos:Pos}
def tF(i:Nat):TG:=fun v σ H Q=>Q (σ.set i (some v)) H
theorem jo{i:Nat}{x:Str}(hN:X.N.Nodup)(hi:X.N[i]?=some x)(hx:Loc X.env.scope x)(hf:X.fn x=true\/X.env.scope.names.lookup x=some .local:=by first | exact .inl rfl | exact .inr rfl | assumption):PG X (.Name x pos) (tF i):=by
 intro pins s σ H v u Q I r h
 exact O2 (kQ I hN hi hx r (fun s' I'=>⟨_,H,I',h⟩) hf)
def F9:TGs:=fun vs σ H Q=>vs=[]/\Q σ H
def DJ(t:TG)(u:TGs):TGs:=fun vs σ H Q=>∃ v r,vs=v::r/\t v σ H fun σ' H'=>u r σ' H' Q
theorem nG:PGs X [] F9:=by
 intro pins s σ H vs us Q I r h
 obtain⟨e,h⟩:=h
 subst e
 cases r
 exact assignInOrder_nil ⟨σ,H,I,h⟩
theorem e6{e:KC}{es:List KC}{t:TG}{u:TGs}(h1:PG X e t)(h2:PGs X es u)
  (hs:(LV (e::es) X.env).map (·.2)=MZ e X.env::(LV es X.env).map (·.2):=by rfl):PGs X (e::es) (DJ t u):=by
 intro pins s σ H vs us Q I r h
 obtain⟨v,vr,e1,h⟩:=h
 subst e1
 cases r with
 | cons r rr=>
  rw[hs]
  refine assignInOrder_cons (thn (h1 pins s σ H _ _ _ I r h) ?_)
  rintro _ s1 ⟨σ1,H1,I1,q1⟩
  exact h2 pins s1 σ1 H1 _ _ Q I1 rr q1
def FC(K:Kk)(n:Nat)(t:TGs):TG:=fun v σ H Q=>∃ a xs,v=.ref a/\SqT K H a xs/\xs.length=n/\t xs σ H Q
theorem rj{es:List KC}{k:Nat}{t:TGs}{n:Nat}(hc:X.calm=true)(h:PGs X es t)
  (hn:(LV es X.env).length=n:=by rfl) (hst:(LV es X.env).findIdx? (·.1)=none:=by rfl):PG X (.Tuple es k pos) (FC X.K n t):=by
 intro pins s σ H v u Q I r hw
 obtain⟨a,xs,e1,hq,hl,hw⟩:=hw
 subst e1
 cases r
 obtain⟨its,rv,ht,hz⟩:=I.tuple hq
 refine assign_Tuple_tuple (I.ok.hd hc) ht (by simp[hn,<-hl,rv.length]) hst fun h' hx=>?_
 have I1:Inv X pins σ H { s with heap:=h' }:=I.kept (t':=s.toks) fun b o e=>hx b o (w_ (Ky e)) e
 exact h pins _ σ H xs _ Q I1 (by simpa using rv) hw
def F7(to ti:TE)(t:yU):TG:=fun v σ H Q=>to σ H fun o H1=>ti σ H1 fun i H2=>t o i v H2 fun H3=>Q σ H3
theorem wm{o i:KC}{to ti:TE}{t:yU}(ho:PE X o to)(hi:PE X i ti)(hs:rJ X t)
  (ha:∀ v,MZ (.Subscript o i pos) X.env v=(do
   let ov <-MA [v] (KR o X.env)
   let iv <-MA [v,ov] (KR i X.env)
   O0 pos
   MA [v,ov,iv] (Qf ov iv v)
   release [v,ov,iv] []):=by intro _;rfl):PG X (.Subscript o i pos) (F7 to ti t):=by
 intro pins s σ H v u Q I r h
 rw[ha]
 refine Ki (KY (thn (ho pins s σ H _ I h) ?_))
 rintro ov s1 ⟨x,H1,I1,r1,q1⟩
 refine Ki (KY (thn (hi pins s1 σ H1 _ I1 q1) ?_))
 rintro iv s2 ⟨y,H2,I2,r2,q2⟩
 refine Ki (M4 (Ki (KY (thn (hs pins s2 σ H2 x y v ov iv u _ I2 r1 r2 r q2) ?_))))
 rintro _ s3 ⟨H3,I3,q3⟩
 exact wpAny_release ⟨σ,H3,I3,q3⟩
def yH(te:TE)(g:TG):TS:=fun D σ H=>te σ H fun x H1=>g x σ H1 D.nx
theorem xJ{tg e:KC}{te:TE}{g:TG}(he:PE X e te)(hg:PG X tg g)(hs:QA [tg] e pos.line X.env=pure false:=by rfl)(hw:QB [tg] e X.env=pure none:=by rfl)
  (h1:(LV [tg] X.env).map (·.2)=[MZ tg X.env]:=by rfl):PS X (.Assign [tg] e pos) (yH te g):=by
 intro pins s σ H D I h
 refine wpAny_Assign_stores (thn (he pins s σ H _ I h) fun v s1 ⟨x,H1,I1,r1,q1⟩=>?_) hs hw
 rw[h1]
 exact thn (hg pins s1 σ H1 x v _ I1 r1 q1) fun _ s2 q=>q
theorem dE{i:Nat}{x:Str}{e:KC}{te:TE}{pos':Pos}(hN:X.N.Nodup)(hi:X.N[i]?=some x)(hx:Loc X.env.scope x)(he:PE X e te)(hs:ME e (some (.Name x pos')) pos.line X.env=pure false:=by rfl)(hf:X.fn x=true\/X.env.scope.names.lookup x=some .local:=by first | exact .inl rfl | exact .inr rfl | assumption) :
  PS X (.Assign [.Name x pos'] e pos) (yH te (tF i)):=by
 intro pins s σ H D I h
 refine wpAny_Assign_Name (thn (he pins s σ H _ I h) fun v s1 ⟨y,H1,I1,r1,q1⟩=>?_) hs
 exact kQ I1 hN hi hx r1 (fun s2 I2=>⟨_,H1,I2,q1⟩) hf
noncomputable def Fh(i:Nat)(te:TE)(ti:TIp):TS:=fun D σ H=>∃ x,σ[i]?=some (some x)/\te σ H fun y H1=>ti x y H1 fun z H2=>D.nx (σ.set i (some z)) H2
theorem D4{i:Nat}{x:Str}{e:KC}{te:TE}{op:NK}{ti:TIp}{pos':Pos}(hN:X.N.Nodup)(hi:X.N[i]?=some x)(hx:Loc X.env.scope x)(he:PE X e te)(ho:PIp X op ti)(hf:X.fn x=true\/X.env.scope.names.lookup x=some .local:=by first | exact .inl rfl | exact .inr rfl | assumption) :
  PS X (.AugAssign (.Name x pos') op e pos) (Fh i te ti):=by
 intro pins s σ H D I h
 obtain⟨v,e1,h⟩:=h
 obtain⟨m,hn,hl⟩:=I.loc
 have vis:Vis X.env.scope x:=by rcases hx with k | k;exact .inl k;exact .inr (.inl k)
 obtain⟨u,r,l⟩:=hl i x v hi e1 vis
 refine wpAny_AugAssign_Name ?_
 have go:Kr (Kw X.prog X.w) X.A (KR e X.env) (fun w s₂=>Kr (Kw X.prog X.w) X.A (inplaceOp op u w) (fun r s₃=>Kr (Kw X.prog X.w) X.A (Qs X.env x r) (fun _=>SP X pins D .next) X.xe s₃) X.xe s₂) X.xe s:=by
  refine thn (he pins s σ H _ I h) ?_
  rintro w s1 ⟨y,H1,I1,r1,q1⟩
  refine thn (ho pins s1 σ H1 v y u w _ I1 r r1 q1) ?_
  rintro z s2 ⟨zv,H2,I2,r2,q2⟩
  exact kQ I2 hN hi hx r2 (fun s3 I3=>⟨_,H2,I3,q2⟩) hf
 rcases l with⟨hk,hm⟩ | ⟨hk,c,hc,hcell⟩
 ·exact Ol I.ok.kind hk hn hm go
 rcases hk with hk | hk
 ·exact OF I.ok.kind hk hc hcell go
 rcases hx with k | k
 ·have:X.env.scope.names.lookup x=some .free:=hk
  rw[k]at this;cases this
 have:X.env.scope.names.lookup x=some .free:=hk
 rw[k]at this;cases this
def ipI(f:Int->Int->Int):TIp:=fun x y H Q=>∃ i j,x=.int i/\y=.int j/\Q (.int (f i j)) H
end
section
variable{X:Cx}{pos:Pos}
noncomputable def C2(c:TT)(tb:TS):TS:=fun D σ H=>∃ W:Nat->St->Hp->Prop,(∃ m,W m σ H)/\∀ m σ H,W m σ H->
 c σ H fun b H1=>if b=true then ∃ N:St->Hp->Prop,(∀ σ' H',N σ' H'->∃ m',m' < m/\W m' σ' H')/\tb { D with nx:=N,ct:=N,bk:=D.nx } σ H1 else D.nx σ H1
theorem vV{c:KC}{body:List K8}{tc:TT}{tb:TS}(hp:OM (Kw X.prog X.w) X.A X.env X.xe)(hc:PT X c tc)(hb:PSs X body tb):PS X (.While c body [] pos) (C2 tc tb):=by
 intro pins s σ H D I h
 obtain⟨W,⟨m0,w0⟩,turn⟩:=h
 refine wpAny_While (codeAny_whileLoop (fun n s'=>∃ σ' H',Inv X pins σ' H' s'/\W n σ' H') ?_ m0 ⟨σ,H,I,w0⟩)
 rintro n s1 ⟨σ1,H1,I1,w1⟩
 refine L4 hp (thn (hc pins s1 σ1 H1 _ I1 (turn n σ1 H1 w1)) ?_)
 rintro b s2 ⟨H2,I2,q2⟩
 cases b with
 | true=>
  obtain⟨N,hN,q2⟩:=q2
  rw[if_pos rfl]
  refine L4 hp (thn (hb pins s2 σ1 H2 _ I2 q2) fun f s3 q3=>?_)
  cases f with
  | next=>
   obtain⟨σ3,H3,I3,n3⟩:=q3
   obtain⟨m',hm,w3⟩:=hN σ3 H3 n3
   exact⟨m',hm,σ3,H3,I3,w3⟩
  | cont=>
   obtain⟨σ3,H3,I3,n3⟩:=q3
   obtain⟨m',hm,w3⟩:=hN σ3 H3 n3
   exact⟨m',hm,σ3,H3,I3,w3⟩
  | brk=>exact q3
  | ret v=>exact q3
 | false=>
  rw[if_neg B_]
  exact M9 ⟨σ1,H2,I2,q2⟩
end
structure It where
 go:Nat->Hp->Prop
 yld:Nat->Hp->V->Hp->Prop
 stop:Nat->Hp->Prop
noncomputable def gx(X:Cx)(pins:List (Kl × Obj))(H:Hp)(b:Kl):Prop:=
 H b=none/\b≠X.env.locals/\b ∉ X.fs/\(b∈X.ex\/X.s₀.heap.objs.size<=b)/\(∀ x c,X.env.cells.lookup x=some c->c≠b)/\∀ p∈X.pn++pins,p.1≠b
theorem Inv.uq {X:Cx}{pins:List (Kl × Obj)}{σ:St}{H H':Hp}{s:Km}{b:Kl}(I:Inv X pins σ H s)(hb:s.heap.objs.size<=b)(hn:H' b=none):gx X pins H' b:=by
 refine⟨hn,G0 (u_ I.lt hb),I.Fi hb,.inr (n_ I.sz hb),fun x c e z=>?_,fun p hp z=>?_⟩
 ·obtain⟨v,q⟩:=I.cell x c e
  exact absurd (u_ q.lt (by rw[z];exact hb)) (GB _)
 exact absurd (u_ (Ky (I.pin p hp).1) (by rw[z];exact hb)) (GB _)
structure Turn (P:Kz) (w:KD) (K:Kk) (tg:KC) (J:It) (fp:List Kl) (it:Kl) (tn:Nat->KH->Prop):Prop where
 mem:it∈fp
 obj:∀ i h,tn i h->∀ b∈fp,∃ o,h.get? b=some o/\∀ v,o.data≠.cell v
 keep:∀ i h h',tn i h->(∀ b∈fp,∀ o,h.get? b=some o->h'.get? b=some o)->tn i h'
 item:∀(X:Cx),X.prog=P->X.w=w->X.K=K->X.calm=true->∀(i:Nat) (pins:List (Kl × Obj)) (s:Km) (σ:St) (H:Hp) (E:Kj->Km->Prop),Inv X pins σ H s->(∀ b∈fp,gx X pins H b)->tn i s.heap->J.go i H->
  Kr (Kw P w) X.A (L7 (.ref it)) (fun r s1=>∃ u,r=some u/\
   Kr (Kw P w) X.A (M_ tg (.ref it) u) (fun _ s2=>∃ x H',Inv X pins σ H' s2/\RelV x u/\J.yld i H x H'/\tn (i + 1) s2.heap/\∀ b∈fp,H' b=none) E s1) E s
 done:∀(X:Cx),X.prog=P->X.w=w->X.K=K->X.calm=true->∀(i:Nat) (pins:List (Kl × Obj)) (s:Km) (σ:St) (H:Hp) (E:Kj->Km->Prop),Inv X pins σ H s->(∀ b∈fp,gx X pins H b)->tn i s.heap->J.stop i H->
  Kr (Kw P w) X.A (L7 (.ref it)) (fun r s1=>r=none/\Inv X pins σ H s1) E s
 self:∀(A:KN) (i:Nat) (s:Km) (Q:Kj->Km->Prop) (E:Kj->Km->Prop),tn i s.heap->Q (.ref it) s->Kr (Kw P w) A (M' (.ref it)) Q E s
abbrev TI:=St->Hp->(It->Hp->Prop)->Prop
noncomputable def PIE(X:Cx)(pins:List (Kl × Obj))(σ:St)(tg:KC)(R:It->Hp->Prop)(itv:Kj)(s2:Km):Prop:=
 ∃(it:Kl) (fp:List Kl) (tn:Nat->KH->Prop) (J:It) (H':Hp),itv=.ref it/\Inv X pins σ H' s2/\Turn X.prog X.w X.K tg J fp it tn/\tn 0 s2.heap/\(∀ b∈fp,gx X pins H' b)/\R J H'
noncomputable def PI(X:Cx)(tg iter:KC)(wi:TI):Prop:=
 ∀(pins:List (Kl × Obj)) (s:Km) (σ:St) (H:Hp) (R:It->Hp->Prop),Inv X pins σ H s->wi σ H R->
  Kr (Kw X.prog X.w) X.A (KR iter X.env) (fun v s1=>Kr (Kw X.prog X.w) X.A (M' v) (PIE X pins σ tg R) X.xe s1) X.xe s
theorem tu{M:Mv}{A:KN}{E:Kj->Km->Prop}{s:Km}{tg:KC}{it:Kl}{u:Kj}{o:Obj}{n:String}{vs:Array Kj}{Q:Unit->Km->Prop}(ho:s.heap.get? it=some o)(hc:o.cls=.type n)(hd:o.data=.fields vs)
    (hn:["enumerate","zip","dict_itemiterator","dict_reverseitemiterator","odict_iterator","itertools.zip_longest","itertools.pairwise"].contains n=false) (hQ:Q () s):Kr M A (M_ tg (.ref it) u) Q E s:=by
  unfold M_
  cases tg <;> first
    | exact Ko hQ
    | (cases u <;> first
        | exact Ko hQ
        | (refine Ki (PJ ho ?_)
           rw[hc,hd]
           show Kr M A (if(["enumerate","zip","dict_itemiterator","dict_reverseitemiterator","odict_iterator","itertools.zip_longest","itertools.pairwise"].contains n && vs[0]? == some (Lr _))=true then _ else _) Q E s
           rw[if_neg (by intro h;rw[hn,Bool.false_and]at h;cases h)]
           exact Ko hQ))
noncomputable def Itl(K:Kk)(a:Kl):It:=
 ⟨fun i H=>∃ xs x,SqL K H a xs/\xs[i]?=some x,fun i H x H'=>H'=H/\∀ xs,SqL K H a xs->xs[i]?=some x,fun i H=>∃ xs,SqL K H a xs/\xs.length<=i⟩
noncomputable def Itt(K:Kk)(a:Kl):It:=
 ⟨fun i H=>∃ xs x,SqT K H a xs/\xs[i]?=some x,fun i H x H'=>H'=H/\∀ xs,SqT K H a xs->xs[i]?=some x,fun i H=>∃ xs,SqT K H a xs/\xs.length<=i⟩
def Itr(lo:Int)(n:Nat):It:=⟨fun i _=>i < n,fun i H x H'=>H'=H/\x=.int (lo + i),fun i _=>n<=i⟩
theorem ud{P:Kz}{w:KD}{K:Kk}{tg:KC}(a it:Kl):Turn P w K tg (Itl K a) [it] it (fun i h=>h.IsListIter it a i) where
 mem:=by simp
 obj:=fun i h st b hb=>by
  have e:b=it:=by simpa using hb
  subst e
  obtain⟨o,e,c,d⟩:=st
  exact⟨o,e,fun v z=>by rw[d]at z;cases z⟩
 keep:=fun i h h' st k=>st.at fun o e=>k it (by simp) o e
 item:=by
  intro X hP hw hK hc i pins s σ H E I hf st hg
  subst hP hw hK
  obtain⟨xs,x,hq,hx⟩:=hg
  obtain⟨its,rv,p,hz⟩:=I.list hq
  obtain⟨u,hu,ru⟩:=rv.get hx
  obtain⟨f0,f1,f2,f3,f4,f5⟩:=hf it (by simp)
  refine wpAny_pyNext_list_item st p.isList (x:=u) (by simpa using hu) fun h' st' sb=>?_
  have I1:Inv X pins σ H { s with heap:=h' }:=I.turned (t':=s.toks) (fun b o hb e=>(sb.2 b hb).trans e) f0 f1 f3 f4 f5
  obtain⟨o,e,c,d⟩:=id st'
  exact⟨u,rfl,tu (s:={ s with heap:=h' }) e c d (by decide) ⟨x,H,I1,ru,⟨rfl,fun ys hy=>by rw[I.kq hy hq];exact hx⟩,st',fun b hb=>(hf b hb).1⟩⟩
 done:=by
  intro X hP hw hK hc i pins s σ H E I hf st hg
  subst hP hw hK
  obtain⟨xs,hq,hx⟩:=hg
  obtain⟨its,rv,p,hz⟩:=I.list hq
  obtain⟨f0,f1,f2,f3,f4,f5⟩:=hf it (by simp)
  have hl:=rv.length
  exact wpAny_pyNext_list_end (I.ok.hd hc) st p.isList (by simp;lia) fun h' eb=>⟨rfl,I.turned (t':=s.toks) (fun b o hb e=>eb b o hb e) f0 f1 f3 f4 f5⟩
 self:=fun _ _ _ _ _ st h=>wpAny_pyIter_listiter st h
theorem qW{P:Kz}{w:KD}{K:Kk}{tg:KC}(a it:Kl):Turn P w K tg (Itt K a) [it] it (fun i h=>h.IsTupleIter it a i) where
 mem:=by simp
 obj:=fun i h st b hb=>by
  have e:b=it:=by simpa using hb
  subst e
  obtain⟨o,e,c,d⟩:=st
  exact⟨o,e,fun v z=>by rw[d]at z;cases z⟩
 keep:=fun i h h' st k=>st.at fun o e=>k it (by simp) o e
 item:=by
  intro X hP hw hK hc i pins s σ H E I hf st hg
  subst hP hw hK
  obtain⟨xs,x,hq,hx⟩:=hg
  obtain⟨its,rv,p,hz⟩:=I.tuple hq
  obtain⟨u,hu,ru⟩:=rv.get hx
  obtain⟨f0,f1,f2,f3,f4,f5⟩:=hf it (by simp)
  refine wpAny_pyNext_tuple_item st (show s.heap.IsTuple a its.toArray from p) (x:=u) (by simpa using hu) fun h' st' sb=>?_
  have I1:Inv X pins σ H { s with heap:=h' }:=I.turned (t':=s.toks) (fun b o hb e=>(sb.2 b hb).trans e) f0 f1 f3 f4 f5
  obtain⟨o,e,c,d⟩:=id st'
  exact⟨u,rfl,tu (s:={ s with heap:=h' }) e c d (by decide) ⟨x,H,I1,ru,⟨rfl,fun ys hy=>by rw[I.iG hy hq];exact hx⟩,st',fun b hb=>(hf b hb).1⟩⟩
 done:=by
  intro X hP hw hK hc i pins s σ H E I hf st hg
  subst hP hw hK
  obtain⟨xs,hq,hx⟩:=hg
  obtain⟨its,rv,p,hz⟩:=I.tuple hq
  obtain⟨f0,f1,f2,f3,f4,f5⟩:=hf it (by simp)
  have hl:=rv.length
  exact wpAny_pyNext_tuple_end (I.ok.hd hc) st (show s.heap.IsTuple a its.toArray from p) (by simp;lia) fun h' eb=>⟨rfl,I.turned (t':=s.toks) (fun b o hb e=>eb b o hb e) f0 f1 f3 f4 f5⟩
 self:=fun _ _ _ _ _ st h=>wpAny_pyIter_tupleiter st h
theorem rh{P:Kz}{w:KD}{K:Kk}{tg:KC}(it:Kl)(lo:Int)(n:Nat):Turn P w K tg (Itr lo n) [it] it (fun i h=>NZ h it (lo + (i:Nat) * 1) ((n:Int) - (i:Nat)) 1) where
 mem:=by simp
 obj:=fun i h st b hb=>by
  have e:b=it:=by simpa using hb
  subst e
  exact⟨_,st,fun v z=>by
   have z':N0 _=Nl v:=z
   cases z'⟩
 keep:=fun i h h' st k=>k it (by simp) _ st
 item:=by
  intro X hP hw hK hc i pins s σ H E I hf st hg
  subst hP hw hK
  obtain⟨f0,f1,f2,f3,f4,f5⟩:=hf it (by simp)
  have W:=RL (prog:=X.prog) (w:=X.w) (I.ok.hd hc) it lo 1 n
  refine W.item i s _ _ hg st fun v h' tk hv st' kk=>?_
  obtain⟨t,rfl⟩:=hv
  have I1:Inv X pins σ H { s with heap:=h',toks:=tk }:=I.turned (fun b o hb e=>kk b o (by simpa using hb) e) f0 f1 f3 f4 f5
  refine⟨_,rfl,tu (s:={ s with heap:=h',toks:=tk }) (n:="range_iterator") st' rfl rfl (by decide) ⟨.int (lo + i),H,I1,⟨t,?_⟩,⟨rfl,rfl⟩,st',fun b hb=>(hf b hb).1⟩⟩
  rw[Kc]
 done:=by
  intro X hP hw hK hc i pins s σ H E I hf st hg
  subst hP hw hK
  obtain⟨f0,f1,f2,f3,f4,f5⟩:=hf it (by simp)
  exact N1 (I.ok.hd hc) st (by have:n<=i:=hg;lia) fun h' eb=>⟨rfl,I.turned (t':=s.toks) (fun b o hb e=>eb b o hb e) f0 f1 f3 f4 f5⟩
 self:=fun _ _ _ _ _ st h=>N2 st h
section
variable{X:Cx}{tg:KC}
theorem vM{pins:List (Kl × Obj)}{σ:St}{H:Hp}{s:Km}{R:It->Hp->Prop}{E:Kj->Km->Prop}{lo hi:Int}{t u v:Tok}{tk:Nat}(I:Inv X pins σ H s)(h1:-(2 ^ 62)<=lo)(h2:lo < 2 ^ 62)(h3:-(2 ^ 62)<=hi)(h4:hi < 2 ^ 62)
  (q:R (Itr lo (hi - lo).toNat) H):Kr (Kw X.prog X.w) X.A (M' (.ref s.heap.objs.size)) (PIE X pins σ tg R) E { s with heap:=s.heap.push { cls:=.type "range",data:=.fields #[.int lo t,.int hi u,.int 1 v] },toks:=tk }:=by
 refine ON (Pb ..) (small_one h1 h2 h3 h4) ?_
 have I1:Inv X pins σ H { s with heap:=s.heap.push { cls:=.type "range",data:=.fields #[.int lo t,.int hi u,.int 1 v] },toks:=tk }:=I.kept fun b o e=>Kn _ e
 refine⟨(s.heap.push { cls:=.type "range",data:=.fields #[.int lo t,.int hi u,.int 1 v] }).objs.size,[(s.heap.push { cls:=.type "range",data:=.fields #[.int lo t,.int hi u,.int 1 v] }).objs.size],_,_,H,rfl,
  I1.kept (t':=tk) fun b o e=>Kn _ e,rh _ lo (hi - lo).toNat,?_,fun b hb=>?_,q⟩
 ·have e1:lo + ((0:Nat):Int) * 1=lo:=by simp
  have e2:(((hi - lo).toNat:Nat):Int) - ((0:Nat):Int)=Mj lo hi 1:=by rw[rangeSize_one];split <;> lia
  show NZ _ _ (lo + ((0:Nat):Int) * 1) ((((hi - lo).toNat:Nat):Int) - ((0:Nat):Int)) 1
  rw[e1,e2]
  exact Kt _ rfl
 have e:b=(s.heap.push { cls:=.type "range",data:=.fields #[.int lo t,.int hi u,.int 1 v] }).objs.size:=by simpa using hb
 subst e
 exact I1.uq (e_ _) (I1.hok.fresh (e_ _))
def Eg(ta:TA):TI:=fun σ H R=>ta σ H fun vs H1=>∃ j:Int,vs=[.int j]/\-(2 ^ 62)<=j/\j < 2 ^ 62/\R (Itr 0 j.toNat) H1
theorem uJ{a:KC}{ta:TA}{p pos:Pos}(hg:Gl X "range")(hm:X.mg "range"=none)(ha:PA X [a] ta)(hs:KG [a] X.env=[(false,KR a X.env)]:=by rfl):PI X tg (.Call (.Name "range" p) [a] [] pos) (Eg ta):=by
 intro pins s σ H R I h
 refine RW (bQ I hg hm PK (LX (thn (ha pos pins s σ H _ I h) fun us s1 ⟨vs,H1,I1,r1,q1⟩=>?_) hs rfl))
 obtain⟨j,e,q1,q2,q⟩:=q1
 subst e
 cases r1 with
 | cons r rr=>
  cases rr
  obtain⟨t,rfl⟩:=r
  exact Q5 (vM I1 (by lia) (by lia) q1 q2 (by simpa using q))
noncomputable def Fy(wi:TI)(g:TG)(tb:TS):TS:=fun D σ H=>wi σ H fun J H1=>∃ W:Nat->Nat->St->Hp->Prop,(∃ m,W 0 m σ H1)/\∀ i m σ H,W i m σ H->
 (J.stop i H/\D.nx σ H)\/(J.go i H/\∃ N:St->Hp->Prop,(∀ σ' H',N σ' H'->∃ m',m' < m/\W (i + 1) m' σ' H')/\∀ x H',J.yld i H x H'->g x σ H' fun σ2 H2=>tb { D with nx:=N,ct:=N,bk:=D.nx } σ2 H2)
def iQ(fp:List Kl)(h:KH):List (Kl × Obj):=fp.filterMap fun b=>(h.get? b).map fun o=>(b,o)
theorem bJ{fp:List Kl}{h:KH}{b:Kl}{o:Obj}(hb:b∈fp)(e:h.get? b=some o):(b,o)∈iQ fp h:=Jx.mpr ⟨b,hb,by rw[e];rfl⟩
theorem u9{fp:List Kl}{h:KH}{p:Kl × Obj}(hp:p∈iQ fp h):p.1∈fp/\h.get? p.1=some p.2:=by
 obtain⟨b,hb,e⟩:=Jx.mp hp
 cases q:h.get? b with
 | none=>rw[q]at e;cases e
 | some o=>
  rw[q]at e
  have e':(b,o)=p:=D' e
  subst e'
  exact⟨hb,q⟩
theorem Inv.pinned {pins:List (Kl × Obj)}{σ:St}{H:Hp}{s:Km}{fp:List Kl}(I:Inv X pins σ H s)(hf:∀ b∈fp,gx X pins H b)(ho:∀ b∈fp,∃ o,s.heap.get? b=some o/\∀ v,o.data≠.cell v):Inv X (pins++iQ fp s.heap) σ H s:=
 I.t9 fun p hp=>(FF.mp hp).elim (fun z=>I.pin p (q_ _ z)) fun z=>by
  obtain⟨hb,e⟩:=u9 z
  obtain⟨f0,f1,f2,_⟩:=hf p.1 hb
  obtain⟨o,e',d⟩:=ho p.1 hb
  rw[e]at e';cases e'
  exact⟨e,f0,f1,f2,d⟩
theorem Inv.dA {pins pl:List (Kl × Obj)}{σ:St}{H:Hp}{s:Km}(I:Inv X (pins++pl) σ H s):Inv X pins σ H s:=I.t9 fun p hp=>I.pin p (q_ _ (FN _ hp))
theorem Dp{iter:KC}{body:List K8}{wi:TI}{g:TG}{tb:TS}{pos:Pos}(hp:OM (Kw X.prog X.w) X.A X.env X.xe)(hc:X.calm=true)(hi:PI X tg iter wi)(hg:PG X tg g)(hb:PSs X body tb)
  (hs:∀ x,Li iter X.env x=pure x:=by intro _;rfl):PS X (.For tg iter body [] pos) (Fy wi g tb):=by
 intro pins s σ H D I h
 refine wpAny_For (thn (hi pins s σ H _ I h) fun v s1 h1=>thn h1 fun itv s2 h2=>?_) hs
 obtain⟨it,fp,tn,J,H2,e,I2,T,st2,f2,W,⟨m0,w0⟩,turn⟩:=h2
 subst e
 have stat:∀ {H':Hp},(∀ b∈fp,H' b=none)->∀ b∈fp,gx X pins H' b:=fun hn b hb=>⟨hn b hb,(f2 b hb).2⟩
 refine codeAny_forLoop_any (fun n s'=>∃ i σ' H',Inv X pins σ' H' s'/\tn i s'.heap/\(∀ b∈fp,H' b=none)/\W i n σ' H') ?_ m0 ⟨0,σ,H2,I2,st2,fun b hb=>(f2 b hb).1,w0⟩
 rintro n s3 ⟨i,σ3,H3,I3,st3,fr3,w3⟩
 rcases turn i n σ3 H3 w3 with⟨stop,qn⟩ | ⟨go,N,hN,step⟩
 ·refine L4 hp (thn (T.done X rfl rfl rfl hc i pins s3 σ3 H3 X.xe I3 (stat fr3) st3 stop) ?_)
  rintro r s4 ⟨hr,I4⟩
  subst hr
  exact M9 ⟨σ3,H3,I4,qn⟩
 refine L4 hp (thn (T.item X rfl rfl rfl hc i pins s3 σ3 H3 X.xe I3 (stat fr3) st3 go) ?_)
 rintro r s4 ⟨u,hr,h4⟩
 subst hr
 refine L4 hp (thn h4 ?_)
 rintro _ s5 ⟨x,H5,I5,r5,y5,st5,fr5⟩
 have I5':=I5.pinned (stat fr5) (T.obj _ _ st5)
 refine L4 hp (thn (hg _ s5 σ3 H5 x u _ I5' r5 (step x H5 y5)) ?_)
 rintro _ s6 ⟨σ6,H6,I6,q6⟩
 refine L4 hp (thn (hb _ s6 σ6 H6 _ I6 q6) fun f s7 q7=>?_)
 have again:∀ {σ7:St} {H7:Hp},Inv X (pins++iQ fp s5.heap) σ7 H7 s7->N σ7 H7->∃ m,m < n/\∃ i σ' H',Inv X pins σ' H' s7/\tn i s7.heap/\(∀ b∈fp,H' b=none)/\W i m σ' H':=fun{σ7 H7} I7 n7=>by
  obtain⟨m',hm,w7⟩:=hN σ7 H7 n7
  refine⟨m',hm,i + 1,σ7,H7,I7.dA,T.keep _ _ _ st5 fun b hb o e=>(I7.pin (b,o) (q_ _ (q_ _ (bJ hb e)))).1,fun b hb=>?_,w7⟩
  obtain⟨o,e,d⟩:=T.obj _ _ st5 b hb
  exact(I7.pin (b,o) (q_ _ (q_ _ (bJ hb e)))).2.1
 cases f with
 | next=>obtain⟨σ7,H7,I7,n7⟩:=q7;exact again I7 n7
 | cont=>obtain⟨σ7,H7,I7,n7⟩:=q7;exact again I7 n7
 | brk=>obtain⟨σ7,H7,I7,q7⟩:=q7;exact⟨σ7,H7,I7.dA,q7⟩
 | ret v=>obtain⟨x7,σ7,H7,I7,r7,q7⟩:=q7;exact⟨x7,σ7,H7,I7.dA,r7,q7⟩
end
abbrev R2:=V->V->Hp->VK->Prop
noncomputable def OpR(X:Cx)(f:Kj->Kj->Sem Kj)(r:R2):Prop:=
 ∀(pins:List (Kl × Obj)) (s:Km) (σ:St) (H:Hp) (x y:V) (v u:Kj) (Q:VK),Inv X pins σ H s->RelV x v->RelV y u->r x y H Q->
  Kr (Kw X.prog X.w) X.A (f v u) (EP X pins σ Q) X.xe s
noncomputable def UnR(X:Cx)(f:Kj->Sem Kj)(r:V->Hp->VK->Prop):Prop:=
 ∀(pins:List (Kl × Obj)) (s:Km) (σ:St) (H:Hp) (x:V) (v:Kj) (Q:VK),Inv X pins σ H s->RelV x v->r x H Q->
  Kr (Kw X.prog X.w) X.A (f v) (EP X pins σ Q) X.xe s
noncomputable def bG(X:Cx)(f:Kj)(r:List V->Hp->VK->Prop):Prop:=
 ∀(pins:List (Kl × Obj)) (s:Km) (σ:St) (H:Hp) (xs:List V) (us:List Kj) (Q:VK),Inv X pins σ H s->Vals xs us->r xs H Q->
  Kr (Kw X.prog X.w) X.A (call f us) (EP X pins σ Q) X.xe s
noncomputable def F8(X:Cx)(r:V->Hp->(Bool->Hp->Prop)->Prop):Prop:=
 ∀(pins:List (Kl × Obj)) (s:Km) (σ:St) (H:Hp) (x:V) (v:Kj) (Q:Bool->Hp->Prop),Inv X pins σ H s->RelV x v->r x H Q->
  Kr (Kw X.prog X.w) X.A (Q3 v) (TP X pins σ Q) X.xe s
def tOp(r:R2)(ta tb:TE):TE:=fun σ H Q=>ta σ H fun x H1=>tb σ H1 fun y H2=>r x y H2 Q
def tUn(r:V->Hp->VK->Prop)(ta:TE):TE:=fun σ H Q=>ta σ H fun x H1=>r x H1 Q
def rI(C:Int->Int->Prop)(g:Int->Int->V):R2:=fun x y H Q=>∃ i j,x=.int i/\y=.int j/\C i j/\Q (g i j) H
def rI0(g:Int->Int->V):R2:=fun x y H Q=>∃ i j,x=.int i/\y=.int j/\Q (g i j) H
def rU(g:Int->V):V->Hp->VK->Prop:=fun x H Q=>∃ i,x=.int i/\Q (g i) H
section
variable{X:Cx}{a b c:KC}{ta tb tc:TE}{pos:Pos}
theorem C5(ha:PE X a ta)(hb:PE X b tb){pins:List (Kl × Obj)}{s:Km}{σ:St}{H:Hp}{R:V->V->Hp->Prop}(I:Inv X pins σ H s)
  (h:ta σ H fun x H1=>tb σ H1 fun y H2=>R x y H2) {Q:Kj->Km->Prop} {f:Kj->Kj->Sem Kj}
  (hf:∀ v u s2 x y H2,Inv X pins σ H2 s2->RelV x v->RelV y u->R x y H2->Kr (Kw X.prog X.w) X.A (f v u) Q X.xe s2) :
  Kr (Kw X.prog X.w) X.A (KR a X.env) (fun v s₁=>Kr (Kw X.prog X.w) X.A (KR b X.env) (fun u s₂=>Kr (Kw X.prog X.w) X.A (f v u) Q X.xe s₂) X.xe s₁) X.xe s:=by
 refine thn (ha pins s σ H _ I h) ?_
 rintro v s1 ⟨x,H1,I1,r1,q1⟩
 refine thn (hb pins s1 σ H1 _ I1 q1) ?_
 rintro u s2 ⟨y,H2,I2,r2,q2⟩
 exact hf v u s2 x y H2 I2 r1 r2 q2
theorem bC{op:NK}{r:R2}(ho:OpR X (Lf op) r)(ha:PE X a ta)(hb:PE X b tb):PE X (.BinOp a op b pos) (tOp r ta tb):=by
 intro pins s σ H Q I h
 exact wpAny_BinOp (C5 ha hb I h fun v u s2 x y H2 I2 rx ry q=>ho pins s2 σ H2 x y v u Q I2 rx ry q)
theorem Ec{op:UnaryOp}{r:V->Hp->VK->Prop}(ho:UnR X (unaryOp op) r)(ha:PE X a ta):PE X (.UnaryOp op a pos) (tUn r ta):=by
 intro pins s σ H Q I h
 exact UnaryOp_ (thn (ha pins s σ H _ I h) fun v s1 ⟨x,H1,I1,r1,q1⟩=>ho pins s1 σ H1 x v Q I1 r1 q1)
theorem opI{f:Kj->Kj->Sem Kj}{C:Int->Int->Prop}{g:Int->Int->Int}
  (rule:∀(i j:Int) (t u:Tok) (s:Km) (Q:Kj->Km->Prop) (E:Kj->Km->Prop),C i j->Q (.int (g i j) s.toks) { s with toks:=s.toks + 1 }->Kr (Kw X.prog X.w) X.A (f (.int i t) (.int j u)) Q E s) :
  OpR X f (rI C fun i j=>.int (g i j)):=by
 intro pins s σ H x y v u Q I rx ry h
 obtain⟨i,j,rfl,rfl,hc,q⟩:=h
 obtain⟨t,rfl⟩:=rx
 obtain⟨t',rfl⟩:=ry
 exact rule i j t t' s _ _ hc ⟨.int (g i j),H,I.tok _,⟨_,rfl⟩,q⟩
theorem Ak{f:Kj->Kj->Sem Kj}{g:Int->Int->Int}
  (rule:∀(i j:Int) (t u:Tok) (s:Km) (Q:Kj->Km->Prop) (E:Kj->Km->Prop),Q (.int (g i j) s.toks) { s with toks:=s.toks + 1 }->Kr (Kw X.prog X.w) X.A (f (.int i t) (.int j u)) Q E s) :
  OpR X f (rI0 fun i j=>.int (g i j)):=by
 intro pins s σ H x y v u Q I rx ry h
 obtain⟨i,j,rfl,rfl,q⟩:=h
 obtain⟨t,rfl⟩:=rx
 obtain⟨t',rfl⟩:=ry
 exact rule i j t t' s _ _ ⟨.int (g i j),H,I.tok _,⟨_,rfl⟩,q⟩
theorem Ek{f:Kj->Kj->Sem Kj}{g:Int->Int->Bool}
  (rule:∀(i j:Int) (t u:Tok) (s:Km) (Q:Kj->Km->Prop) (E:Kj->Km->Prop),Q (.bool (g i j)) s->Kr (Kw X.prog X.w) X.A (f (.int i t) (.int j u)) Q E s) :
  OpR X f (rI0 fun i j=>.bl (g i j)):=by
 intro pins s σ H x y v u Q I rx ry h
 obtain⟨i,j,rfl,rfl,q⟩:=h
 obtain⟨t,rfl⟩:=rx
 obtain⟨t',rfl⟩:=ry
 exact rule i j t t' s _ _ ⟨.bl (g i j),H,I,rfl,q⟩
def Et(i j:Int):Prop:=0 < j/\j < 1073741824
def v9(i j:Int):Prop:=0<=j/\j<=1000000/\i.natAbs < 2 ^ 64
def Au(i j:Int):Prop:=(-(2 ^ 64) < i/\i < 2 ^ 64)\/(-(2 ^ 64) < j/\j < 2 ^ 64)
theorem Au.ok {i j:Int}(h:Au i j):IntMulOk i j:=by
 rcases h with⟨h1,h2⟩ | ⟨h1,h2⟩
 ·exact .of_left (QC h1 h2)
 exact .of_right (QC h1 h2)
theorem kH:OpR X (Lf .Add) (rI0 fun i j=>.int (i + j)):=Ak fun _ _ _ _ _ _ _ q=>add_int q
theorem Bj:OpR X (Lf .Sub) (rI0 fun i j=>.int (i - j)):=Ak fun _ _ _ _ _ _ _ q=>sub_int q
theorem ik:OpR X (Lf .Mult) (rI Au fun i j=>.int (i * j)):=opI fun _ _ _ _ _ _ _ hc q=>mul_int q hc.ok
theorem zk:OpR X (Lf .FloorDiv) (rI Et fun i j=>.int (i / j)):=opI fun i j _ _ _ _ _ hc q=>by
 have h1:(0:Int) < j:=hc.1
 have h2:j < 1073741824:=hc.2
 exact floordiv_int (by lia) (by rw[IE i (by lia)];exact q) (.inl (N3 (by lia)))
theorem iz:OpR X (Lf .Mod) (rI (fun _ j=>0 < j) fun i j=>.int (i % j)):=opI fun i j _ _ _ _ _ hc q=>by
 have h1:(0:Int) < j:=hc
 exact mod_int' (by lia) (by rw[IF i (by lia)];exact q)
theorem Co:OpR X (Lf .Pow) (rI v9 fun i j=>.int (i ^ j.toNat)):=opI fun _ _ _ _ _ _ _ hc q=>pow_int_small hc.1 hc.2.1 hc.2.2 q
theorem Bb:OpR X (Lf .LShift) (rI v9 fun i j=>.int (i * 2 ^ j.toNat)):=opI fun _ _ _ _ _ _ _ hc q=>lshift_int_small hc.1 hc.2.1 hc.2.2 q
theorem BQ:OpR X (Lf .BitAnd) (rI0 fun i j=>.int (MM i j)):=Ak fun _ _ _ _ _ _ _ q=>and_int q
theorem DP:OpR X (Lf .BitOr) (rI0 fun i j=>.int (LR i j)):=Ak fun _ _ _ _ _ _ _ q=>or_int q
theorem unI{f:Kj->Sem Kj}{g:Int->Int}
  (rule:∀(i:Int) (t:Tok) (s:Km) (Q:Kj->Km->Prop) (E:Kj->Km->Prop),Q (.int (g i) s.toks) { s with toks:=s.toks + 1 }->Kr (Kw X.prog X.w) X.A (f (.int i t)) Q E s) :
  UnR X f (rU fun i=>.int (g i)):=by
 intro pins s σ H x v Q I rx h
 obtain⟨i,rfl,q⟩:=h
 obtain⟨t,rfl⟩:=rx
 exact rule i t s _ _ ⟨.int (g i),H,I.tok _,⟨_,rfl⟩,q⟩
theorem CL:UnR X (unaryOp .USub) (rU fun i=>.int (-i)):=unI fun _ _ _ _ _ q=>neg_int q
end
noncomputable def Dy:V->V->Bool
 | .non,.non=>true | .non,.int _=>true | .int _,.non=>true | .non,.bl _=>true | .bl _,.non=>true | .non,.str _=>true | .str _,.non=>true
 | .int _,.int _=>true | .bl _,.bl _=>true | .str _,.str _=>true | .byt _,.byt _=>true
 | .int _,.str _=>true | .str _,.int _=>true | .bl _,.str _=>true | .str _,.bl _=>true
 | _,_=>false
def rEq:R2:=fun x y H Q=>Dy x y=true/\Q (.bl (decide (x=y))) H
def rNe:R2:=fun x y H Q=>Dy x y=true/\Q (.bl (!decide (x=y))) H
theorem tL{i j:Int}:decide (V.int i=V.int j)=(i == j):=by
 rw[G5]
 simp
theorem vg{i j:Bool}:decide (V.bl i=V.bl j)=(i == j):=by
 rw[G5]
 simp
theorem tq{i j:Str}:decide (V.str i=V.str j)=(i == j):=by
 rw[G5]
 simp
theorem su{i j:Array UInt8}:decide (V.byt i=V.byt j)=(i.toList == j.toList):=by
 rw[G5]
 cases i
 cases j
 simp
section
variable{X:Cx}{a b c:KC}{ta tb tc:TE}{pos:Pos}
theorem aC{pins:List (Kl × Obj)}{σ:St}{H:Hp}{s:Km}{Q:VK}{k k':Bool}(I:Inv X pins σ H s)(q:Q (.bl k) H)(e:k=k'):EP X pins σ Q (.bool k') s:=by
 subst e
 exact⟨.bl k,H,I,rfl,q⟩
theorem AM:OpR X (K4 .Eq) rEq:=by
 intro pins s σ H x y v u Q I rx ry h
 obtain⟨hs,q⟩:=h
 cases x with
 | non=>
  cases rx
  cases y with
  | non=>cases ry;exact QP (aC I q (by simp))
  | bl j=>cases ry;exact QQ (aC I q (by simp))
  | int j=>obtain⟨t',rfl⟩:=ry;exact Q6 (aC I q (by simp))
  | str j=>obtain⟨t',rfl⟩:=ry;exact Q7 (aC I q (by simp))
  | _=>exact absurd (show false=true from hs) B_
 | bl i=>
  cases rx
  cases y with
  | non=>cases ry;exact QR (aC I q (by simp))
  | bl j=>cases ry;exact eq_bool (aC I q vg)
  | str j=>obtain⟨t',rfl⟩:=ry;exact QS (aC I q (by simp))
  | _=>exact absurd (show false=true from hs) B_
 | int i=>
  obtain⟨t,rfl⟩:=rx
  cases y with
  | non=>cases ry;exact Q8 (aC I q (by simp))
  | int j=>obtain⟨t',rfl⟩:=ry;exact eq_int (aC I q tL)
  | str j=>obtain⟨t',rfl⟩:=ry;exact Q9 (aC I q (by simp))
  | _=>exact absurd (show false=true from hs) B_
 | str i=>
  obtain⟨t,rfl⟩:=rx
  cases y with
  | non=>cases ry;exact Q_ (aC I q (by simp))
  | bl j=>cases ry;exact QT (aC I q (by simp))
  | int j=>obtain⟨t',rfl⟩:=ry;exact Ra (aC I q (by simp))
  | str j=>obtain⟨t',rfl⟩:=ry;exact eq_str (aC I q tq)
  | _=>exact absurd (show false=true from hs) B_
 | byt i=>
  obtain⟨t,rfl⟩:=rx
  cases y with
  | byt j=>obtain⟨t',rfl⟩:=ry;exact PySem.W.eq_bytes (aC I q su)
  | _=>exact absurd (show false=true from hs) B_
 | _=>cases y <;> exact absurd (show false=true from hs) B_
theorem y9:OpR X (K4 .NotEq) rNe:=by
 intro pins s σ H x y v u Q I rx ry h
 obtain⟨hs,q⟩:=h
 cases x with
 | non=>
  cases rx
  cases y with
  | non=>cases ry;exact QU (aC I q (by simp))
  | bl j=>cases ry;exact QV (aC I q (by simp))
  | int j=>obtain⟨t',rfl⟩:=ry;exact Rb (aC I q (by simp))
  | str j=>obtain⟨t',rfl⟩:=ry;exact Rc (aC I q (by simp))
  | _=>exact absurd (show false=true from hs) B_
 | bl i=>
  cases rx
  cases y with
  | non=>cases ry;exact QW (aC I q (by simp))
  | bl j=>cases ry;exact ne_bool (aC I q (congrArg not vg))
  | str j=>obtain⟨t',rfl⟩:=ry;exact QX (aC I q (by simp))
  | _=>exact absurd (show false=true from hs) B_
 | int i=>
  obtain⟨t,rfl⟩:=rx
  cases y with
  | non=>cases ry;exact Rf (aC I q (by simp))
  | int j=>obtain⟨t',rfl⟩:=ry;exact ne_int (aC I q (congrArg not tL))
  | str j=>obtain⟨t',rfl⟩:=ry;exact Rg (aC I q (by simp))
  | _=>exact absurd (show false=true from hs) B_
 | str i=>
  obtain⟨t,rfl⟩:=rx
  cases y with
  | non=>cases ry;exact Rh (aC I q (by simp))
  | bl j=>cases ry;exact QY (aC I q (by simp))
  | int j=>obtain⟨t',rfl⟩:=ry;exact Ri (aC I q (by simp))
  | str j=>obtain⟨t',rfl⟩:=ry;exact ne_str (aC I q (congrArg not tq))
  | _=>exact absurd (show false=true from hs) B_
 | byt i=>
  obtain⟨t,rfl⟩:=rx
  cases y with
  | byt j=>obtain⟨t',rfl⟩:=ry;exact PySem.W.ne_bytes (aC I q (congrArg not su))
  | _=>exact absurd (show false=true from hs) B_
 | _=>cases y <;> exact absurd (show false=true from hs) B_
theorem DG:OpR X (K4 .Gt) (rI0 fun i j=>.bl (decide (j < i))):=Ek fun _ _ _ _ _ _ _ q=>gt_int q
theorem Dw:OpR X (K4 .GtE) (rI0 fun i j=>.bl (decide (j<=i))):=Ek fun _ _ _ _ _ _ _ q=>ge_int q
theorem uP:OpR X (K4 .In) (fun x y H Q=>∃ i j,x=.str i/\y=.str j/\Q (.bl (!(MT j i 0 j.length 1).isEmpty)) H):=by
 intro pins s σ H x y v u Q I rx ry h
 obtain⟨i,j,rfl,rfl,q⟩:=h
 obtain⟨t,rfl⟩:=rx
 obtain⟨t',rfl⟩:=ry
 exact in_str (aC I q rfl)
theorem bj(b:KC){op:NV}(h:op≠.In:=by decide)(h2:op≠.NotIn:=by decide):LO op b=false:=by
 have e1:(op == Ss)=false:=by cases op <;> first | rfl | exact absurd rfl h
 have e2:(op == RJ)=false:=by cases op <;> first | rfl | exact absurd rfl h2
 cases b <;> simp[LO,e1,e2]
theorem nq{op:NV}{r:R2}(ho:OpR X (K4 op) r)(ha:PE X a ta)(hb:PE X b tb)(hm:LO op b=false):PE X (.Compare a [op] [b] pos) (tOp r ta tb):=by
 intro pins s σ H Q I h
 exact Qe (C5 ha hb I h fun v u s2 x y H2 I2 rx ry q=>ho pins s2 σ H2 x y v u Q I2 rx ry q) hm
def Ax(t:TE):TT:=fun σ H Q=>t σ H fun x H'=>∃ k,x=.bl k/\Q k H'
theorem eI{op:NV}{r:R2}(ho:OpR X (K4 op) r)(ha:PE X a ta)(hb:PE X b tb)(hm:LO op b=false):PT X (.Compare a [op] [b] pos) (Ax (tOp r ta tb)):=by
 intro pins s σ H Q I h
 refine N_ (thn (ha pins s σ H _ I h) fun v s1 ⟨x,H1,I1,r1,q1⟩=>thn (hb pins s1 σ H1 _ I1 q1) fun u s2 ⟨y,H2,I2,r2,q2⟩=>
  thn (ho pins s2 σ H2 x y v u _ I2 r1 r2 q2) fun c s3 ⟨z,H3,I3,r3,k,e,q3⟩=>?_) hm
 subst e
 cases r3
 exact LF ⟨H3,I3,q3⟩
noncomputable def Cz(K:Kk)(x:V)(H:Hp)(k:Bool):Prop:=
 match x with
 | .non=>k=false
 | .bl b=>k=b
 | .int i=>k=(i != 0)
 | .str y=>y.length<=sizeLine/\k=((y.length:Int) != 0)
 | .byt y=>y.size<=sizeLine/\k=((y.size:Int) != 0)
 | .ref p=>(∃ xs,SqL K H p xs/\k=!xs.isEmpty)\/(∃ xs,SqT K H p xs/\k=!xs.isEmpty)\/∃ kvs,H p=some (.dK kvs)/\k=!kvs.isEmpty
 | _=>False
theorem r9{κ:Type}{kvs:List (κ × V)}{vs:List (κ × Kj)}(r:KV kvs vs):(!vs.isEmpty)=!kvs.isEmpty:=by
 cases r <;> rfl
theorem jO{xs:List V}{its:List Kj}(r:Vals xs its):(!its.toArray.isEmpty)=!xs.isEmpty:=by
 cases r <;> simp
theorem fg:(sizeLine:Nat) < 2 ^ 63:=by rw[K5];decide
theorem Bv:F8 X (fun x H Q=>∃ k,Cz X.K x H k/\Q k H):=by
 intro pins s σ H x v Q I rx h
 obtain⟨k,e,q⟩:=h
 have hl:=fg
 have hs:sizeLine=16777216:=K5
 cases x with
 | non=>
  cases rx
  have e':k=false:=e
  subst e'
  exact truthy_none ⟨H,I,q⟩
 | bl b=>
  cases rx
  have e':k=b:=e
  subst e'
  exact LF ⟨H,I,q⟩
 | int i=>
  obtain⟨t,rfl⟩:=rx
  have e':k=(i != 0):=e
  subst e'
  exact PySem.P.truthy_int ⟨H,I,q⟩
 | str y=>
  obtain⟨t,rfl⟩:=rx
  obtain⟨hy,e'⟩:y.length<=sizeLine/\k=((y.length:Int) != 0):=e
  subst e'
  exact PySem.P.truthy_str (by lia) ⟨H,I.tok _,q⟩
 | byt y=>
  obtain⟨t,rfl⟩:=rx
  obtain⟨hy,e'⟩:y.size<=sizeLine/\k=((y.size:Int) != 0):=e
  subst e'
  exact PySem.W.truthy_bytes (by lia) ⟨H,I.tok _,q⟩
 | ref p=>
  cases rx
  have e':(∃ xs,SqL X.K H p xs/\k=!xs.isEmpty)\/(∃ xs,SqT X.K H p xs/\k=!xs.isEmpty)\/∃ kvs,H p=some (.dK kvs)/\k=!kvs.isEmpty:=e
  rcases e' with⟨xs,hx,e'⟩ | ⟨xs,hx,e'⟩ | ⟨kvs,hx,e'⟩
  ·subst e'
   obtain⟨its,r,pl,hz⟩:=I.list hx
   have hlen:=r.length
   exact wpAny_truthy_list pl.isList (by simp only[l_];lia) ⟨H,I.tok _,by rw[jO r];exact q⟩
  ·subst e'
   obtain⟨its,r,pl,hz⟩:=I.tuple hx
   have hlen:=r.length
   exact truthy_tuple pl (by simp only[l_];lia) ⟨H,I.tok _,by rw[jO r];exact q⟩
  ·subst e'
   obtain⟨hz,hS,vs,r,m⟩:kvs.length<=sizeLine/\(p == LN)=false/\∃ vs,KV kvs vs/\s.heap.DictOf (aV X.prog X.w) p vs:=I.hok p _ hx
   have hlen:kvs.length=vs.length:=M3 r
   exact wpAny_truthy_dict hS m (by lia) ⟨H,I.tok _,by rw[r9 r];exact q⟩
 | _=>exact(show False from e).elim
theorem vd(ha:PE X a ta)(he:∀ whole,N9 a X.env whole=(do let v <-whole;O0 a.pos;MA [v] (Q3 v))) :
  PT X a (fun σ H Q=>ta σ H fun x H'=>∃ k,Cz X.K x H' k/\Q k H'):=by
 intro pins s σ H Q I h
 exact Q4 (thn (ha pins s σ H _ I h) fun v s1 ⟨x,H1,I1,r1,q1⟩=>Bv pins s1 σ H1 x v Q I1 r1 q1) (he _)
theorem rD:OpR X (Lf .Add) (fun x y H Q=>∃ i j,x=.str i/\y=.str j/\i.length + j.length<=sizeLine/\Q (.str (i++j)) H):=by
 intro pins s σ H x y v u Q I rx ry h
 obtain⟨i,j,rfl,rfl,hz,q⟩:=h
 obtain⟨t,rfl⟩:=rx
 obtain⟨t',rfl⟩:=ry
 exact add_str (fun t' tk=>⟨.str (i++j),H,I.tok _,⟨_,rfl⟩,q⟩) hz
theorem vals1{x:V}{us:List Kj}(r:Vals [x] us):∃ u,us=[u]/\RelV x u:=by
 cases r with
 | cons r1 r2=>cases r2;exact⟨_,rfl,r1⟩
theorem vals2{x y:V}{us:List Kj}(r:Vals [x,y] us):∃ u w',us=[u,w']/\RelV x u/\RelV y w':=by
 cases r with
 | cons r1 r2=>
  cases r2 with
  | cons r3 r4=>cases r4;exact⟨_,_,rfl,r1,r3⟩
theorem oS:bG X (.builtin "divmod") (fun xs H Q=>∃ i j,xs=[.int i,.int j]/\Et i j/\∀ p,H p=none->Q (.ref p) (upd H p (.tup [.int (i / j),.int (i % j)]))):=by
 intro pins s σ H xs us Q I r h
 obtain⟨i,j,rfl,⟨h1,h2⟩,q⟩:=h
 obtain⟨u,w',rfl,⟨t,rfl⟩,⟨t',rfl⟩⟩:=vals2 r
 refine divmod_int (by lia) ?_ (.inl (N3 (by lia)))
 rw[IE i (by lia),IF i (by lia)]
 have hn:H s.heap.objs.size=none:=I.hok.fresh (e_ _)
 refine⟨.ref s.heap.objs.size,_,?_,rfl,q _ hn⟩
 refine I.laid (fun b o e=>Kn _ e) (e_ _) ⟨by simp only[k_,Ii];rw[K5];decide,[.int (i / j) s.toks,.int (i % j) (s.toks + 1)],.cons ⟨_,rfl⟩ (.cons ⟨_,rfl⟩ .nil),?_⟩
 exact⟨_,Kt s.heap rfl,rfl,0,rfl⟩
end
theorem l4.some_of {v:V}{o:Option Kj}(r:l4 (some v) o):∃ u,o=some u/\RelV v u:=by
 cases o with
 | none=>exact(show False from r).elim
 | some u=>exact⟨u,rfl,r⟩
structure Room (k:Nat) (A:KN):Prop where
 hd:A.handled=none
 dp:A.depth + 3 * k + 5 < recursionLimit
 un:A.units + 16 * k + 200 < cLine
 gs:A.guards=some []
theorem Room.mono {j k:Nat}{A:KN}(r:Room k A)(h:j<=k):Room j A:=⟨r.hd,by have:=r.dp;lia,by have:=r.un;lia,r.gs⟩
theorem Room.deeper {k:Nat}{A:KN}(r:Room (k + 1) A)(env:Env):Room k (A.deeper env):=
 ⟨r.hd,by have:=r.dp;show A.depth + 1 + 3 * k + 5 < _;lia,by have:=r.un;show A.units + 3 + 16 * k + 200 < _;lia,r.gs⟩
theorem Room.depth {k:Nat}{A:KN}(r:Room k A):A.depth < recursionLimit:=by have:=r.dp;lia
theorem Room.units {k:Nat}{A:KN}(r:Room k A):A.units + 64 < cLine:=by have:=r.un;lia
def Ft:TA:=fun _ H Q=>Q [] H
def EM(ta:TE)(tr:TA):TA:=fun σ H Q=>ta σ H fun x H1=>tr σ H1 fun xs H2=>Q (x::xs) H2
section
variable{X:Cx}{e:KC}{es:List KC}{te:TE}{t:TA}{pos:Pos}
theorem aP:PA X [] Ft:=fun _ _ _ _ H Q I h=>O3 ⟨[],H,I,.nil,h⟩
theorem aj(ha:PE X e te)(hr:PA X es t)(hs:KG (e::es) X.env=(false,KR e X.env)::KG es X.env:=by rfl):PA X (e::es) (EM te t):=by
 intro pos pins s σ H Q I h
 rw[hs]
 show Kr _ _ (spliced ((false,KR e X.env)::Mc pos (KG es X.env))) _ _ s
 refine Mn (thn (ha pins s σ H _ I h) ?_)
 rintro u s1 ⟨x,H1,I1,r1,q1⟩
 exact thn (hr pos pins s1 σ H1 _ I1 q1) fun us s2 ⟨xs,H2,I2,r2,q2⟩=>⟨x::xs,H2,I2,.cons r1 r2,q2⟩
def Fu(t:TA):TE:=fun σ H Q=>t σ H fun xs H1=>xs.length<=sizeLine/\∀ p,H1 p=none->Q (.ref p) (upd H1 p (.lst xs))
theorem xR(h:PA X es t):PE X (.List es pos) (Fu t):=by
 intro pins s σ H Q I hq
 refine OO (thn (h pos pins s σ H _ I hq) fun us s1 ⟨xs,H1,I1,r,z,q⟩=>⟨by rw[<-r.length];exact z,?_⟩)
 have hf:H1 s1.heap.objs.size=none:=I1.hok.fresh (e_ _)
 refine⟨.ref s1.heap.objs.size,upd H1 s1.heap.objs.size (.lst xs),I1.laid (t':=s1.toks) (fun b u e=>Kn _ e) (e_ _) ?_,rfl,q _ hf⟩
 exact⟨z,us,0,r,Kt _ rfl⟩
end
abbrev Sp:=List V->Hp->VK->XK->Prop
abbrev CXT:=List Env->Hp->Km->XK->Kj->Km->Prop
structure Env0 (P:Kz) (w:KD) (K:Kk) (mg:Str->Option Kj) (base:KH) (A:KN) (outer:List Env) (s:Km) (H:Hp):Prop where
 frames:A.frames=some outer
 mod:Mod K mg base
 bs:∀ b o,base.get? b=some o->s.heap.get? b=some o/\H b=none
 bsz:base.objs.size<=s.heap.objs.size
 kU:s.heap.FunFrames base outer
 frf:∀ b∈frs outer,H b=none
 hok:HOk P w H s.heap
 bare:M8 s.gens
noncomputable def CE(outer:List Env)(P:Kz)(w:KD)(H:Hp)(s:Km)(Q:VK)(u:Kj)(s':Km):Prop:=
 ∃ v H',s'.os=s.os/\M8 s'.gens/\Un (frs outer) [] H H' s.heap s'.heap/\HOk P w H' s'.heap/\RelV v u/\Q v H'
noncomputable def CR(CX:CXT)(outer:List Env)(P:Kz)(w:KD)(H:Hp)(s:Km)(Q:VK)(E:XK)(r:OP)(s':Km):Prop:=
 match r with
 | .ok (.ret u)=>CE outer P w H s Q u s'
 | .ok _=>False
 | .error e=>CX outer H s E e s'
structure FnOk (P:Kz) (w:KD) (K:Kk) (mg:Str->Option Kj) (base:KH) (CX:CXT) (k:Nat) (f:Kl) (fd:KP) (ps:List Str) (sp:Sp):Prop where
 len:∀ vs H Q E,sp vs H Q E->vs.length=ps.length
 run:∀(A:KN) (outer:List Env) (s:Km) (H:Hp) (args:Args) (us:List Kj) (vs:List V) (Q:VK) (E:XK),Room k A->Env0 P w K mg base A outer s H->Oa s fd args (ps.zip us)->Vals vs us->sp vs H Q E->
  LQ (Kw P w) A (.call (.ref f) args) (CR CX outer P w H s Q E) s
theorem FnOk.imp {P:Kz}{w:KD}{K:Kk}{mg:Str->Option Kj}{base:KH}{CX:CXT}{k:Nat}{f:Kl}{fd:KP}{ps:List Str}{sp sp':Sp}(F:FnOk P w K mg base CX k f fd ps sp)
  (h:∀ vs H Q E,sp' vs H Q E->sp vs H Q E):FnOk P w K mg base CX k f fd ps sp':=
 ⟨fun vs H Q E q=>F.len vs H Q E (h _ _ _ _ q),fun A outer s H args us vs Q E hr he hb hv hs=>F.run A outer s H args us vs Q E hr he hb hv (h _ _ _ _ hs)⟩
section
variable{X:Cx}{pins:List (Kl × Obj)}{σ:St}{H:Hp}{s s':Km}
theorem Inv.F6 (I:Inv X pins σ H s):Env0 X.prog X.w X.K X.mg X.base X.A X.stack s H:=
 ⟨I.ok.frames,I.ok.mod,I.bs,n_ I.ok.bsz I.sz,I.stack,I.rT,I.hok,I.bare⟩
theorem Inv.after {Q:VK}{u:Kj}(I:Inv X pins σ H s)(h:CE X.stack X.prog X.w H s Q u s'):EP X pins σ Q u s':=by
 obtain⟨v,H',os,bare,un,hok,r,q⟩:=h
 obtain⟨hh,g,d,t,os'⟩:=s'
 obtain rfl:os'=s.os:=os
 exact⟨v,H',I.call (h':=hh) (g':=g) (d':=d) (t':=t) (ch:=[]) un hok bare (fun b z=>absurd z (by simp)),r,q⟩
end
def xt(sp:Sp)(dvs:List V)(E:XK)(t:TA):TE:=fun σ H Q=>t σ H fun vs H1=>sp (vs++dvs) H1 Q E
noncomputable def Binds(K:Kk)(fd:KP)(ps:List Str)(ds:List Kj):Prop:=
 ∀(s:Km) (us:List Kj),K.In s.heap->(us++ds).length=ps.length->Oa s fd ⟨us,[]⟩ (ps.zip (us++ds))
theorem Binds.all {K:Kk}{fd:KP}{ps:List Str}(h:∀ us:List Kj,us.length=ps.length->Rj fd ⟨us,[]⟩=pure (ps.zip us)):Binds K fd ps []:=fun s us _ hl=>by
 rw[FX]at hl ⊢
 exact .of_eq (h us hl)
noncomputable def Passes(CX:CXT)(X:Cx)(E:XK):Prop:=∀(pins:List (Kl × Obj)) (σ:St) (H:Hp) (s:Km) (e:Kj) (s':Km),Inv X pins σ H s->CX X.stack H s E e s'->X.xe e s'
section
variable{X:Cx}{CX:CXT}{k:Nat}{f C:Kl}{fd:KP}{ps:List Str}{sp:Sp}{dvs:List V}{ds:List Kj}{E:XK}{x m:Str}{p pos apos:Pos}{e o:KC}{es:List KC}{ta:TE}{t:TA}
theorem Bf{pins:List (Kl × Obj)}{σ:St}{H:Hp}{s:Km}{Q:VK}{us:List Kj}{vs:List V}(F:FnOk X.prog X.w X.K X.mg X.base CX k f fd ps sp)(hr:Room k X.A)(hb:Binds X.K fd ps ds)(hd:Vals dvs ds)(hx:Passes CX X E)
  (I:Inv X pins σ H s) (r:Vals vs us) (h:sp (vs++dvs) H Q E):Kr (Kw X.prog X.w) X.A (call (.ref f) us) (EP X pins σ Q) X.xe s:=by
 have r2:Vals (vs++dvs) (us++ds):=r.append hd
 have hl:(us++ds).length=ps.length:=by rw[<-r2.length];exact F.len _ _ _ _ h
 refine PN (Md (F.run X.A X.stack s H ⟨us,[]⟩ (us++ds) (vs++dvs) Q E hr I.F6 (hb s us I.kIn hl) r2 h) fun r s' hq=>?_)
 cases r with
 | error e=>exact hx pins σ H s e s' I hq
 | ok fl=>
  cases fl with
  | ret u=>exact I.after hq
  | next=>exact KJ hq
  | brk=>exact KJ hq
  | cont=>exact KJ hq
theorem Ai(F:FnOk X.prog X.w X.K X.mg X.base CX k f fd ps sp)(hr:Room k X.A)(hg:Gl X x)(hm:X.mg x=some (.ref f))(hk:MN X.K (.ref f)=true)(hb:Binds X.K fd ps ds)(hd:Vals dvs ds)(hx:Passes CX X E)
  (ha:PA X (e::es) t) (hdb:(x ==("__debug__":Str))=false:=by decide) (he:KG (e::es) X.env=(false,KR e X.env)::KG es X.env:=by rfl) (hpl:(Mc pos (KG es X.env)).any (·.1)=false:=by rfl) :
  PE X (.Call (.Name x p) (e::es) [] pos) (xt sp dvs E t):=by
 intro pins s σ H Q I h
 refine Lz (zg I hg hm ?_ hdb)
 refine PySem.W.callWith_K (h₀:=X.base) I.ok.mod.kin hk (thn (ha pos pins s σ H _ I h) fun us s1 ⟨vs,H1,I1,r,q⟩=>⟨I1.kIn,?_⟩) he hpl
 exact Bf F hr hb hd hx I1 r q
end
structure FnScope (N P:List Str) (sc:Lp):Prop where
 kind:sc.kind=.function
 co:sc.isCoroutine=false
 gen:sc.isGenerator=false
 nd:N.Nodup
 pre:N.take P.length=P
 par:∀ x∈P,sc.names.lookup x=some .local\/sc.names.lookup x=some .cell
 nofree:∀ y∈sc.names,y.2≠.free
theorem lT{kindOf:Str->Option Me}{x:Str}:∀ {binds:List (Str × Kj)} {m:Str->Option Kj},(∀ v,(x,v) ∉ binds)->Om kindOf binds m x=m x
 | [],_,_=>rfl
 | (n,v)::r,m,h=>by
  unfold Om
  rw[lT fun w hw=>h w (o_ _ hw)]
  split
  ·have:x≠n:=by rintro rfl;exact h v y_
   simp[this]
  rfl
theorem lL{kindOf:Str->Option Me}{x:Str}:∀ {binds:List (Str × Kj)} {m:Str->Option Kj},(∀ v,(x,v) ∉ binds)->Oo kindOf binds m x=m x
 | [],_,_=>rfl
 | (n,v)::r,m,h=>by
  unfold Oo
  rw[lL fun w hw=>h w (o_ _ hw)]
  split
  ·rfl
  have:x≠n:=by rintro rfl;exact h v y_
  simp[this]
theorem lW{kindOf:Str->Option Me}{x:Str}{v:Kj}:∀ {P:List Str} {vs:List Kj} {i:Nat} {m:Str->Option Kj},P.Nodup->P[i]?=some x->vs[i]?=some v->kindOf x=some .local->
  Om kindOf (P.zip vs) m x=some v
 | [],_,_,_,_,h,_,_=>by simp at h
 | _::_,[],_,_,_,_,h,_=>by simp at h
 | p::P,w::vs,0,m,nd,h1,h2,hk=>by
  simp at h1 h2;subst h1;subst h2
  show Om kindOf ((p,w)::P.zip vs) m p=_
  unfold Om
  rw[lT fun v hv=>(D_.mp nd).1 (Jd hv).1,if_pos hk]
  simp
 | p::P,w::vs,i + 1,m,nd,h1,h2,hk=>by
  show Om kindOf ((p,w)::P.zip vs) m x=_
  unfold Om
  exact lW (i:=i) (D_.mp nd).2 (by simpa using h1) (by simpa using h2) hk
theorem lP{kindOf:Str->Option Me}{x:Str}{v:Kj}:∀ {P:List Str} {vs:List Kj} {i:Nat} {m:Str->Option Kj},P.Nodup->P[i]?=some x->vs[i]?=some v->kindOf x≠some .local->
  Oo kindOf (P.zip vs) m x=some v
 | [],_,_,_,_,h,_,_=>by simp at h
 | _::_,[],_,_,_,_,h,_=>by simp at h
 | p::P,w::vs,0,m,nd,h1,h2,hk=>by
  simp at h1 h2;subst h1;subst h2
  show Oo kindOf ((p,w)::P.zip vs) m p=_
  unfold Oo
  rw[lL fun v hv=>(D_.mp nd).1 (Jd hv).1,if_neg hk]
  simp
 | p::P,w::vs,i + 1,m,nd,h1,h2,hk=>by
  show Oo kindOf ((p,w)::P.zip vs) m x=_
  unfold Oo
  exact lP (i:=i) (D_.mp nd).2 (by simpa using h1) (by simpa using h2) hk
def start(N:List Str)(vs:List V):St:=vs.map some++s_ (N.length - vs.length) none
noncomputable def qm(CX:CXT)(P:Kz)(w:KD)(K:Kk)(mg:Str->Option Kj)(base:KH)(N:List Str)(qual:Str)(scope:Lp)(f:Kl)(cd:Kj)(A:KN)(outer:List Env)(s:Km)(H:Hp)(E:XK):Cx where
 prog:=P
 w:=w
 K:=K
 mg:=mg
 base:=base
 A:=A.deeper (Na qual scope s.heap.objs.size f cd)
 N:=N
 s₀:=s
 H₀:=H
 env:=Na qual scope s.heap.objs.size f cd
 outer:=outer
 stack:=Na qual scope s.heap.objs.size f cd::outer
 ex:=[]
 calm:=true
 fn:=fun _=>true
 pn:=[]
 xe:=fun e s'=>Kr (Kw P w) (A.deeper (Na qual scope s.heap.objs.size f cd)) (leaving (Na qual scope s.heap.objs.size f cd) e) (fun _ s''=>CX outer H s E e s'') (fun e' s''=>CX outer H s E e' s'') s'
theorem oq{sc:Lp}{n:Nat}{x:Str}(h:sc.names.lookup x=some .cell):∃ c,(Qt n sc.names []).lookup x=some c:=by
 have q:=N4 sc.names n [] (.inl h)
 exact Option.isSome_iff_exists.mp q
theorem uD{CX:CXT}{P:Kz}{w:KD}{K:Kk}{mg:Str->Option Kj}{base:KH}{N ps:List Str}{qual:Str}{scope:Lp}{f:Kl}{cd:Kj}{A:KN}{outer:List Env}{s s1:Km}{H:Hp}{E:XK}{us:List Kj}{vs:List V}
  (S:FnScope N ps scope) (hd:A.handled=none) (e0:Env0 P w K mg base A outer s H) (hl:vs.length=ps.length) (r:Vals vs us)
  (x:InCallC s s.heap.objs.size (Om (Na qual scope s.heap.objs.size f cd).kindOf (ps.zip us) fun _=>none) (Qt (s.heap.objs.size + 1) scope.names []) (Oo (Na qual scope s.heap.objs.size f cd).kindOf (ps.zip us) fun _=>none) s1) :
  Inv (qm CX P w K mg base N qual scope f cd A outer s H E) [] (start N vs) H s1:=by
 have hpl:ps.length<=N.length:=by have:=congrArg Hu S.pre;rw[FO]at this;lia
 obtain⟨h1,tk,rfl,hk⟩:=x.done
 have noA:∀ b:Kl,b ∉ (qm CX P w K mg base N qual scope f cd A outer s H E).ex:=fun b z=>absurd (show b∈([]:List Kl)from z) (by simp)
 refine⟨⟨e0.mod,S.kind,rfl,rfl,e_ _,fun y z c h1 h2=>?_,fun y hy=>?_,fun y c _ h=>?_,fun _=>hd,Around.frames_deeper e0.frames,.inr ⟨rfl,rfl⟩,fun b z=>absurd z (noA b),e0.bs,e0.bsz,fun b _ _=>noA b,fun b z=>absurd z (noA b),e0.kU,e0.frf⟩,
  rfl,e0.bare,Un.kept hk,⟨_,x.toInCall.ns,fun i y v h1 h2 h3=>?_⟩,fun y c h=>⟨_,x.cell y c h⟩,e0.hok.fresh (e_ _),fun y c h=>?_,fun p hp=>absurd (show p∈([]:List (Kl × Obj))from hp) (by simp),e0.hok.kept hk,?_⟩
 ·exact name_of_addr x.apart (LK h1) (LK h2)
 ·have hy:scope.names.lookup y=some .cell\/scope.names.lookup y=some .free:=hy
  rcases hy with hy | hy
  ·exact oq hy
  exact absurd rfl (S.nofree _ (LK hy))
 ·exact FK (x.above y c (LK h))
 ·have hi:i < vs.length:=by
   unfold start at h2
   by_cases hi:i < vs.length
   ·exact hi
   rw[Gf (by simpa using hi)]at h2
   rw[List.getElem?_replicate]at h2
   split at h2 <;> cases h2
  have ha:vs[i]?=some v:=by
   unfold start at h2
   rw[Gq (by simpa using hi),A']at h2
   cases e:vs[i]? with
   | none=>rw[e]at h2;cases h2
   | some a=>rw[e]at h2;cases h2;rfl
  obtain⟨u,hu,rv⟩:=r.get ha
  have hp:ps[i]?=some y:=by
   rw[<-S.pre,HJ (by lia)];exact h1
  have ndP:ps.Nodup:=by rw[<-S.pre];exact S.nd.sublist (Hb _ _)
  refine⟨u,rv,?_⟩
  rcases S.par y (C_ hp)with k | k
  ·exact .inl ⟨k,lW ndP hp hu k⟩
  obtain⟨c,e⟩:=oq (n:=s.heap.objs.size + 1) k
  refine .inr ⟨.inl k,c,e,?_⟩
  have q:=x.cell y c e
  rw[lP ndP hp hu (by show scope.names.lookup y≠_;rw[k];decide)]at q
  exact q
 ·exact e0.hok.fresh (FK (x.above y c (LK h)))
 unfold start
 show _=N.length
 rw[h_,a_,Hf]
 lia
theorem EK{CX:CXT}{P:Kz}{w:KD}{K:Kk}{mg:Str->Option Kj}{base:KH}{k:Nat}{f:Kl}{name qual:Str}{params:Arguments}{body:List K8}{scope:Lp}{dV kV doc pm cdv ct oc:Kj}{an od:Option Kl}
  {osl:Array (Option Kj)} {N ps:List Str} {sp:Sp} (lk:K.lookup f=some ⟨oc,od,.func (LY name qual params body scope dV kV doc pm an cdv ct),osl⟩) (hcd:Ng K cdv qual=true) (S:FnScope N ps scope)
  (len:∀ vs H Q E,sp vs H Q E->vs.length=ps.length)
  (hbody:∀(A:KN) (outer:List Env) (s:Km) (H:Hp) (vs:List V) (Q:VK) (E:XK),Room k (A.deeper (Na qual scope s.heap.objs.size f cdv))->sp vs H Q E->
   ∃ t,PSs (qm CX P w K mg base N qual scope f cdv A outer s H E) body t/\t { nx:=fun _ H'=>Q .non H',rt:=Q } (start N vs) H) :
  FnOk P w K mg base CX (k + 1) f (LY name qual params body scope dV kV doc pm an cdv ct) ps sp:=by
 refine⟨len,fun A outer s H args us vs Q E hr e0 hb r hsp=>?_⟩
 have hl:=len _ _ _ _ hsp
 have KX:K.In s.heap:=e0.mod.kin.keeps fun b o e=>(e0.bs b o e).1
 have lim:s.heap.NoLimit:=e0.mod.nolimit.keeps fun b o e=>(e0.bs b o e).1
 have hkind:∀ y∈ps.zip us,scope.names.lookup y.1=some .local\/(scope.names.lookup y.1=some .cell/\((Qt (s.heap.objs.size + 1) scope.names []).lookup y.1).isSome=true):=fun⟨n,v⟩ hy=>by
  rcases S.par n (Jd hy).1 with q | q
  ·exact .inl q
  exact .inr ⟨q,N4 _ _ _ (.inl q)⟩
 refine codeAny_call_function hr.depth (KX _ _ lk) rfl S.co S.gen rfl (PySem.W.codeRec_of KX hcd) (hb _ _ _ _ ?_)
 refine wpAny_newFunctionEnv_cells S.kind hkind fun env he s1 x=>?_
 subst he
 refine⟨lim.keeps x.toInCall.keep,codeAny_func ?_⟩
 obtain⟨t,ht,hq⟩:=hbody A outer s H vs Q E (hr.deeper _) hsp
 have I:Inv (qm CX P w K mg base N qual scope f cdv A outer s H E) [] (start N vs) H s1:=uD S hr.hd e0 hl r x
 refine KW (ht [] s1 (start N vs) H _ I hq) (fun fl s' hs=>?_) fun e s' hs=>hs
 have fin:∀ {σ':St} {H':Hp} {v:V} {u:Kj},Inv (qm CX P w K mg base N qual scope f cdv A outer s H E) [] σ' H' s'->RelV v u->Q v H'->CE outer P w H s Q u s':=
  fun{σ' H' v u} J rv q=>⟨v,H',J.os,J.bare,J.base,J.hok,rv,q⟩
 cases fl with
 | ret u=>
  obtain⟨v,σ',H',J,rv,q⟩:=hs
  exact fin J rv q
 | next=>
  obtain⟨σ',H',J,q⟩:=hs
  exact fin (v:=V.non) (u:=K') J rfl q
 | brk=>
  obtain⟨_,_,_,q⟩:=hs
  exact KJ q
 | cont=>
  obtain⟨_,_,_,q⟩:=hs
  exact KJ q
section
variable{X:Cx}{x:Str}{p pos:Pos}{e:KC}{es:List KC}{t:TA}{id T:String}{r:List V->Hp->VK->Prop}
def tCB(r:List V->Hp->VK->Prop)(t:TA):TE:=fun σ H Q=>t σ H fun vs H1=>r vs H1 Q
theorem aI(hc:bG X (.builtin id) r)(hg:Gl X x)(hm:X.mg x=none)(hv:Mb x=some (.builtin id))(ha:PA X (e::es) t)(hn:x≠"__name__":=by decide)(hdb:(x ==("__debug__":Str))=false:=by decide)
  (he:KG (e::es) X.env=(false,KR e X.env)::KG es X.env:=by rfl) (hpl:(Mc pos (KG es X.env)).any (·.1)=false:=by rfl):PE X (.Call (.Name x p) (e::es) [] pos) (tCB r t):=by
 intro pins s σ H Q I h
 refine Lz (bQ I hg hm hv ?_ hn hdb)
 exact PQ (thn (ha pos pins s σ H _ I h) fun us s1 ⟨vs,H1,I1,r1,q1⟩=>hc pins s1 σ H1 vs us Q I1 r1 q1) he hpl
theorem lJ(hc:bG X (.type T) r)(hg:Gl X x)(hm:X.mg x=none)(hv:Mb x=some (.type T))(ha:PA X (e::es) t)(hn:x≠"__name__":=by decide)(hdb:(x ==("__debug__":Str))=false:=by decide)
  (he:KG (e::es) X.env=(false,KR e X.env)::KG es X.env:=by rfl) (hpl:(Mc pos (KG es X.env)).any (·.1)=false:=by rfl):PE X (.Call (.Name x p) (e::es) [] pos) (tCB r t):=by
 intro pins s σ H Q I h
 refine Lz (bQ I hg hm hv ?_ hn hdb)
 exact LX (thn (ha pos pins s σ H _ I h) fun us s1 ⟨vs,H1,I1,r1,q1⟩=>hc pins s1 σ H1 vs us Q I1 r1 q1) he hpl
end
end L2
namespace HT
open PySem PyProof.Rows
section
variable{prog:Kz}{w:KD}{A:KN}{E:Kj->Km->Prop}{s:Km}
theorem yk{t b:Kl}{vs ws:List Kj}{Q:Kj->Km->Prop}(ht:RV s.heap t vs.toArray)(hb:RV s.heap b ws.toArray)(hv:vs≠[])
  (h1:ws=[]->Q (.ref t) s) (h2:ws≠[]->Q (.ref s.heap.objs.size) { s with heap:=s.heap.push { cls:=.type "tuple",data:=.seq (vs++ws).toArray } })
  (hsz:vs.length + ws.length<=sizeLine):Kr (Kw prog w) A (Lf .Add (.ref t) (.ref b)) Q E s:=by
 obtain⟨⟨cls,dd,data,sl⟩,ho,hc,n,hd⟩:=id ht
 obtain⟨⟨cls2,dd2,data2,sl2⟩,ho2,hc2,n2,hd2⟩:=id hb
 simp only at hc hd hc2 hd2
 subst hc hd hc2 hd2
 have e:vs.toArray++ws.toArray=(vs++ws).toArray:=by simp
 by_cases hw:ws=[]
 ·exact OQ ⟨_,ho,rfl⟩ ⟨_,ho2,rfl⟩ NL OB M0 MU (MF _ _)
   (tuple_addW1 t b vs.toArray ws.toArray n n2 dd dd2 sl sl2 (by simpa using hv) (by simp[hw])) ⟨ho,ho2,h1 hw⟩
 refine OQ ⟨_,ho,rfl⟩ ⟨_,ho2,rfl⟩ NL OB M0 MU (MF _ _)
  (tuple_addW2 t b vs.toArray ws.toArray n n2 dd dd2 sl sl2 (by simpa using hv) (by simpa using hw) (by rw[l_,l_];exact hsz)) ⟨ho,ho2,?_⟩
 rw[e]
 exact h2 hw
def sIx(n d:Nat):Option Int->Nat
 | none=>d
 | some v=>if v < 0 then(v + (n:Int)).toNat else min v.toNat n
end
end HT
namespace L2
open PySem PySem.Spec PyProof.Rows
abbrev TO:=St->Hp->(Option Int->Hp->Prop)->Prop
noncomputable def PO(X:Cx)(e:Option KC)(t:TO):Prop:=
 ∀(pins:List (Kl × Obj)) (s:Km) (σ:St) (H:Hp) (Q:Option Int->Hp->Prop),Inv X pins σ H s->t σ H Q->
  Kr (Kw X.prog X.w) X.A (evalPart e X.env) (fun u s'=>∃ o H',Inv X pins σ H' s'/\IsPart u o/\Q o H') X.xe s
def yX:TO:=fun _ H Q=>Q none H
def Ez(t:TE):TO:=fun σ H Q=>t σ H fun x H1=>∃ i,x=.int i/\Q (some i) H1
theorem intsAre_of{ns:List Int}:∀ {us:List Kj},Vals (ns.map V.int) us->IntsAre us ns:=by
 induction ns with
 | nil=>intro us r;rw[Hg]at r;cases r;exact .nil
 | cons n ns ih=>
  intro us r
  rw[g_]at r
  cases r with
  | cons r1 r2=>
   obtain⟨t,e⟩:=r1
   subst e
   exact .cons n t (ih r2)
section
variable{X:Cx}{e:KC}{te:TE}{lo hi:Option KC}{tl th:TO}{pos p2:Pos}
theorem zF:PO X none yX:=by
 intro pins s σ H Q I h
 rw[QD]
 exact Ko ⟨none,H,I,.none,h⟩
theorem zd(h:PE X e te):PO X (some e) (Ez te):=by
 intro pins s σ H Q I hw
 rw[evalPart_some]
 refine thn (h pins s σ H _ I hw) ?_
 rintro u s1 ⟨x,H1,I1,r1,q1⟩
 obtain⟨i,rfl,q⟩:=q1
 obtain⟨t,rfl⟩:=r1
 exact⟨some i,H1,I1,.int i t,q⟩
noncomputable def SlR(X:Cx)(r:V->Option Int->Option Int->Hp->VK->Prop):Prop:=
 ∀(pins:List (Kl × Obj)) (s:Km) (σ:St) (H:Hp) (x:V) (v vl vu:Kj) (lo hi:Option Int) (sl:Kl) (Q:VK),Inv X pins σ H s->RelV x v->s.heap.IsSliceOf sl vl vu .none->IsPart vl lo->IsPart vu hi->r x lo hi H Q->
  ∃ T id,typeLookup (.type T) "__getitem__"=pure (some (.builtin id))/\s.TypeIs v T/\Kr (Kw X.prog X.w) X.A (Ob v (.ref sl)) (EP X pins σ Q) X.xe s
noncomputable def tSl(r:V->Option Int->Option Int->Hp->VK->Prop)(te:TE)(tl th:TO):TE:=fun σ H Q=>te σ H fun x H1=>tl σ H1 fun l H2=>th σ H2 fun u H3=>r x l u H3 Q
theorem y1{r:V->Option Int->Option Int->Hp->VK->Prop}(hr:SlR X r)(he:PE X e te)(hl:PO X lo tl)(hu:PO X hi th):PE X (.Subscript e (.Slice lo hi none p2) pos) (tSl r te tl th):=by
 intro pins s σ H Q I h
 refine PR (thn (he pins s σ H _ I h) ?_)
 rintro v s1 ⟨x,H1,I1,r1,q1⟩
 refine wpAny_Slice (thn (hl pins s1 σ H1 _ I1 q1) fun vl s2 ⟨l,H2,I2,pl,q2⟩=>thn (hu pins s2 σ H2 _ I2 q2) ?_)
 rintro vu s3 ⟨u,H3,I3,pu,q3⟩
 rw[QD]
 refine Ko ?_
 have I4:Inv X pins σ H3 { s3 with heap:=s3.heap.push { cls:=.type "slice",data:=.fields #[vl,vu,.none] } }:=I3.kept (t':=s3.toks) fun b ob q=>Kn _ q
 obtain⟨T,id,hT,ht,hg⟩:=hr pins { s3 with heap:=s3.heap.push { cls:=.type "slice",data:=.fields #[vl,vu,.none] } } σ H3 x v vl vu l u s3.heap.objs.size Q I4 r1 (R' ..) pl pu q3
 show Kr (Kw X.prog X.w) X.A (M5 e (.Slice lo hi none p2) v (.ref s3.heap.objs.size)) (EP X pins σ Q) X.xe { s3 with heap:=s3.heap.push { cls:=.type "slice",data:=.fields #[vl,vu,.none] } }
 exact tail_any (ops:=[.ref s3.heap.objs.size,v]) ht hT hg (by with_unfolding_all rfl)
noncomputable def l7(xs:List V)(lo hi:Option Int):List V:=(xs.drop (HT.sIx xs.length 0 lo)).take (HT.sIx xs.length xs.length hi - HT.sIx xs.length 0 lo)
theorem oC(xs:List V)(lo hi:Option Int):(l7 xs lo hi).length<=xs.length:=by
 unfold l7
 rw[FO,FU]
 lia
noncomputable def EO(K:Kk):R2:=fun x y H Q=>∃ a b xs ys,x=.ref a/\y=.ref b/\SqT K H a xs/\SqT K H b ys/\xs≠[]/\xs.length + ys.length<=sizeLine/\
 (ys=[]->Q (.ref a) H)/\(ys≠[]->∀ p,H p=none->Q (.ref p) (upd H p (.tup (xs++ys))))
theorem Vals.mE {xs:List V}{us:List Kj}(r:Vals xs us):us=[]↔xs=[]:=by
 cases r with
 | nil=>simp
 | cons _ _=>simp
theorem yJ:OpR X (Lf .Add) (EO X.K):=by
 intro pins s σ H x y v u Q I rx ry h
 obtain⟨a,b,xs,ys,rfl,rfl,ha,hb,hx,hz,q1,q2⟩:=h
 cases rx
 cases ry
 obtain⟨its,r1,p1,_⟩:=I.tuple ha
 obtain⟨its2,r2,p2,_⟩:=I.tuple hb
 refine HT.yk p1 p2 (fun z=>hx (r1.mE.mp z)) (fun z=>⟨.ref a,H,I,rfl,q1 (r2.mE.mp z)⟩) (fun z=>?_) (by rw[<-r1.length,<-r2.length];exact hz)
 refine⟨.ref s.heap.objs.size,_,I.laid (t':=s.toks) (o:=.tup (xs++ys)) (fun b ob q=>Kn _ q) (e_ _) ?_,rfl,q2 (fun w=>z (r2.mE.mpr w)) _ (I.hok.fresh (e_ _))⟩
 exact⟨by rw[h_];exact hz,_,r1.append r2,Sd _ _⟩
theorem je:bG X (.type "tuple") (fun xs H Q=>∃ a ys,xs=[.ref a]/\SqT X.K H a ys/\Q (.ref a) H):=by
 intro pins s σ H xs us Q I r h
 obtain⟨a,ys,rfl,ha,q⟩:=h
 obtain⟨u,rfl,ru⟩:=vals1 r
 cases ru
 obtain⟨its,_,p1,_⟩:=I.tuple ha
 exact PU (items:=its.toArray) p1 ⟨.ref a,H,I,rfl,q⟩
end
noncomputable def ixN(n:Nat)(i:Int):Option Nat:=if 0<=i then(if i < n then some i.toNat else none)else if -(n:Int)<=i then some (i + n).toNat else none
def atI{α:Type}(xs:List α)(i:Int):Option α:=(ixN xs.length i).bind fun j=>xs[j]?
theorem ny{n:Nat}{i:Int}{j:Nat}(h:ixN n i=some j):Qu i n=some j/\j < n/\-(n:Int)<=i/\i < n:=by
 unfold ixN at h
 by_cases h0:0<=i
 ·rw[if_pos h0]at h
  by_cases h1:i < n
  ·rw[if_pos h1]at h
   have e:i.toNat=j:=D' h
   exact⟨by rw[Pc h0 h1,e],by lia,by lia,h1⟩
  rw[if_neg h1]at h;cases h
 rw[if_neg h0]at h
 by_cases h1:-(n:Int)<=i
 ·rw[if_pos h1]at h
  have e:(i + n).toNat=j:=D' h
  exact⟨by rw[OR (by lia) h1,e],by lia,h1,by lia⟩
 rw[if_neg h1]at h;cases h
theorem mR{α:Type}{xs:List α}{i:Int}{v:α}(h:atI xs i=some v):∃ j,Qu i xs.length=some j/\xs[j]?=some v/\j < xs.length/\-(xs.length:Int)<=i/\i < xs.length:=by
 unfold atI at h
 cases e:ixN xs.length i with
 | none=>rw[e]at h;cases h
 | some j=>
  rw[e]at h
  obtain⟨h1,h2,h3,h4⟩:=ny e
  exact⟨j,h1,h,h2,h3,h4⟩
theorem nK{α:Type}{xs:List α}{j:Nat}{v:α}(h:xs[j]?=some v):atI xs (j:Int)=some v:=by
 have hj:j < xs.length:=(c_.mp h).1
 have e:ixN xs.length (j:Int)=some j:=by
  unfold ixN
  rw[if_pos (by lia),if_pos (by lia)];simp
 unfold atI;rw[e];exact h
def jv(b:KC):Prop:=∀ o i,Nj b false o i=RU [o,i] (Ob o i)
noncomputable def IxR(X:Cx)(r:R2):Prop:=
 ∀(value slice:KC) (pins:List (Kl × Obj)) (s:Km) (σ:St) (H:Hp) (x y:V) (v u:Kj) (Q:VK),Inv X pins σ H s->RelV x v->RelV y u->r x y H Q->
  Nj slice false v u=RU [v,u] (Ob v u)->Kr (Kw X.prog X.w) X.A (M5 value slice v u) (EP X pins σ Q) X.xe s
noncomputable def MtR(X:Cx)(id:String)(r:V->List V->Hp->VK->Prop):Prop:=
 ∀(pins:List (Kl × Obj)) (s:Km) (σ:St) (H:Hp) (x:V) (xs:List V) (v:Kj) (us:List Kj) (Q:VK),Inv X pins σ H s->RelV x v->Vals xs us->r x xs H Q->
  Kr (Kw X.prog X.w) X.A (call (.builtin id) (v::us)) (EP X pins σ Q) X.xe s
section
variable{X:Cx}{a b:KC}{ta tb:TE}{pos:Pos}
theorem IxR.or {r r':R2}(h:IxR X r)(h':IxR X r'):IxR X (fun x y H Q=>r x y H Q\/r' x y H Q):=by
 intro value slice pins s σ H x y v u Q I rx ry q hs
 rcases q with q | q
 ·exact h value slice pins s σ H x y v u Q I rx ry q hs
 exact h' value slice pins s σ H x y v u Q I rx ry q hs
theorem sk{r:R2}(hr:IxR X r)(ha:PE X a ta)(hb:PE X b tb)(hs:jv b):PE X (.Subscript a b pos) (tOp r ta tb):=by
 intro pins s σ H Q I h
 exact PR (C5 ha hb I h fun v u s2 x y H2 I2 rx ry q=>hr a b pins s2 σ H2 x y v u Q I2 rx ry q (hs _ _))
def F0(K:Kk):R2:=fun x y H Q=>∃ p xs i v,x=.ref p/\y=.int i/\SqL K H p xs/\atI xs i=some v/\Q v H
def Bw(K:Kk):R2:=fun x y H Q=>∃ p xs i v,x=.ref p/\y=.int i/\SqT K H p xs/\atI xs i=some v/\Q v H
noncomputable def DA:R2:=fun x y H Q=>∃ z i c,x=.str z/\y=.int i/\z.length<=sizeLine/\atI z.cps.toList i=some c/\Q (.str ⟨#[c]⟩) H
theorem tD:IxR X (F0 X.K):=by
 intro value slice pins s σ H x y v u Q I rx ry h hs
 obtain⟨p,xs,i,z,rfl,rfl,hq,he,q⟩:=h
 cases rx
 obtain⟨t,rfl⟩:=ry
 obtain⟨its,r,pl,hz⟩:=I.list hq
 obtain⟨j,h1,h2,h3,h4,h5⟩:=mR he
 obtain⟨w,ew,rw'⟩:=r.get h2
 have hl:=r.length
 have hn:=fg
 have fin:EP X pins σ Q w s:=⟨z,H,I,rw',q⟩
 by_cases h0:0<=i
 ·have hj:i.toNat=j:=by
   rw[Pc h0 h5]at h1
   exact D' h1
  exact item_listR pl.isList h0 (by lia) (by rw[hj];simpa using ew) fin hs
 have hj:(i + (its.toArray.size:Int)).toNat=j:=by
  rw[OR (by lia) h4]at h1
  rw[l_,<-hl]
  exact D' h1
 exact N5 (x:=w) pl.isList.typeIs slot_list_getitem.lookup
  (wpAny_getItem_list_neg (Q:=fun r s'=>r=w/\EP X pins σ Q r s') pl.isList (by lia) (by rw[l_] <;> lia) (by lia) (by rw[hj];simpa using ew) ⟨rfl,fin⟩) hs
theorem qD:IxR X (Bw X.K):=by
 intro value slice pins s σ H x y v u Q I rx ry h hs
 obtain⟨p,xs,i,z,rfl,rfl,hq,he,q⟩:=h
 cases rx
 obtain⟨t,rfl⟩:=ry
 obtain⟨its,r,pl,hz⟩:=I.tuple hq
 obtain⟨j,h1,h2,h3,h4,h5⟩:=mR he
 obtain⟨w,ew,rw'⟩:=r.get h2
 have hl:=r.length
 have hn:=fg
 have fin:EP X pins σ Q w s:=⟨z,H,I,rw',q⟩
 exact N5 (x:=w) pl.typeIs slot_tuple_getitem.lookup
  (getItem_tuple (j:=j) (Q:=fun r s'=>r=w/\EP X pins σ Q r s') pl (by lia) (by lia) (by rw[l_,<-hl];exact h1) (by simpa using ew) ⟨rfl,fin⟩) hs
theorem vA:IxR X DA:=by
 intro value slice pins s σ H x y v u Q I rx ry h hs
 obtain⟨z,i,c,rfl,rfl,hz,he,q⟩:=h
 obtain⟨t,rfl⟩:=rx
 obtain⟨t',rfl⟩:=ry
 obtain⟨j,h1,h2,h3,h4,h5⟩:=mR he
 have hl:z.cps.toList.length=z.length:=by simp[Str.length]
 rw[hl]at h1 h4 h5
 have hn:=fg
 exact tail_any (typeIs_str s z t) slot_str_getitem.lookup (getItem_str (c:=c) (by
  have e1:decide (i < -(2 ^ 63:Int))=false:=decide_eq_false (by lia)
  have e2:decide (i>=2 ^ 63)=false:=decide_eq_false (by lia)
  rw[e1,e2,J0]) (by rw[h1];simpa using h2) ⟨.str ⟨#[c]⟩,H,I.tok _,⟨_,rfl⟩,q⟩) hs
def rIx(K:Kk):R2:=fun x y H Q=>F0 K x y H Q\/Bw K x y H Q\/DA x y H Q
theorem Br:IxR X (rIx X.K):=tD.or (qD.or vA)
theorem qU(its:List Kj)(n j:Nat)(u:Kj):LB (·.setIfInBounds j u) { cls:=.type "list",data:=.seq its.toArray n }={ cls:=.type "list",data:=.seq (its.set j u).toArray n }:=by
 simp[LB]
theorem Inv.lst {pins:List (Kl × Obj)}{σ:St}{H:Hp}{s:Km}{p:Kl}{xs:List V}(I:Inv X pins σ H s)(h:H p=some (.lst xs)) :
  ∃(its:List Kj) (n:Nat),Vals xs its/\s.heap.get? p=some { cls:=.type "list",data:=.seq its.toArray n }/\xs.length<=sizeLine:=by
 obtain⟨z,its,n,r,e⟩:=I.hok p _ h
 exact⟨its,n,r,e,z⟩
theorem Inv.Bl {pins:List (Kl × Obj)}{σ:St}{H:Hp}{s:Km}{p:Kl}{xs ys:List V}{its its':List Kj}{n n':Nat}{f:Obj->Obj}(I:Inv X pins σ H s)(h:H p=some (.lst xs))
  (ho:s.heap.get? p=some { cls:=.type "list",data:=.seq its.toArray n }) (hf:f { cls:=.type "list",data:=.seq its.toArray n }={ cls:=.type "list",data:=.seq its'.toArray n' }) (r:Vals ys its') (hz:ys.length<=sizeLine) (t:Nat) :
  Inv X pins σ (upd H p (.lst ys)) { s with heap:=s.heap.update p f,toks:=t }:=by
 have e:(s.heap.update p f).get? p=some { cls:=.type "list",data:=.seq its'.toArray n' }:=by
  rw[K6 f ho (by rw[hf] <;> rfl),hf]
 refine I.write (x:=p) (e:=p) (by rw[h];trivial) (.inl rfl) (fun b u hb q=>(KS _ _ (LJ hb)).trans q) ⟨_,e⟩ ?_
 exact⟨hz,its',n',r,e⟩
noncomputable def EZ:V->V->V->Hp->(Hp->Prop)->Prop:=fun o i v H Q=>∃ p xs k j,o=.ref p/\i=.int k/\H p=some (.lst xs)/\ixN xs.length k=some j/\Q (upd H p (.lst (xs.set j v)))
theorem set_list:rJ X EZ:=by
 intro pins s σ H o i v ov iv u Q I ro ri rv h
 obtain⟨p,xs,k,j,rfl,rfl,hp,hj,q⟩:=h
 cases ro
 obtain⟨t,rfl⟩:=ri
 obtain⟨its,n,r,ho,hz⟩:=I.lst hp
 obtain⟨h1,h2,h3,h4⟩:=ny hj
 have hl:=r.length
 have hn:=fg
 have I':Inv X pins σ (upd H p (.lst (xs.set j v))) { s with heap:=s.heap.update p (LB (·.setIfInBounds j u)) }:=
  I.Bl hp ho (qU its n j u) (r.set rv j) (by rw[FJ];exact hz) s.toks
 by_cases h0:0<=k
 ·have hk:k.toNat=j:=by
   rw[Pc h0 h4]at h1
   exact D' h1
  exact PySem.W.ki_setAt ho h0 (by lia) (by rw[l_,<-hl];exact h4) (by rw[hk];exact⟨_,I',q⟩)
 have hk:(k + (its.toArray.size:Int)).toNat=j:=by
  rw[OR (by lia) h3]at h1
  rw[l_,<-hl]
  exact D' h1
 exact PySem.W.ki_setBack ho (by lia) (by rw[l_,<-hl];exact h3) (by lia) (by rw[hk];exact⟨_,I',q⟩)
theorem n8(lo hi:Option Int)(n:Nat):(MB lo hi none n).1=((HT.sIx n 0 lo:Nat):Int)/\(MB lo hi none n).2.1=((HT.sIx n n hi:Nat):Int)/\(MB lo hi none n).2.2=1:=by
 refine⟨?_,?_,rfl⟩
 ·cases lo with
  | none=>simp[MB,HT.sIx]
  | some i=>
   simp only[MB,HT.sIx,JK,show(1:Int) > 0 by decide,if_true]
   by_cases h:i < 0
   ·simp only[h,if_true] <;> lia
   simp only[h,if_false] <;> lia
 cases hi with
 | none=>simp[MB,HT.sIx]
 | some i=>
  simp only[MB,HT.sIx,JK,show(1:Int) > 0 by decide,if_true]
  by_cases h:i < 0
  ·simp only[h,if_true] <;> lia
  simp only[h,if_false] <;> lia
theorem kZ(its:List Kj)(lo hi:Option Int):slicePick its.toArray lo hi none=((its.drop (HT.sIx its.length 0 lo)).take (HT.sIx its.length its.length hi - HT.sIx its.length 0 lo)).toArray:=by
 obtain⟨h1,h2,h3⟩:=n8 lo hi its.toArray.size
 unfold slicePick
 rw[h1,h2,h3]
 simp only[sliceRange_one,pick_run,l_] <;> rfl
noncomputable def Fo(K:Kk):V->Option Int->Option Int->Hp->VK->Prop:=fun x lo hi H Q=>∃ a xs,x=.ref a/\SqL K H a xs/\∀ p,H p=none->Q (.ref p) (upd H p (.lst (l7 xs lo hi)))
theorem A4:SlR X (Fo X.K):=by
 intro pins s σ H x v vl vu lo hi sl Q I rx hs pl pu h
 obtain⟨a,xs,rfl,hx,q⟩:=h
 cases rx
 obtain⟨its,r,ht,hz⟩:=I.list hx
 have hlen:=r.length
 refine⟨"list",_,slot_list_getitem.lookup,ht.isList.typeIs,?_⟩
 refine wpAny_getItem_list_slice ht.isList hs pl pu .none (by simp) ?_ (by rw[l_] <;> lia)
 rw[kZ,<-hlen]
 refine⟨.ref s.heap.objs.size,_,I.laid (t':=s.toks) (o:=.lst (l7 xs lo hi)) (fun b ob q=>Kn _ q) (e_ _) ?_,rfl,q _ (I.hok.fresh (e_ _))⟩
 exact⟨n_ (oC xs lo hi) hz,_,0,(r.drop (HT.sIx xs.length 0 lo)).take (HT.sIx xs.length xs.length hi - HT.sIx xs.length 0 lo),Kt _ rfl⟩
theorem nW:OpR X (K4 .NotIn) (fun x y H Q=>∃ i j,x=.str i/\y=.str j/\Q (.bl (!(!(MT j i 0 j.length 1).isEmpty))) H):=by
 intro pins s σ H x y v u Q I rx ry h
 obtain⟨i,j,rfl,rfl,q⟩:=h
 obtain⟨t,rfl⟩:=rx
 obtain⟨t',rfl⟩:=ry
 exact notIn_str ⟨.bl _,H,I,rfl,q⟩
theorem bV:bG X (.builtin "len") (fun xs H Q=>∃ p ys,xs=[.ref p]/\(SqL X.K H p ys\/SqT X.K H p ys)/\Q (.int ys.length) H):=by
 intro pins s σ H xs us Q I r h
 obtain⟨p,ys,rfl,hq,q⟩:=h
 obtain⟨u,rfl,rx⟩:=vals1 r
 cases rx
 have hn:=fg
 rcases hq with hq | hq
 ·obtain⟨its,r',pl,hz⟩:=I.list hq
  have hlen:=r'.length
  exact Calls.call_len_list pl.isList (by simp only[l_] <;> lia) ⟨.int ys.length,H,I.tok _,⟨s.toks + 1,by rw[l_,hlen]⟩,q⟩
 obtain⟨its,r',pl,hz⟩:=I.tuple hq
 have hlen:=r'.length
 exact len_tuple pl (by simp only[l_] <;> lia) ⟨.int ys.length,H,I.tok _,⟨s.toks + 1,by rw[l_,hlen]⟩,q⟩
theorem mx:bG X (.builtin "len") (fun xs H Q=>∃ z,xs=[.str z]/\z.length<=sizeLine/\Q (.int z.length) H):=by
 intro pins s σ H xs us Q I r h
 obtain⟨z,rfl,hz,q⟩:=h
 obtain⟨u,rfl,t,rfl⟩:=vals1 r
 have hn:=fg
 exact len_str (by lia) ⟨.int z.length,H,I.tok _,⟨_,rfl⟩,q⟩
theorem fI:bG X (.type "list") (fun xs H Q=>∃ p ys,xs=[.ref p]/\(SqL X.K H p ys\/SqT X.K H p ys)/\∀ l,H l=none->Q (.ref l) (upd H l (.lst ys))):=by
 intro pins s σ H xs us Q I r h
 obtain⟨p,ys,rfl,hq,q⟩:=h
 obtain⟨u,rfl,rx⟩:=vals1 r
 cases rx
 have fin:∀(its:List Kj),Vals ys its->ys.length<=sizeLine->∀(h':KH) (c':Nat),(∀ b o',s.heap.get? b=some o'->h'.get? b=some o')->
   h'.get? s.heap.objs.size=some { cls:=.type "list",dict:=none,data:=.seq its.toArray c',slots:=#[] }->EP X pins σ Q (.ref s.heap.objs.size) { s with heap:=h' }:=fun its r' hz h' c' kp e=>
  ⟨.ref s.heap.objs.size,_,I.laid (t':=s.toks) kp (e_ _) (show aW X.prog X.w _ h' _ (.lst ys)from⟨hz,its,c',r',e⟩),rfl,q _ (I.hok.fresh (e_ _))⟩
 rcases hq with hq | hq
 ·obtain⟨its,r',pl,hz⟩:=I.list hq
  have hlen:=r'.length
  obtain⟨o,ho,hc,n,hd⟩:=pl.isList
  exact QE p (.inl rfl) ho hc hd (fun h' c' kp e=>fin its r' hz h' c' kp e) (by simp only[l_] <;> lia)
 obtain⟨its,r',pl,hz⟩:=I.tuple hq
 have hlen:=r'.length
 obtain⟨o,ho,hc,n,hd⟩:=pl
 exact QE p (.inr rfl) ho hc hd (fun h' c' kp e=>fin its r' hz h' c' kp e) (by simp only[l_] <;> lia)
theorem l9:bG X (.type "tuple") (fun xs H Q=>∃ p ys,xs=[.ref p]/\((SqL X.K H p ys/\∀ l,H l=none->Q (.ref l) (upd H l (.tup ys)))\/(SqT X.K H p ys/\Q (.ref p) H))):=by
 intro pins s σ H xs us Q I r h
 obtain⟨p,ys,rfl,h⟩:=h
 obtain⟨u,rfl,rx⟩:=vals1 r
 cases rx
 rcases h with⟨hq,q⟩ | ⟨hq,q⟩
 ·obtain⟨its,r',pl,hz⟩:=I.list hq
  have hlen:=r'.length
  refine call_tuple_list pl.isList (fun h' kp=>?_) (by simp only[l_] <;> lia)
  have I1:Inv X pins σ H { s with heap:=h' }:=I.kept (t':=s.toks) kp
  have I2:Inv X pins σ (upd H h'.objs.size (.tup ys)) { s with heap:=h'.push { cls:=.type "tuple",data:=.seq its.toArray } }:=
   I1.laid (t':=s.toks) (fun b o e=>Kn _ e) (e_ _) (show aW X.prog X.w _ _ _ (.tup ys)from⟨hz,its,r',Sd _ _⟩)
  exact⟨.ref h'.objs.size,_,I2,rfl,q _ (I1.hok.fresh (e_ _))⟩
 obtain⟨its,r',pl,hz⟩:=I.tuple hq
 exact PU pl ⟨.ref p,H,I,rfl,q⟩
noncomputable def tyV(K:Kk)(T:String)(x:V)(H:Hp):Prop:=match x with
 | .str _=>T="str"
 | .int _=>T="int"
 | .ref p=>(T="list"/\∃ xs,SqL K H p xs)\/(T="tuple"/\∃ o,K.lookup p=some o/\o.cls=.type "tuple"/\o.dict=none)\/
   (T="dict"/\((∃ kvs,H p=some (.dK kvs))\/∃ kvs,H p=some (.dT kvs)))\/(T="set"/\∃ S n,H p=some (.set S n))
 | _=>False
theorem wY{pins:List (Kl × Obj)}{σ:St}{H:Hp}{s:Km}{T:String}{x:V}{v:Kj}(I:Inv X pins σ H s)(r:RelV x v)(ty:tyV X.K T x H) :
  s.TypeIs v T/\∀ a,v=.ref a->∃ ob,s.heap.get? a=some ob/\ob.dict=none:=by
 cases x with
 | str z=>
  obtain⟨t,rfl⟩:=r
  cases (show T="str" from ty)
  exact⟨typeIs_str s z t,fun _ e=>nomatch e⟩
 | int i=>
  obtain⟨t,rfl⟩:=r
  cases (show T="int" from ty)
  exact⟨Mo s i t,fun _ e=>nomatch e⟩
 | ref p=>
  cases r
  rcases ty with⟨rfl,xs,hq⟩ | ⟨rfl,o,hk,hc,hd⟩ | ⟨rfl,hk⟩ | ⟨rfl,S,n,hk⟩
  ·obtain⟨its,_,pl,_⟩:=I.list hq
   refine⟨pl.isList.typeIs,fun a e=>?_⟩
   cases e
   obtain⟨o,n,e,c,hd,_⟩:=pl
   exact⟨o,e,hd⟩
  ·refine⟨⟨o,I.kIn p o hk,hc⟩,fun a e=>?_⟩
   cases e
   exact⟨o,I.kIn _ o hk,hd⟩
  ·have z:∃ o,s.heap.get? p=some o/\o.ExactDict:=by
    rcases hk with⟨kvs,hk⟩ | ⟨kvs,hk⟩
    ·obtain⟨_,_,_,_,o,_,_,e,ex,_⟩:=I.hok p _ hk
     exact⟨o,e,ex⟩
    obtain⟨_,_,_,_,o,_,_,e,ex,_⟩:=I.hok p _ hk
    exact⟨o,e,ex⟩
   obtain⟨o,e,ex⟩:=z
   refine⟨⟨o,e,ex.1⟩,fun a e2=>?_⟩
   cases e2
   exact⟨o,e,ex.2.1⟩
  ·obtain⟨o,_,_,_,e,ex,_⟩:=I.hok p _ hk
   refine⟨⟨o,e,ex.1⟩,fun a e2=>?_⟩
   cases e2
   exact⟨o,e,ex.2.1⟩
 | _=>exact KJ ty
def Fd(K:Kk)(T:String)(r:V->List V->Hp->VK->Prop)(to:TE):TE:=fun σ H Q=>to σ H fun x H1=>tyV K T x H1/\r x [] H1 Q
noncomputable def tBM(K:Kk)(T:String)(r:V->List V->Hp->VK->Prop)(to:TE)(t:TA):TE:=fun σ H Q=>to σ H fun x H1=>tyV K T x H1/\t σ H1 fun xs H2=>r x xs H2 Q
variable{o e:KC}{es:List KC}{to:TE}{t:TA}{name:Str}{apos cpos:Pos}{T id:String}{r:V->List V->Hp->VK->Prop}
theorem Dc(pa:PlainAttrs T)(slot:Qg T name id)(hty:PV (.builtin id)=pure (.type "method_descriptor"))(hm:MtR X id r)(ho:PE X o to)
  (hbase:M6 o name X.env (KR o X.env)=KR o X.env:=by rfl) (hline:(apos.endLine == cpos.line)=true:=by rfl):PE X (.Call (.Attribute o name apos) [] [] cpos) (Fd X.K T r to):=by
 intro pins s σ H Q I h
 refine wpAny_Call_method0_late hbase hline (thn (ho pins s σ H _ I h) ?_)
 rintro v s1 ⟨x,H1,I1,r1,ty,q1⟩
 obtain⟨h1,h2⟩:=wY I1 r1 ty
 exact⟨T,id,pa,slot,hty,h1,h2,N6 rfl (PySem.evalArgs_none (hm pins s1 σ H1 x [] v [] Q I1 r1 .nil q1))⟩
theorem AX(pa:PlainAttrs T)(slot:Qg T name id)(hty:PV (.builtin id)=pure (.type "method_descriptor"))(hm:MtR X id r)(ho:PE X o to)(ha:PA X (e::es) t)
  (hbase:M6 o name X.env (KR o X.env)=KR o X.env:=by rfl)
  (hfew:((Mc cpos (KG (e::es) X.env)).all (fun x=>!x.1) && (Rk cpos (Pe [] X.env)).all (fun x=>x.1.isSome)
   && decide ((e::es).length + ([]:List Oc).length + (if([]:List Oc).isEmpty then 0 else 1) < 30))=true:=by rfl)
  (hline:(apos.endLine == cpos.line)=true:=by rfl) (hs:KG (e::es) X.env=(false,KR e X.env)::KG es X.env:=by rfl) (hplain:(Mc cpos (KG es X.env)).any (·.1)=false:=by rfl) :
  PE X (.Call (.Attribute o name apos) (e::es) [] cpos) (tBM X.K T r to t):=by
 intro pins s σ H Q I h
 refine wpAny_Call_method_late hbase hfew hline rfl (thn (ho pins s σ H _ I h) ?_)
 rintro v s1 ⟨x,H1,I1,r1,ty,q1⟩
 obtain⟨h1,h2⟩:=wY I1 r1 ty
 refine⟨T,id,pa,slot,hty,h1,h2,?_⟩
 have hA:=ha cpos pins s1 σ H1 _ I1 q1
 rw[hs]at hA ⊢
 refine N6 (by show(false || (Mc cpos (KG es X.env)).any (·.1))=false;rw[hplain] <;> rfl) (Calls.evalArgs_plain ?_)
 exact thn hA fun us s2 ⟨vs,H2,I2,r2,q2⟩=>hm pins s2 σ H2 x vs v us Q I2 r1 r2 q2
end
noncomputable def MtM(X:Cx)(id:String)(r:V->List V->Hp->VK->Prop):Prop:=
 ∀(pins:List (Kl × Obj)) (s:Km) (σ:St) (H:Hp) (x:V) (xs:List V) (v:Kj) (us:List Kj) (Q:VK),Inv X pins σ H s->RelV x v->Vals xs us->r x xs H Q->
  Kr (Kw X.prog X.w) X.A (call (.builtin id) (v::us)) (EP X pins σ Q) X.xe s
theorem Vals.one:∀ {x:V} {us:List Kj},Vals [x] us->∃ u,us=[u]/\RelV x u
 | _,_,.cons r .nil=>⟨_,rfl,r⟩
theorem Vals.zero:∀ {us:List Kj},Vals [] us->us=[]
 | _,.nil=>rfl
theorem Vals.eraseIdx:∀ {xs:List V} {us:List Kj} (i:Nat),Vals xs us->Vals (xs.eraseIdx i) (us.eraseIdx i)
 | _,_,_,.nil=>.nil
 | _,_,0,.cons _ t=>t
 | _,_,i + 1,.cons r t=>.cons r (Vals.eraseIdx i t)
theorem Vals.reverse {xs:List V}{us:List Kj}(h:Vals xs us):Vals xs.reverse us.reverse:=by
 induction h with
 | nil=>exact .nil
 | cons r t ih=>rw[Hc,Hc];exact Vals.append ih (.cons r .nil)
theorem Vals.rep {xs:List V}{us:List Kj}(h:Vals xs us):∀ k:Nat,Vals (s_ k xs).flatten (s_ k us).flatten
 | 0=>.nil
 | k + 1=>by
  rw[Ge,Ge,Hd,Hd]
  exact Vals.append h (Vals.rep h k)
theorem ml{α:Type}:∀(l:List α) (i:Nat),(l.eraseIdx i).length<=l.length
 | [],_=>e_ _
 | _::_,0=>Hv _
 | _::r,i + 1=>H_ (ml r i)
theorem foldl_rep(its:List Kj):∀(k:Nat) (acc:List Kj),
  JQ (fun x1 x2=>x1++x2) acc.toArray (s_ k its.toArray)=(acc++(s_ k its).flatten).toArray
 | 0,acc=>by simp
 | k + 1,acc=>by
  have e:acc.toArray++its.toArray=(acc++its).toArray:=by simp
  have e2:(acc++its)++(s_ k its).flatten=acc++(s_ (k + 1) its).flatten:=by
   rw[Ge,Hd,i_]
  rw[<-e2,<-foldl_rep its k (acc++its),<-e,Ge,Ij]
section
variable{X:Cx}{pins:List (Kl × Obj)}{σ:St}{H:Hp}{s:Km}{l b:Kl}{xs ys zs:List V}
theorem Inv.yf {its its':List Kj}{n:Nat}{f:Array Kj->Array Kj}{t':Nat}(I:Inv X pins σ H s)(hH:H l=some (.lst xs))
  (e:s.heap.get? l=some { cls:=.type "list",data:=.seq its.toArray n }) (hf:f its.toArray=its'.toArray) (hv:Vals ys its') (hz:ys.length<=sizeLine) :
  Inv X pins σ (upd H l (.lst ys)) { s with heap:=s.heap.update l (LB f),toks:=t' }:=by
 have q:=Su e f
 rw[hf]at q
 refine I.write (x:=l) (e:=l) (by rw[hH];exact trivial) (.inl rfl) (fun b' u hb hu=>(KS s.heap (LB f) (LJ hb)).trans hu) ⟨_,q⟩ ?_
 exact⟨hz,its',_,hv,q⟩
theorem Inv.DX {its:List Kj}{t':Nat}(I:Inv X pins σ H s)(hv:Vals ys its)(hz:ys.length<=sizeLine) :
  Inv X pins σ (upd H s.heap.objs.size (.lst ys)) { s with heap:=s.heap.push { cls:=.type "list",data:=.seq its.toArray },toks:=t' }:=
 I.laid (fun _ _ q=>Kn _ q) (e_ _) ⟨hz,its,0,hv,Kt _ rfl⟩
theorem Inv.fresh (I:Inv X pins σ H s):H s.heap.objs.size=none:=I.hok.fresh (e_ _)
theorem Inv.uR (I:Inv X pins σ H s)(hH:H l=some (.lst xs)):xs.length<=sizeLine/\∃(its:List Kj) (n:Nat),Vals xs its/\xs.length=its.length/\s.heap.get? l=some { cls:=.type "list",data:=.seq its.toArray n }:=by
 obtain⟨z,its,n,r,e⟩:=I.hok l _ hH
 exact⟨z,its,n,r,r.length,e⟩
theorem oB{n:Nat}(h:n<=sizeLine):Mf n=false:=by
 unfold Mf
 exact decide_eq_false (by lia)
end
section
variable{X:Cx}
noncomputable def Am:V->List V->Hp->VK->Prop:=fun x vs H Q=>∃ l xs y,x=.ref l/\vs=[y]/\H l=some (.lst xs)/\xs.length < sizeLine/\Q .non (upd H l (.lst (xs++[y])))
theorem iS:MtM X "list.append" Am:=by
 intro pins s σ H x vs v us Q I rx rv h
 obtain⟨l,xs,y,rfl,rfl,hH,hz,q⟩:=h
 cases rx
 obtain⟨u,rfl,ru⟩:=rv.one
 obtain⟨z,its,n,r,hl,e⟩:=I.uR hH
 refine MO F.slot_list_append ⟨_,e,rfl⟩ F.entry_list_append (F.args_list_append_2 _ _) (PySem.list_append l its.toArray n u (by rw[l_];lia)) ⟨e,?_⟩
 refine⟨.non,_,I.yf (its':=its++[u]) hH e (by simp) (r.append (.cons ru .nil)) ?_,rfl,q⟩
 rw[h_,GN]
 lia
noncomputable def As:V->List V->Hp->VK->Prop:=fun x vs H Q=>∃ l b xs zs,x=.ref l/\vs=[.ref b]/\H l=some (.lst xs)/\H b=some (.lst zs)/\xs.length + zs.length<=sizeLine/\Q .non (upd H l (.lst (xs++zs)))
theorem tU:MtM X "list.extend" As:=by
 intro pins s σ H x vs v us Q I rx rv h
 obtain⟨l,b,xs,zs,rfl,rfl,hH,hB,hz,q⟩:=h
 cases rx
 obtain⟨u,rfl,ru⟩:=rv.one
 cases ru
 obtain⟨z,its,n,r,hl,e⟩:=I.uR hH
 obtain⟨z2,its2,n2,r2,hl2,e2⟩:=I.uR hB
 have hsz:its.toArray.size + its2.toArray.size<=sizeLine:=by rw[l_,l_];lia
 have hlong:¬(!its.toArray.isEmpty && Mf (its.toArray.size + its2.toArray.size))=true:=by
  rw[oB hsz,Ji]
  exact B_
 refine MO F.slot_list_extend ⟨_,e,rfl⟩ F.entry_list_extend (F.args_list_extend_2 _ _)
  (Pm l its.toArray n b its2.toArray n2 hlong (by rw[l_];lia) (by lia)) ⟨e,e2,?_⟩
 refine⟨.non,_,I.yf (its':=its++its2) hH e (by simp) (r.append r2) ?_,rfl,q⟩
 rw[h_]
 omega
noncomputable def BC:V->List V->Hp->VK->Prop:=fun x vs H Q=>∃ l xs i k y,x=.ref l/\vs=[.int i]/\H l=some (.lst xs)/\-(2 ^ 63)<=i/\i < 2 ^ 63/\Qu i xs.length=some k/\xs[k]?=some y/\Q y (upd H l (.lst (xs.eraseIdx k)))
theorem xo:MtM X "list.pop" BC:=by
 intro pins s σ H x vs v us Q I rx rv h
 obtain⟨l,xs,i,k,y,rfl,rfl,hH,h1,h2,hk,hy,q⟩:=h
 cases rx
 obtain⟨u,rfl,ru⟩:=rv.one
 obtain⟨t,rfl⟩:=ru
 obtain⟨z,its,n,r,hl,e⟩:=I.uR hH
 obtain⟨w,hw,rw'⟩:=r.get hy
 refine MO F.slot_list_pop ⟨_,e,rfl⟩ F.entry_list_pop (F.args_list_pop_2 _ _)
  (RX l its.toArray n i t k w (Qh h1 h2) (by rw[l_,<-hl];exact hk) (by rw[<-fk];exact hw) (by rw[l_];lia)) ⟨e,?_⟩
 refine⟨y,_,I.yf (its':=its.eraseIdx k) hH e ?_ (r.eraseIdx k) ?_,rw',q⟩
 ·show its.toArray.eraseIdxIfInBounds k=(its.eraseIdx k).toArray
  rw[List.eraseIdxIfInBounds_toArray]
 have:=ml xs k
 lia
noncomputable def x4:V->List V->Hp->VK->Prop:=fun x vs H Q=>∃ l xs,x=.ref l/\vs=[]/\H l=some (.lst xs)/\Q .non (upd H l (.lst xs.reverse))
theorem rO:MtM X "list.reverse" x4:=by
 intro pins s σ H x vs v us Q I rx rv h
 obtain⟨l,xs,rfl,rfl,hH,q⟩:=h
 cases rx
 have hus:=rv.zero
 subst hus
 obtain⟨z,its,n,r,hl,e⟩:=I.uR hH
 refine MO F.slot_list_reverse ⟨_,e,rfl⟩ F.entry_list_reverse (F.args_list_reverse_1 _) (Qi l its.toArray n (by rw[l_];lia)) ⟨e,?_⟩
 refine⟨.non,_,I.yf (its':=its.reverse) hH e (by simp) r.reverse ?_,rfl,q⟩
 rw[GF]
 omega
noncomputable def Fb:R2:=fun x y H Q=>∃ l k xs,x=.ref l/\y=.int k/\H l=some (.lst xs)/\-(2 ^ 63)<=k/\k < 2 ^ 63/\xs.length * k.toNat<=sizeLine/\
 ∀ p,H p=none->Q (.ref p) (upd H p (.lst (s_ k.toNat xs).flatten))
theorem len_rep{α:Type}(xs:List α)(k:Nat):(s_ k xs).flatten.length=k * xs.length:=by
 induction k with
 | zero=>simp
 | succ k ih=>rw[Ge,Hd,h_,ih,Jy,Nat.add_comm]
theorem Dl:OpR X (Lf .Mult) Fb:=by
 intro pins s σ H x y v u Q I rx ry h
 obtain⟨l,k,xs,rfl,rfl,hH,h1,h2,hz,q⟩:=h
 cases rx
 obtain⟨t,rfl⟩:=ry
 obtain⟨z,its,n,r,hl,e⟩:=I.uR hH
 have hlen:its.toArray.size * k.toNat<=sizeLine:=by rw[l_,<-hl];exact hz
 have hcap:¬ its.toArray.size * k.toNat >(2 ^ 63 - 1) / 8:=by
  have:(sizeLine:Nat)<=(2 ^ 63 - 1) / 8:=by decide
  lia
 have hfit:¬(!QF k)=true:=by
  rw[Qh h1 h2]
  exact B_
 have hlong:¬ Mf (its.toArray.size * k.toNat)=true:=by
  rw[oB hlen]
  exact B_
 have hnew:JQ (fun x1 x2=>x1++x2) #[] (s_ (if its.toArray.isEmpty=true then 0 else k.toNat) its.toArray)=(s_ k.toNat its).flatten.toArray:=by
  have f0:∀ m:Nat,JQ (fun x1 x2=>x1++x2) #[] (s_ m its.toArray)=(s_ m its).flatten.toArray:=fun m=>by
   have:=foldl_rep its m []
   rw[GO]at this
   exact this
  rw[f0]
  cases its with
  | nil=>simp
  | cons a r'=>rw[if_neg (by simp)]
 refine wpAny_binaryOp_repeat_ref (T:="list") (U:="int") (by decide) ⟨_,e,rfl⟩ (fun s'=>Mo s' k t) noFill_list_mul F.fills_int_mul PX repeat_list F.slot_int_index.lookup
  (MO PX (Mo s k t) F.entry_int_rmul (F.args_int_rmul_2 _ _) (int___rmul___int_list k t l its.toArray n)
   ⟨e,rfl,⟨_,e,rfl⟩,MO F.slot_list_mul ⟨_,e,rfl⟩ F.entry_list_mul (F.args_list_mul_2 _ _) (Pf l its.toArray n k t hfit hcap hlong) ⟨e,?_⟩⟩)
 rw[hnew]
 exact⟨.ref _,_,I.DX (t':=s.toks) (r.rep k.toNat) (by rw[len_rep,J5];exact hz),rfl,q _ I.fresh⟩
end
section
variable{κ:Type}[DecidableEq κ]
def bR(kvs:List (κ × V))(k:κ):Option V:=(kvs.find? fun kv=>decide (kv.1=k)).map (·.2)
noncomputable def putK(kvs:List (κ × V))(k:κ)(v:V):List (κ × V):=
 if(kvs.any fun kv=>decide (kv.1=k))=true then kvs.map (fun kv=>if kv.1=k then(kv.1,v)else kv)else kvs++[(k,v)]
theorem kK{p:κ × V}{r:List (κ × V)}{k:κ}(e:p.1=k):bR (p::r) k=some p.2:=by simp[bR,FY,e]
theorem jF{p:κ × V}{r:List (κ × V)}{k:κ}(e:¬ p.1=k):bR (p::r) k=bR r k:=by simp[bR,FY,e]
theorem fO(k:κ):∀ kvs:List (κ × V),(kvs.any fun kv=>decide (kv.1=k))=(bR kvs k).isSome
 | []=>rfl
 | p::r=>by
  rw[GC]
  by_cases e:p.1=k
  ·simp only[kK e,decide_eq_true e,Bool.true_or,Jz]
  rw[jF e,decide_eq_false e,Bool.false_or];exact fO k r
theorem dB(kvs:List (κ × V))(k:κ)(v:V):(putK kvs k v).length<=kvs.length + 1:=by
 unfold putK
 split
 ·rw[a_];lia
 rw[h_,k_,Ii];lia
theorem pI{kvs:List (κ × V)}{k:κ}(v:V)(h:bR kvs k=none):putK kvs k v=kvs++[(k,v)]:=by
 unfold putK
 rw[fO,h]
 exact if_neg (by decide)
theorem l4.cT {o:Option V}{u:Option Kj}(r:l4 o u):o.isSome=u.isSome:=by
 cases o with
 | none=>cases u with
  | none=>rfl
  | some _=>exact(show False from r).elim
 | some _=>cases u with
  | none=>exact(show False from r).elim
  | some _=>rfl
theorem KV.val {kvs:List (κ × V)}{vs:List (κ × Kj)}(r:KV kvs vs)(k:κ):l4 (bR kvs k) (NH vs k):=by
 unfold KV at r
 induction r with
 | nil=>exact L9
 | @cons p q ps qs h t ih=>
  obtain⟨h1,h2⟩:=h
  by_cases e:p.1=k
  ·have e':q.1=k:=h1.symm.trans e
   have b:NH (q::qs) k=some q.2:=by simp[NH,FY,e']
   rw[kK e,b];exact h2
  have e':¬ q.1=k:=fun z=>e (h1.trans z)
  have b:NH (q::qs) k=NH qs k:=by simp[NH,FY,e']
  rw[jF e,b];exact ih
theorem KV.any {kvs:List (κ × V)}{vs:List (κ × Kj)}(r:KV kvs vs)(k:κ):(kvs.any fun kv=>decide (kv.1=k))=vs.any fun kv=>decide (kv.1=k):=by
 unfold KV at r
 induction r with
 | nil=>rfl
 | cons h t ih=>rw[GC,GC,ih,h.1]
theorem KV.C6 {kvs:List (κ × V)}{vs:List (κ × Kj)}(r:KV kvs vs)(k:κ){y:V}{u:Kj}(ry:RelV y u) :
  KV (kvs.map fun kv=>if kv.1=k then(kv.1,y)else kv) (vs.map fun kv=>if kv.1=k then(kv.1,u)else kv):=by
 unfold KV at r ⊢
 induction r with
 | nil=>exact .nil
 | @cons p q ps qs h t ih=>
  rw[g_,g_]
  refine .cons ?_ ih
  obtain⟨h1,h2⟩:=h
  by_cases e:p.1=k
  ·rw[if_pos e,if_pos (h1.symm.trans e)];exact⟨h1,ry⟩
  rw[if_neg e,if_neg (fun z=>e (h1.trans z))];exact⟨h1,h2⟩
theorem KV.put {kvs:List (κ × V)}{vs:List (κ × Kj)}(r:KV kvs vs)(k:κ){y:V}{u:Kj}(ry:RelV y u):KV (putK kvs k y) (stored vs k u):=by
 unfold putK stored
 rw[r.any k]
 by_cases e:(vs.any fun kv=>decide (kv.1=k))=true
 ·rw[if_pos e,if_pos e];exact r.C6 k ry
 rw[if_neg e,if_neg e];exact RM r ⟨rfl,ry⟩
theorem KV.length {kvs:List (κ × V)}{vs:List (κ × Kj)}(r:KV kvs vs):kvs.length=vs.length:=M3 r
end
theorem lO{P:Kz}{w:KD}{k:Key}{u:Kj}(r:RelV (kV k) u):(aV P w).is k u=true:=by
 rcases k with i | _ | x
 ·obtain⟨t,e⟩:=(show ∃ t,u=Mm i t from r);subst e;exact pG P w i t
 ·cases r;rfl
 obtain⟨t,e⟩:=(show ∃ t,u=OK x t from r);subst e;exact oR P w x t
theorem lD{P:Kz}{w:KD}:∀ {ks:List Key} {us:List Kj},Vals (ks.map kV) us->ItemsAre (aV P w) ks us
 | [],_,r=>by rw[Hg]at r;cases r;exact .nil
 | k::ks,_,r=>by
  rw[g_]at r
  cases r with
  | cons h t=>exact .cons (lO h) (lD t)
abbrev KT(H:Hp):List (List Key × V)->List (List Key × Kl × Kj)->Prop:=N8 fun p q=>p.1=q.1/\H q.2.1=some (.tup (p.1.map kV))/\RelV p.2 q.2.2
theorem KT.val {H:Hp}{kvs:List (List Key × V)}{xs:List (List Key × Kl × Kj)}(r:KT H kvs xs)(k:List Key):l4 (bR kvs k) ((NW xs k).map (·.2)):=by
 induction r with
 | nil=>exact L9
 | @cons p q ps qs h t ih=>
  obtain⟨h1,_,h2⟩:=h
  by_cases e:p.1=k
  ·have e':q.1=k:=h1.symm.trans e
   have b:NW (q::qs) k=some q.2:=by simp[NW,FY,e']
   rw[kK e,b];exact h2
  have e':¬ q.1=k:=fun z=>e (h1.trans z)
  have b:NW (q::qs) k=NW qs k:=by simp[NW,FY,e']
  rw[jF e,b];exact ih
theorem KT.C6 {H:Hp}{kvs:List (List Key × V)}{xs:List (List Key × Kl × Kj)}(r:KT H kvs xs)(k:List Key){y:V}{u:Kj}(ry:RelV y u) :
  KT H (kvs.map fun kv=>if kv.1=k then(kv.1,y)else kv) (xs.map (putAt k u)):=by
 induction r with
 | nil=>exact .nil
 | @cons p q ps qs h t ih=>
  rw[g_,g_]
  refine .cons ?_ ih
  obtain⟨h1,h2,h3⟩:=h
  unfold putAt
  by_cases e:p.1=k
  ·rw[if_pos e,if_pos (h1.symm.trans e)];exact⟨h1,h2,ry⟩
  rw[if_neg e,if_neg (fun z=>e (h1.trans z))];exact⟨h1,h2,h3⟩
theorem KT.put {H:Hp}{kvs:List (List Key × V)}{xs:List (List Key × Kl × Kj)}(r:KT H kvs xs)(k:List Key){b:Kl}{y:V}{u:Kj}(hb:H b=some (.tup (k.map kV)))(ry:RelV y u) :
  KT H (putK kvs k y) (storedH xs k b u):=by
 have e:(kvs.any fun kv=>decide (kv.1=k))=(NW xs k).isSome:=by
  rw[fO,(r.val k).cT,IK]
 unfold putK storedH
 rw[e]
 by_cases q:(NW xs k).isSome=true
 ·rw[if_pos q,if_pos q];exact r.C6 k ry
 rw[if_neg q,if_neg q];exact RM r ⟨rfl,hb,ry⟩
theorem KT.keeps {H H':Hp}{kvs:List (List Key × V)}{xs:List (List Key × Kl × Kj)}(r:KT H kvs xs)(ht:∀ b ys,H b=some (.tup ys)->H' b=some (.tup ys)):KT H' kvs xs:=
 Paired.Bk r fun _ _ z=>⟨z.1,ht _ _ z.2.1,z.2.2⟩
section
variable{P:Kz}{w:KD}{H:Hp}{h:KH}{a:Kl}
theorem AR{u:HO}(ok:HOk P w H h)(e:Rd H a u):aW P w H h a u:=e.ok ok
theorem lh{kvs:List (Key × V)}(ok:HOk P w H h)(e:Rd H a (.dK kvs)):kvs.length<=sizeLine/\(a == LN)=false/\∃ vs,KV kvs vs/\h.DictOf (aV P w) a vs:=
 show aW P w H h a (.dK kvs)from AR ok e
theorem Ay{kvs:List (Key × V)}(ok:HOk P w H h)(e:H a=some (.dK kvs)):kvs.length<=sizeLine/\(a == LN)=false/\∃ vs,KV kvs vs/\h.DictOf (aV P w) a vs:=lh ok (.inl e)
theorem jW{ks:List Key}(ok:HOk P w H h)(e:H a=some (.tup (ks.map kV))):(NU (aV P w)).is h ks a:=by
 obtain⟨_,its,r,o,h1,h2,n,h3⟩:=(show aW P w H h a (.tup (ks.map kV))from ok a _ e)
 exact⟨o,its.toArray,n,h1,h2,h3,by simpa using lD r⟩
theorem lY{kvs:List (List Key × V)}(ok:HOk P w H h)(e:Rd H a (.dT kvs)):kvs.length<=sizeLine/\(a == LN)=false/\
  ∃ xs,KT H kvs xs/\h.DictOfH (NU (aV P w)) a xs:=by
 obtain⟨z,y,xs,r,o,es,ep,h1,h2,h3,h4,h5⟩:=(show aW P w H h a (.dT kvs)from AR ok e)
 refine⟨z,y,xs,r,o,es,ep,h1,h2,h3,h4,fun x hx=>?_,h5⟩
 have all:∀ {l:List (List Key × V)} {m:List (List Key × Kl × Kj)},KT H l m->∀ x∈m,(NU (aV P w)).is h x.1 x.2.1:=by
  intro l m q
  induction q with
  | nil=>intro x hx;exact nomatch hx
  | @cons p q ps qs hq t ih=>
   intro x hx
   rcases t_.mp hx with e | hx
   ·subst e
    exact jW ok (by rw[<-hq.1];exact hq.2.1)
   exact ih x hx
 exact all r x hx
theorem EG{kvs:List (List Key × V)}(ok:HOk P w H h)(e:H a=some (.dT kvs)):kvs.length<=sizeLine/\(a == LN)=false/\
  ∃ xs,KT H kvs xs/\h.DictOfH (NU (aV P w)) a xs:=lY ok (.inl e)
end
noncomputable def gv(H:Hp)(a:Kl)(y:V)(r:Option V):Prop:=
 (∃ kvs k,Rd H a (.dK kvs)/\y=kV k/\r=bR kvs k)\/∃ kvs k b,Rd H a (.dT kvs)/\y=.ref b/\H b=some (.tup (k.map kV))/\r=bR kvs k
noncomputable def tS(H:Hp)(a:Kl)(y v:V)(H':Hp):Prop:=
 (∃ kvs k,H a=some (.dK kvs)/\y=kV k/\kvs.length < sizeLine/\H'=upd H a (.dK (putK kvs k v)))\/
 ∃ kvs k b,H a=some (.dT kvs)/\y=.ref b/\H b=some (.tup (k.map kV))/\kvs.length < sizeLine/\H'=upd H a (.dT (putK kvs k v))
theorem gv.k {H:Hp}{a:Kl}{kvs:List (Key × V)}{k:Key}(e:H a=some (.dK kvs)):gv H a (kV k) (bR kvs k):=.inl ⟨kvs,k,.inl e,rfl,rfl⟩
theorem tS.k {H:Hp}{a:Kl}{kvs:List (Key × V)}{k:Key}{v:V}(e:H a=some (.dK kvs))(hl:kvs.length < sizeLine):tS H a (kV k) v (upd H a (.dK (putK kvs k v))):=.inl ⟨kvs,k,e,rfl,hl,rfl⟩
section
variable{X:Cx}{pins:List (Kl × Obj)}{σ:St}{H:Hp}{s:Km}{a:Kl}{y v:V}{u r:Kj}{o:Option V}{A:KN}{E:Kj->Km->Prop}
theorem Inv.big (I:Inv X pins σ H s):LN < s.heap.objs.size:=by
 have h:Ll < s.heap.objs.size:=(I.mod.glob.keeps I.bk).lt
 exact Ik (by decide) h
theorem lg{Q:Kj->Km->Prop}(hu:A.units + 1 < cLine)(I:Inv X pins σ H s)(g:gv H a y (some v))(ry:RelV y u)(h:∀ w' s',Inv X pins σ H s'->RelV v w'->Q w' s') :
  Kr (Kw X.prog X.w) A (Ob (.ref a) u) Q E s:=by
 rcases g with⟨kvs,k,e,ey,l⟩ | ⟨kvs,k,b,e,ey,eb,l⟩
 ·subst ey
  obtain⟨z,hd,vs,rel,dd⟩:=lh I.hok e
  obtain⟨w',hw,rw'⟩:=l4.some_of (v:=v) (o:=NH vs k) (by rw[l];exact rel.val k)
  exact wpAny_getItem_of (lO ry) dd.mapOf hw (h w' _ (I.tok _) rw')
 subst ey
 cases (show u=KO b from ry)
 obtain⟨z,hd,xs,rel,dd⟩:=lY I.hok e
 obtain⟨w',hw,rw'⟩:=l4.some_of (v:=v) (o:=(NW xs k).map (·.2)) (by rw[l];exact rel.val k)
 obtain⟨p,hp,hp2⟩:=HY.mp hw
 refine wpAny_getItem_heap (MG hu) (jW I.hok eb) dd hp ?_
 rw[hp2]
 exact h w' _ (I.tok _) rw'
theorem ER{Q:Kj->Km->Prop}(hu:A.units + 1 < cLine)(I:Inv X pins σ H s)(g:gv H a y o)(ry:RelV y u)(h:∀ s',Inv X pins σ H s'->Q (.bool o.isSome) s') :
  Kr (Kw X.prog X.w) A (K4 .In u (.ref a)) Q E s:=by
 rcases g with⟨kvs,k,e,ey,l⟩ | ⟨kvs,k,b,e,ey,eb,l⟩
 ·subst ey
  obtain⟨z,hd,vs,rel,dd⟩:=lh I.hok e
  refine wpAny_in_of (lO ry) hd dd.mapOf ?_
  rw[<-(rel.val k).cT,<-l]
  exact h _ (I.tok _)
 subst ey
 cases (show u=KO b from ry)
 obtain⟨z,hd,xs,rel,dd⟩:=lY I.hok e
 refine wpAny_in_heap (MG hu) (jW I.hok eb) hd dd ?_
 have q:=(rel.val k).cT
 rw[IK]at q
 rw[<-q,<-l]
 exact h _ (I.tok _)
theorem sN{Q:Kj->Km->Prop}(hu:A.units + 1 < cLine)(I:Inv X pins σ H s)(g:gv H a y o)(ry:RelV y u)(h:∀ s',Inv X pins σ H s'->Q (.bool (!o.isSome)) s') :
  Kr (Kw X.prog X.w) A (K4 .NotIn u (.ref a)) Q E s:=by
 rcases g with⟨kvs,k,e,ey,l⟩ | ⟨kvs,k,b,e,ey,eb,l⟩
 ·subst ey
  obtain⟨z,hd,vs,rel,dd⟩:=lh I.hok e
  refine wpAny_notIn_of (lO ry) hd dd.mapOf ?_
  rw[<-(rel.val k).cT,<-l]
  exact h _ (I.tok _)
 subst ey
 cases (show u=KO b from ry)
 obtain⟨z,hd,xs,rel,dd⟩:=lY I.hok e
 refine wpAny_notIn_heap (MG hu) (jW I.hok eb) hd dd ?_
 have q:=(rel.val k).cT
 rw[IK]at q
 rw[<-q,<-l]
 exact h _ (I.tok _)
theorem mJ{h':KH}{t':Nat}{ob:HO}(I:Inv X pins σ H s)(mu:Mut (H a))(hs:Lj a s.heap h')(he:∃ q,h'.get? a=some q)(new:aW X.prog X.w (upd H a ob) h' a ob) :
  Inv X pins σ (upd H a ob) { s with heap:=h',toks:=t' }:=
 I.write (x:=a) (e:=a) mu (.inl rfl) (fun b q hb z=>(hs.2 b hb).trans z) he new
theorem vo{P:Kz}{w:KD}{H':Hp}{h':KH}{kvs:List (Key × V)}{vs:List (Key × Kj)}(z:kvs.length<=sizeLine)(hd:(a == LN)=false)(rel:KV kvs vs)(dd:h'.DictOf (aV P w) a vs) :
  aW P w H' h' a (.dK kvs):=⟨z,hd,vs,rel,dd⟩
theorem iB{H':Hp}{Q:Unit->Km->Prop}(hu:A.units + 1 < cLine)(I:Inv X pins σ H s)(g:tS H a y v H')(ry:RelV y u)(rv:RelV v r)(h:∀ s',Inv X pins σ H' s'->Q () s') :
  Kr (Kw X.prog X.w) A (Qf (.ref a) u r) Q E s:=by
 rcases g with⟨kvs,k,e,ey,l,eH⟩ | ⟨kvs,k,b,e,ey,eb,l,eH⟩
 ·subst ey eH
  obtain⟨z,hd,vs,rel,dd⟩:=Ay I.hok e
  have hz:vs.length<=sizeLine:=by rw[<-rel.length];exact z
  have hl:(putK kvs k v).length<=sizeLine:=by have:=dB kvs k v;lia
  refine wpAny_setItem_pairs (hsz:=hz) (lO ry) dd fun h' dd' hs=>h _ ?_
  have he:∃ q,h'.get? a=some q:=let ⟨q,_,_,hq,_⟩:=dd';⟨q,hq⟩
  exact mJ I (by rw[e];exact L9) hs he (vo hl hd (rel.put k rv) dd')
 subst ey eH
 cases (show u=KO b from ry)
 obtain⟨z,hd,xs,rel,dd⟩:=EG I.hok e
 have hz:xs.length<=sizeLine:=by rw[<-M3 rel];exact z
 have hl:(putK kvs k v).length<=sizeLine:=by have:=dB kvs k v;lia
 refine wpAny_setItem_heap (hsz:=hz) (MG hu) (jW I.hok eb) dd fun h' dd' hs=>h _ ?_
 obtain⟨q,es,ep,hq,h2,h3,h4,_,h5⟩:=dd'
 refine mJ I (by rw[e];exact L9) hs ⟨q,hq⟩ ⟨hl,hd,_,(rel.put k eb rv).keeps fun c ys ec=>?_,q,es,ep,hq,h2,h3,h4,h5⟩
 rw[ak (Av ec e (fun z=>nomatch z))]
 exact ec
end
section
variable{X:Cx}{pins:List (Kl × Obj)}{σ:St}{H:Hp}{s:Km}{a:Kl}{kvs:List (Key × V)}{k:Key}{u:Kj}{A:KN}{E:Kj->Km->Prop}
theorem Dx{Q:Kj->Km->Prop}(I:Inv X pins σ H s)(e:Rd H a (.dK kvs))(h:∀ t s',Inv X pins σ H s'->Q (.int kvs.length t) s'):Kr (Kw X.prog X.w) A (call (.builtin "len") [.ref a]) Q E s:=by
 obtain⟨z,hd,vs,rel,dd⟩:=lh I.hok e
 refine call_len_dict hd dd (by rw[<-rel.length];rw[K5]at z;lia) ?_
 rw[<-rel.length]
 exact h _ _ (I.tok _)
end
def DO(i:KC):Prop:=∀ ov iv,Nj i false ov iv=RU [ov,iv] (Ob ov iv)
theorem zN{prog:Kz}{w:KD}{A:KN}{E:Kj->Km->Prop}{s:Km}{env:Env}{value slice:KC}{pos:Pos}{T id:String}{Q:Kj->Km->Prop}
  (hl:typeLookup (.type T) "__getitem__"=pure (some (.builtin id))) (hs:DO slice)
  (h:Kr (Kw prog w) A (KR value env) (fun o s₁=>Kr (Kw prog w) A (KR slice env) (fun i s₂=>s₂.TypeIs o T/\Kr (Kw prog w) A (Ob o i) Q E s₂) E s₁) E s) :
  Kr (Kw prog w) A (KR (.Subscript value slice pos) env) Q E s:=by
 refine PR (KW h (fun o s₁ h₁=>KW h₁ (fun i s₂ h₂=>?_) fun _ _ x=>x) fun _ _ x=>x)
 obtain⟨hT,h₂⟩:=h₂
 unfold M5
 refine Ki ?_
 rw[Od hT.not_modules]
 refine Ki (NX hT hl ?_)
 have fin:Kr (Kw prog w) A (Nj slice false o i) (fun r s₃=>Kr (Kw prog w) A (Qj value o r >>= fun _=>pure r) Q E s₃) E s₂:=by
  rw[hs o i]
  exact PY (KW h₂ (fun r s₃ h₃=>Ki (Oq (Ko h₃))) fun _ _ x=>x)
 first
  | exact Ko (Ki fin)
  | exact Ki (Ko (Ki fin))
  | exact Ki fin
theorem iZ{X:Cx}{pins:List (Kl × Obj)}{σ:St}{H:Hp}{s:Km}{a:Kl}{y:V}{o:Option V}(I:Inv X pins σ H s)(g:gv H a y o):s.TypeIs (.ref a) "dict":=by
 rcases g with⟨kvs,k,e,_,_⟩ | ⟨kvs,k,b,e,_,_,_⟩
 ·obtain⟨_,_,vs,_,dd⟩:=lh I.hok e
  exact dd.typeIs
 obtain⟨_,_,xs,_,dd⟩:=lY I.hok e
 exact dd.typeIs
def F3(td ty:TE):TE:=fun σ H Q=>td σ H fun x H1=>ty σ H1 fun y H2=>∃ a v,x=.ref a/\gv H2 a y (some v)/\Q v H2
noncomputable def EA(td ty tv:TE):TS:=fun D σ H=>tv σ H fun v H1=>td σ H1 fun x H2=>ty σ H2 fun y H3=>∃ a H4,x=.ref a/\tS H3 a y v H4/\D.nx σ H4
section
variable{X:Cx}{o i e value:KC}{pos pos' tpos:Pos}{td ty tv:TE}
theorem jr(hu:X.A.units + 1 < cLine)(ho:PE X o td)(hi:PE X i ty)(hs:DO i):PE X (.Subscript o i pos) (F3 td ty):=by
 intro pins s σ H Q I h
 refine zN NB.lookup hs (thn (ho pins s σ H _ I h) fun u s1 ⟨x,H1,I1,rx,q1⟩=>thn (hi pins s1 σ H1 _ I1 q1) ?_)
 rintro iv s2 ⟨y,H2,I2,ry,a,v,ex,g,q2⟩
 subst ex
 obtain rfl:u=KO a:=rx
 exact⟨iZ I2 g,lg hu I2 g ry fun w' s3 I3 rw'=>⟨v,H2,I3,rw',q2⟩⟩
theorem yr(hu:X.A.units + 1 < cLine)(ho:PE X o td)(hi:PE X i ty)(hv:PE X value tv)(hs:ME value (some (.Subscript o i pos')) pos.line X.env=pure false) :
  PS X (.Assign [.Subscript o i pos'] value pos) (EA td ty tv):=by
 intro pins s σ H D I h
 refine wpAny_Assign_Subscript (thn (hv pins s σ H _ I h) fun r s1 ⟨v,H1,I1,rv,q1⟩=>thn (ho pins s1 σ H1 _ I1 q1) fun u s2 ⟨x,H2,I2,rx,q2⟩=>thn (hi pins s2 σ H2 _ I2 q2) fun iv s3 ⟨y,H3,I3,ry,a,H4,ex,g,q3⟩=>?_) hs
 subst ex
 obtain rfl:u=KO a:=rx
 exact iB hu I3 g ry rv fun s4 I4=>⟨σ,H4,I4,q3⟩
end
theorem v5{P:Kz}{w:KD}{H:Hp}(h:KH)(hb:LN < h.objs.size):aW P w H (h.push { cls:=.type "dict",data:=.dict #[] }) h.objs.size (.dK []):=
 ⟨B' _,beq_eq_false_iff_ne.mpr (LJ (w_ hb)),[],.nil,SD h⟩
theorem xE{P:Kz}{w:KD}{H:Hp}(h:KH)(hb:LN < h.objs.size):aW P w H (h.push { cls:=.type "dict",data:=.dict #[] }) h.objs.size (.dT []):=
 ⟨B' _,beq_eq_false_iff_ne.mpr (LJ (w_ hb)),[],.nil,_,#[],0,Kt _ rfl,⟨rfl,rfl,rfl⟩,rfl,rfl,GZ⟩
def D9:TE:=fun _ H Q=>∀ p,H p=none->Q (.ref p) (upd H p (.dT []))
section
variable{X:Cx}{pos:Pos}
theorem vD:PE X (.Dict [] [] pos) D9:=fun pins s σ H Q I h=>
 wpAny_Dict_empty ⟨.ref s.heap.objs.size,_,I.laid (a:=s.heap.objs.size) (o:=.dT []) (t':=s.toks) (fun _ _ q=>Kn _ q) (e_ _) (xE s.heap I.big),rfl,h _ (I.hok.fresh (e_ _))⟩
end
noncomputable def rE:List (TE × TE)->St->Hp->(List (V × V)->Hp->Prop)->Prop
 | [],_,H,Q=>Q [] H
 | (tk,tv)::r,σ,H,Q=>tk σ H fun x H1=>tv σ H1 fun y H2=>rE r σ H2 fun ps H3=>Q ((x,y)::ps) H3
abbrev VV:List (V × V)->List (Kj × Kj)->Prop:=N8 fun p q=>RelV p.1 q.1/\RelV p.2 q.2
noncomputable def PPs(X:Cx)(pos:Pos)(keys:List (Option KC))(values:List KC)(trs:List (TE × TE)):Prop:=
 ∀(pins:List (Kl × Obj)) (s:Km) (σ:St) (H:Hp) (Q:List (V × V)->Hp->Prop),Inv X pins σ H s->rE trs σ H Q->
  Kr (Kw X.prog X.w) X.A (evalPairs (pairTrees keys values X.env pos)) (fun vs s'=>∃ ps H',Inv X pins σ H' s'/\VV ps vs/\Q ps H') X.xe s
theorem zX{X:Cx}{pos:Pos}:PPs X pos [] [] []:=fun pins s σ H Q I h=>pairTrees_nil_walk ⟨[],H,I,.nil,h⟩
theorem oV{X:Cx}{pos:Pos}{k v:KC}{ks:List (Option KC)}{vs:List KC}{tk tv:TE}{trs:List (TE × TE)}(hk:PE X k tk)(hv:PE X v tv)(hr:PPs X pos ks vs trs) :
  PPs X pos (some k::ks) (v::vs) ((tk,tv)::trs):=fun pins s σ H Q I h=>
 pairTrees_cons_walk (thn (hk pins s σ H _ I h) fun u s1 ⟨x,H1,I1,rx,q1⟩=>thn (hv pins s1 σ H1 _ I1 q1) fun w2 s2 ⟨y,H2,I2,ry,q2⟩=>
  thn (hr pins s2 σ H2 _ I2 q2) fun ws s3 ⟨ps,H3,I3,rel,q3⟩=>⟨(x,y)::ps,H3,I3,.cons ⟨rx,ry⟩ rel,q3⟩)
def dY(kvs more:List (Key × V)):List (Key × V):=more.foldl (fun acc kv=>putK acc kv.1 kv.2) kvs
theorem KV.merge:∀ {more:List (Key × V)} {rs:List (Key × Kj)} {kvs:List (Key × V)} {vs:List (Key × Kj)},KV more rs->KV kvs vs->KV (dY kvs more) (merged vs rs):=by
 intro more rs kvs vs r
 unfold KV at r
 induction r generalizing kvs vs with
 | nil=>intro q;exact q
 | @cons p q ps qs h t ih=>
  intro r0
  have e:KV (putK kvs p.1 p.2) (stored vs q.1 q.2):=by
   have:=r0.put p.1 h.2
   rw[<-h.1];exact this
  exact ih e
theorem eW:∀(more kvs:List (Key × V)),(dY kvs more).length<=kvs.length + more.length
 | [],kvs=>by show kvs.length<=kvs.length + 0;lia
 | p::r,kvs=>by
  have h1:=eW r (putK kvs p.1 p.2)
  have h2:=dB kvs p.1 p.2
  show(dY (putK kvs p.1 p.2) r).length<=_
  rw[k_];lia
theorem kR{P:Kz}{w:KD}:∀ {kvs:List (Key × V)} {ws:List (Kj × Kj)},VV (kvs.map fun kv=>(kV kv.1,kv.2)) ws->∃ rs,Carries (aV P w) ws rs/\KV kvs rs
 | [],_,r=>by rw[Hg]at r;cases r;exact⟨[],L9,.nil⟩
 | p::kvs,_,r=>by
  rw[g_]at r
  cases r with
  | @cons a b as bs h t=>
   obtain⟨rs,c,q⟩:=kR (P:=P) (w:=w) t
   obtain⟨b1,b2⟩:=b
   exact⟨(p.1,b2)::rs,⟨lO h.1,rfl,c⟩,.cons ⟨rfl,h.2⟩ q⟩
noncomputable def El(trs:List (TE × TE)):TE:=fun σ H Q=>∀ p,H p=none->rE trs σ (upd H p (.dK [])) fun ps H2=>H2 p=some (.dK [])/\∃ kvs:List (Key × V),ps=kvs.map (fun kv=>(kV kv.1,kv.2))/\kvs.length<=15/\Q (.ref p) (upd H2 p (.dK (dY [] kvs)))
theorem zm{X:Cx}{pos:Pos}{keys:List (Option KC)}{values:List KC}{trs:List (TE × TE)}(h:PPs X pos keys values trs)(hall:keys.all (·.isSome)=true)(hl:keys.length=values.length)(h0:keys≠[])
  (h15:keys.length<=15):PE X (.Dict keys values pos) (El trs):=by
 intro pins s σ H Q I q
 have hn:=I.hok.fresh (e_ s.heap.objs.size)
 have I1:=I.laid (a:=s.heap.objs.size) (o:=.dK []) (h':=s.heap.push { cls:=.type "dict",data:=.dict #[] }) (t':=s.toks) (fun _ _ q=>Kn _ q) (e_ _) (v5 s.heap I.big)
 refine wpAny_Dict_walk (knd:=aV X.prog X.w) hall hl h0 h15 (thn (h pins _ σ _ _ I1 (q _ hn)) ?_)
 rintro ws s2 ⟨ps,H2,I2,rel,e,kvs,ep,lk,q2⟩
 subst ep
 obtain⟨rs,c,rk⟩:=kR (P:=X.prog) (w:=X.w) rel
 obtain⟨z,hd,vs0,r0,dd⟩:=Ay I2.hok e
 cases r0
 refine⟨rs,c,dd,fun h' dd' hs=>⟨.ref s.heap.objs.size,_,?_,rfl,q2⟩⟩
 have hz:(dY [] kvs).length<=sizeLine:=by
  have h1:=eW kvs []
  rw[Ii]at h1
  rw[K5];lia
 have he:∃ q,h'.get? s.heap.objs.size=some q:=let ⟨q,_,_,hq,_⟩:=dd';⟨q,hq⟩
 exact mJ I2 (by rw[e];exact L9) hs he (vo hz hd (rk.merge .nil) dd')
end L2
namespace Att
open PySem PySem.W PySem.Calls PyProof.Rows
theorem ji{P:NM}{h:KH}:∀(ns:List Int) (vs:List Kj),WellAll P h vs (ns.map WData.int)->IntsAre vs ns:=by
 intro ns
 induction ns with
 | nil=>
  intro vs w
  rw[Hg]at w
  cases w
  exact .nil
 | cons n ns ih=>
  intro vs w
  rw[g_]at w
  cases w with
  | cons a b=>
   cases a
   exact .cons _ _ (ih _ b)
theorem uX{l:OpenLaw}{n:Nat}(hn:l.most=some n){P:NM}{h:KH}{args:List WData}{vals:List Kj}
  (hpre:l.row.toRowW.claim.pre args=true) (hwl:WellAll P h vals args) :
  ∃ a vs ns,vals=[KO a]/\args=[WData.list (ns.map WData.int)]/\h.get? a=some { cls:=.type "list",data:=.seq vs.toArray }/\IntsAre vs ns/\ns.length<=n:=by
 have hsh:WShape.hasAll [] args [.list .int]=true:=(pre_splitW hpre).1
 have hc:l.pre.holds [] { args:=args }=true:=(pre_splitW hpre).2
 obtain⟨d,r,rfl,h1,h2⟩:=hasAllW_cons hsh
 obtain rfl:=hasAllW_nil h2
 obtain⟨xs,rfl,h3⟩:=hasW_list h1
 obtain⟨ns,rfl⟩:=items_int h3
 have hlen:ns.length<=n:=by
  unfold OpenLaw.pre at hc
  have h4:(WTm.not (.lt (.lit (.int (n:Int))) (.len (.arg 0)))).holds [] { args:=[.list (ns.map .int)] }=true:=by
   have h4:=(holds_andW hc).1
   rw[hn]at h4
   exact h4
  have h5:=condW_of h4 (w_not (w_lt w_lit (w_len_list (w_arg rfl))))
  rw[a_]at h5
  refine FV fun q=>?_
  have q':(n:Int) < ((ns.length:Nat):Int):=by lia
  first
   | (rw[decide_eq_true q']at h5;exact absurd h5 (by decide))
   | (simp at h5;omega)
 cases hwl with
 | cons w1 w2=>
  cases w2
  cases w1 with
  | list ho hall=>exact⟨_,_,ns,rfl,rfl,ho,ji ns _ hall,hlen⟩
theorem ux(l:OpenLaw)(args:List WData):l.row.toRowW.claim.post args (.bool true) args=true:=
 postW_of (r:=l.row.toRowW) (X:=(true == true))
  (show WShape.has [] (.bool true) .bool=true by first | rfl | decide | simp[WShape.has,WShape.arms,WShape.armsAll])
  (show(WTm.eq .res (.lit (.bool true))).value [] { args:=args,res:=some (.bool true),after:=args }=some (.bool (true == true))from w_eq_bool (w_res rfl) w_lit) rfl
theorem pE{l:OpenLaw}{n:Nat}{q:Kz}{loose:List Str}{XP:(Str->Option Kj)->KH->Prop}{YP:KD->KH->Prop}{d:DefRec}
  (hn:l.most=some n) (hdf:d.params.defaults=[])
  (call:∀(w:KD) (s₀ s₁:Km) (mg mb:Str->Option Kj) (fa:Kl) (o:Obj) (pm cd doc:Kj) (a:Kl) (vs:List Kj) (ns:List Int),
   Ground q loose [] XP w s₀ mg mb s₁.heap->YP w s₁.heap->
   s₁.heap.get? fa=some o->o.data=.func (docDef d.name d.params d.body d.scope pm cd doc)->s₁.heap.CodeRec cd d.name->mg d.name=some (.ref fa)->
   s₁.heap.get? a=some { cls:=.type "list",data:=.seq vs.toArray }->IntsAre vs ns->ns.length<=n->s₁.gens=#[]->
   LQ (Kw l.prog w) NI (.call (.ref fa) ⟨[.ref a],[]⟩) (fun r s'=>r=.ok (.ret (.bool true))/\OldK s₁.heap s'.heap/\s'.os=s₁.os/\M8 s'.gens) s₁) :
  WalkO q loose XP YP l.row.toRowW d [] (fun f vs=>PZ f vs):=by
 intro w s₀ s₁ mg mb G Y fa o pm cd doc dV kV ho hd hcd hD hmg hg args vals as hpre hlay hrd hwl hlo
 obtain rfl:dV=.none:=Dflts.none hD hdf
 obtain rfl:kV=.none:=Dflts.noKw hD
 obtain⟨a,vs,ns,rfl,rfl,hobj,hints,hlen⟩:=uX hn hpre hwl
 refine enter_call (Md (call w s₀ s₁ mg mb fa o pm cd doc a vs ns G Y ho (fd_plain hd) hcd hmg hobj hints hlen hg) fun r s' hq=>?_)
 obtain⟨rfl,h2,h3,h4⟩:=hq
 exact⟨.inl ⟨.bool true,.bool true,[],rfl,fun _=>rfl,.bool true,ux l _,fun _=>⟨IL,fun _ hm=>(nomatch hm)⟩⟩,h2,h3,h4⟩
section
variable{prog:Kz}{w:KD}{A:KN}{E:Kj->Km->Prop}{s:Km}{K:Frag}
noncomputable def ledger(h:KH)(L d:Kl):List (Kl × Obj):=(m_ h.objs.size).filterMap fun a=>if a=L\/a=d then none else(h.get? a).map fun o=>(a,o)
end
end Att
namespace L2
open PySem PySem.Spec PyProof.Rows
theorem md:∀ {vs:List Kj} {ns:List Int},IntsAre vs ns->Vals (ns.map V.int) vs
 | _,_,.nil=>.nil
 | _,_,.cons n t h=>.cons ⟨t,rfl⟩ (md h)
def BZ(H:Hp):Prop:=∀ b,H b=none\/∃ o xs,H b=some (.frz o (.lst xs))
theorem x8{P:Kz}{w:KD}{K:Kk}{mg mb:Str->Option Kj}{CX:CXT}{k:Nat}{fa a:Kl}{fd:KP}{x:Str}{sp:Sp}{s₁:Km}{vs:List Kj}{ns:List Int}
  (KX:K.In s₁.heap) (hns:s₁.heap.Ns Ll mg) (hb:s₁.heap.Ns Oj mb) (hbb:∀ x:Str,x≠"__name__"->mb x=Mb x) (hlim:s₁.heap.NoLimit) (hg:s₁.gens=#[])
  (ha:s₁.heap.get? a=some { cls:=.type "list",data:=.seq vs.toArray }) (hi:IntsAre vs ns) (hl:ns.length<=sizeLine) (hr:Room k NI)
  (F:∀ base:KH,K.In base->base.Ns Ll mg->FnOk P w K mg base CX k fa fd [x] sp) (hbind:∀(s:Km) (u:Kj),Oa s fd ⟨[u],[]⟩ [(x,u)])
  (hsp:∀ H:Hp,BZ H->SqL K H a (ns.map V.int)->sp [.ref a] H (fun v _=>v=.bl true) fun _ _ _=>False)
  (hCX:∀ H e s',CX [] H s₁ (fun _ _ _=>False) e s'->False) :
  LQ (Kw P w) NI (.call (.ref fa) ⟨[.ref a],[]⟩) (fun r s'=>r=.ok (.ret (.bool true))/\OldK s₁.heap s'.heap/\s'.os=s₁.os/\M8 s'.gens) s₁:=by
 have rv:=md hi
 have lenV:=hi.length
 have core:∀ H:Hp,BZ H->SqL K H a (ns.map V.int)->HOk P w H s₁.heap->(∀ b,H b≠none->b=a)->(H a≠none->K.lookup a=none)->
   LQ (Kw P w) NI (.call (.ref fa) ⟨[.ref a],[]⟩) (fun r s'=>r=.ok (.ret (.bool true))/\OldK s₁.heap s'.heap/\s'.os=s₁.os/\M8 s'.gens) s₁:=by
  intro H hO hS hok hA hK
  have base_of:∀ {b:Kl} {o:Obj},s₁.heap.get? b=some o->H b=none->(nu s₁.heap H).get? b=some o:=fun e n=>wK e n
  have noA:∀ {b:Kl} {o:Obj} {es:Array Qv} {ep:Nat},s₁.heap.get? b=some o->o.data=.dict es ep->H b=none:=fun{b o es ep} e d=>by
   cases q:H b with
   | none=>rfl
   | some u=>
    have e':b=a:=hA b (by rw[q];simp)
    subst e'
    rw[ha]at e;cases e
    have d':Rm vs.toArray _=Data.dict es ep:=d
    cases d'
  have nsK:∀ {b:Kl} {m:Str->Option Kj},s₁.heap.Ns b m->(nu s₁.heap H).Ns b m:=fun{b m} ⟨o,es,ep,e,d,r⟩=>⟨o,es,ep,base_of e (noA e d),d,r⟩
  have hKb:K.In (nu s₁.heap H):=fun b o e=>base_of (KX b o e) (by
   cases q:H b with
   | none=>rfl
   | some u=>
    have e':b=a:=hA b (by rw[q];simp)
    subst e'
    rw[hK (by rw[q];simp)]at e;cases e)
  have hM:Mod K mg (nu s₁.heap H):=⟨hKb,nsK hns,⟨mb,nsK hb,hbb⟩,let ⟨mc,h1,h2⟩:=hlim;⟨mc,nsK h1,h2⟩⟩
  have e0:Env0 P w K mg (nu s₁.heap H) NI [] s₁ H:=⟨rfl,hM,fun b o e=>A2 e,HK (uS _ _),trivial,fun b hb=>absurd (show b∈([]:List Kl)from hb) (by simp),hok,.of_eq hg⟩
  refine Md ((F _ hKb (nsK hns)).run NI [] s₁ H ⟨[.ref a],[]⟩ [.ref a] [.ref a] _ _ hr e0 (hbind s₁ (.ref a)) (.cons rfl .nil) (hsp H hO hS)) fun r s' h=>?_
  cases r with
  | error e=>exact(hCX H e s' h).elim
  | ok fl=>
   cases fl with
   | next=>exact KJ h
   | brk=>exact KJ h
   | cont=>exact KJ h
   | ret u=>
    obtain⟨v,H',os,bare,un,hok',r',q⟩:=h
    have q':v=.bl true:=q
    subst q'
    obtain rfl:u=PD true:=r'
    refine⟨rfl,OldK.of_keep fun b o e=>?_,os,bare⟩
    cases q:H b with
    | none=>exact un.keep b o e q (by intro z;exact absurd (show b∈([]:List Kl)from z) (by simp)) (by simp)
    | some u=>
     rcases hO b with z | ⟨ob,xs,z⟩
     ·rw[q]at z;cases z
     have z2:=un.frzs b ob _ z
     obtain⟨e1,_⟩:=hok b _ z
     obtain⟨e2,_⟩:=hok' b _ z2
     rw[e]at e1;cases e1
     exact e2
 cases hk:K.lookup a with
 | some o=>
  have e:=KX a o hk
  rw[ha]at e
  cases e
  refine core (fun _=>none) (fun _=>.inl rfl) (.inr ⟨_,vs.toArray,_,hk,rfl,rfl,rfl,by rw[l_,lenV];exact hl,by simpa using rv⟩) (fun b u z=>by have z':(none:Option HO)=some u:=z;cases z') (fun b z=>absurd rfl z) fun z=>absurd rfl z
 | none=>
  refine core (fun b=>if b=a then some (.frz { cls:=.type "list",data:=.seq vs.toArray } (.lst (ns.map V.int)))else none) (fun b=>?_) (.inl (.inr ⟨{ cls:=.type "list",data:=.seq vs.toArray },if_pos rfl⟩)) (fun b u z=>?_) (fun b z=>?_) fun _=>hk
  ·by_cases hb:b=a
   ·exact .inr ⟨_,_,if_pos hb⟩
   exact .inl (if_neg hb)
  ·by_cases hb:b=a
   ·have z':=(if_pos hb).symm.trans z
    cases z'
    subst hb
    exact⟨ha,by rw[a_];exact hl,vs,_,rv,ha⟩
   have z':=(if_neg hb).symm.trans z
   cases z'
  by_cases hb:b=a
  ·exact hb
  exact absurd (if_neg hb) z
theorem zq{l:NY}{n k:Nat}{q:Kz}{loose:List Str}{XP:(Str->Option Kj)->KH->Prop}{YP:KD->KH->Prop}{d:DefRec}{K:NM->Kk}{CX:KD->CXT}{sp:KD->Sp}{x:Str}
  (hn:l.most=some n) (hn2:n<=sizeLine) (hdf:d.params.defaults=[]) (hr:Room k NI)
  (hY:∀(w:KD) (h:KH),YP w h->(K w.params).In h)
  (F:∀(w:KD) (mg:Str->Option Kj) (fa:Kl) (h:KH),(K w.params).In h->h.Ns Ll mg->mg d.name=some (.ref fa)->
   ∃ fd:KP,(∀(s:Km) (u:Kj),Oa s fd ⟨[u],[]⟩ [(x,u)])/\
    ∀ base:KH,(K w.params).In base->base.Ns Ll mg->FnOk l.prog w (K w.params) mg base (CX w) k fa fd [x] (sp w))
  (hsp:∀(w:KD) (H:Hp) (a:Kl) (ns:List Int),ns.length<=n->BZ H->SqL (K w.params) H a (ns.map V.int)->sp w [.ref a] H (fun v _=>v=.bl true) fun _ _ _=>False)
  (hCX:∀(w:KD) (H:Hp) (s:Km) (e:Kj) (s':Km),CX w [] H s (fun _ _ _=>False) e s'->False) :
  QG q loose XP YP l.row.toRowW d [] (fun f vs=>PZ f vs):=by
 refine Att.pE hn hdf fun w s₀ s₁ mg mb fa o pm cd doc a vs ns G Y ho hd hcd hmg hobj hints hlen hg=>?_
 have KX:=hY w _ Y
 obtain⟨fd,hb,hF⟩:=F w mg fa _ KX G.T.g hmg
 exact x8 KX G.T.g G.T.b G.T.builtins G.T.nolimit hg hobj hints (n_ hlen hn2) hr hF hb (fun H hO hS=>hsp w H a ns hlen hO hS) fun H e s'=>hCX w H s₁ e s'
noncomputable def cq(s:K8):Arguments:=match s with
 | .FunctionDef _ a _ _ _ _ _ _ _ _=>a
 | _=>{ posonlyargs:=[],args:=[],vararg:=none,kwonlyargs:=[],kw_defaults:=[],kwarg:=none,defaults:=[] }
def bL(s:K8):List K8:=match s with
 | .FunctionDef _ _ b _ _ _ _ _ _ _=>b
 | _=>[]
noncomputable def ai(s:K8):Lp:=match s with
 | .FunctionDef _ _ _ _ _ _ sc _ _ _=>sc
 | _=>{ kind:=.function,names:=[],isGenerator:=false,isCoroutine:=false }
abbrev CX0:CXT:=fun _ _ _ _ _ _=>False
abbrev E0:XK:=fun _ _ _=>False
theorem Ep{X:Cx}:Passes CX0 X E0:=fun _ _ _ _ _ _ _ h=>h.elim
structure Fun (K:Kk) (x qual:Str) (st:K8) (f:Kl) (fd:KP):Prop where
 ex:∃(oc:Kj) (od:Option Kl) (kV doc pm:Kj) (an:Option Kl) (cdv ct:Kj) (osl:Array (Option Kj)),
  fd=LY x qual (cq st) (bL st) (ai st) .none kV doc pm an cdv ct/\K.lookup f=some ⟨oc,od,.func fd,osl⟩/\Ng K cdv qual=true
 kp:MN K (.ref f)=true
section
variable{P:Kz}{w:KD}{K:Kk}{mg:Str->Option Kj}{base:KH}
theorem Fun.ok {x qual:Str}{st:K8}{f:Kl}{fd:KP}{N ps:List Str}{k:Nat}{sp:Sp}(F:Fun K x qual st f fd)(S:FnScope N ps (ai st))(len:∀ vs H Q E,sp vs H Q E->vs.length=ps.length)
  (hbody:∀(cdv:Kj) (A:KN) (outer:List Env) (s:Km) (H:Hp) (vs:List V) (Q:VK) (E:XK),Room k (A.deeper (Na qual (ai st) s.heap.objs.size f cdv))->sp vs H Q E->
   ∃ t,PSs (qm CX0 P w K mg base N qual (ai st) f cdv A outer s H E).nox (bL st) t/\t { nx:=fun _ H'=>Q .non H',rt:=Q } (start N vs) H):FnOk P w K mg base CX0 (k + 1) f fd ps sp:=by
 obtain⟨oc,od,kV,doc,pm,an,cdv,ct,osl,rfl,lk,hcd⟩:=F.ex
 refine EK lk hcd S len fun A outer s H vs Q E hr hsp=>?_
 obtain⟨t,h,q⟩:=hbody cdv A outer s H vs Q E hr hsp
 exact⟨t,h.nox,q⟩
theorem Fun.binds {x qual:Str}{st:K8}{f:Kl}{fd:KP}{ps:List Str}(F:Fun K x qual st f fd)
  (h:∀(kV doc pm:Kj) (an:Option Kl) (cdv ct:Kj) (us:List Kj),us.length=ps.length->Rj (LY x qual (cq st) (bL st) (ai st) .none kV doc pm an cdv ct) ⟨us,[]⟩=pure (ps.zip us)):Binds K fd ps []:=by
 obtain⟨oc,od,kV,doc,pm,an,cdv,ct,osl,rfl,lk,hcd⟩:=F.ex
 exact .all (h kV doc pm an cdv ct)
theorem rA{x qual:Str}{st:K8}{f:Kl}{oc:Kj}{od an:Option Kl}{osl:Array (Option Kj)}{kV doc pm cdv ct:Kj}(l:K.lookup f=some ⟨oc,od,.func (LY x qual (cq st) (bL st) (ai st) .none kV doc pm an cdv ct),osl⟩)
  (c:Ng K cdv qual=true) (k:MN K (.ref f)=true):Fun K x qual st f (LY x qual (cq st) (bL st) (ai st) .none kV doc pm an cdv ct):=⟨⟨oc,od,kV,doc,pm,an,cdv,ct,osl,rfl,l,c⟩,k⟩
end
theorem eV{A:KN}{k:Nat}(hr:Room k A):A.units + 1 < cLine:=FW (Hw (by decide:1<=64) _) hr.units
section
variable{X:Cx}
theorem pv(i:Nat){x:Str}{pos:Pos}(hN:X.N[i]?=some x:=by rfl)(hv:Vis X.env.scope x:=by first | exact j' rfl | exact j_ (j' rfl) | exact j_ (j_ rfl))(hd:(x ==("__debug__":Str))=false:=by decide)
  (hcd:(x ==("__classdict__":Str))=false:=by decide):PE X (.Name x pos) (zu i):=d8 hN hv hd hcd
end
theorem EV{A B:Prop}(h:B):if false=true then A else B:=by
 rw[if_neg B_]
 exact h
theorem Cs{A B:Prop}(h:A):if true=true then A else B:=by
 rw[if_pos rfl]
 exact h
def aH(H H':Hp):Prop:=∀ b o,H b=some o->H' b=some o
theorem aH.seq {K:Kk}{H H':Hp}{a:Kl}{xs:List V}(e:aH H H')(h:SqL K H a xs):SqL K H' a xs:=by
 rcases h with (h | ⟨o,h⟩) | h
 ·exact .inl (.inl (e _ _ h))
 ·exact .inl (.inr ⟨o,e _ _ h⟩)
 exact .inr h
end L2
namespace ZG
open PySem
def Sq(b:Bool)(h:KH)(l:Kl)(xs:Array Kj):Prop:=match b with
 | true=>h.IsTuple l xs
 | false=>h.IsList l xs
def Dr(b:Bool)(h:KH)(i l:Kl)(k:Nat):Prop:=match b with
 | true=>h.IsTupleIter i l k
 | false=>h.IsListIter i l k
theorem Sq.ext {b:Bool}{h h':KH}{l c:Kl}{xs:Array Kj}(x:Sq b h l xs)(k:M1 c h h')(n:l≠c):Sq b h' l xs:=by
 cases b with
 | true=>exact R6 (show h.IsTuple l xs from x) k n
 | false=>exact Se (show h.IsList l xs from x) k n
theorem Dr.ext {b:Bool}{h h':KH}{i l c:Kl}{k:Nat}(x:Dr b h i l k)(e:M1 c h h')(n:i≠c):Dr b h' i l k:=by
 cases b with
 | true=>exact RD (show h.IsTupleIter i l k from x) e n
 | false=>exact RN (show h.IsListIter i l k from x) e n
theorem Dr.some {b:Bool}{h:KH}{i l:Kl}{k:Nat}(x:Dr b h i l k):∃ o,h.get? i=some o/\∀ v,o.data≠.cell v:=by
 cases b with
 | true=>obtain⟨o,e,_,d⟩:=(show h.IsTupleIter i l k from x);exact⟨o,e,fun v z=>by rw[d]at z;cases z⟩
 | false=>obtain⟨o,e,_,d⟩:=(show h.IsListIter i l k from x);exact⟨o,e,fun v z=>by rw[d]at z;cases z⟩
theorem Dr.at {b:Bool}{h h':KH}{i l:Kl}{k:Nat}(x:Dr b h i l k)(e:∀ o,h.get? i=Jf o->h'.get? i=Jf o):Dr b h' i l k:=by
 cases b with
 | true=>obtain⟨o,q,r⟩:=(show h.IsTupleIter i l k from x);exact⟨o,e o q,r⟩
 | false=>obtain⟨o,q,r⟩:=(show h.IsListIter i l k from x);exact⟨o,e o q,r⟩
theorem Sq.at {b:Bool}{h h':KH}{l:Kl}{xs:Array Kj}(x:Sq b h l xs)(e:∀ o,h.get? l=Jf o->h'.get? l=Jf o):Sq b h' l xs:=by
 cases b with
 | true=>obtain⟨o,q,r⟩:=(show h.IsTuple l xs from x);exact⟨o,e o q,r⟩
 | false=>obtain⟨o,q,r⟩:=(show h.IsList l xs from x);exact⟨o,e o q,r⟩
section
variable{prog:Kz}{w:KD}{A:KN}{E:Kj->Km->Prop}{s:Km}
theorem zp{i l:Kl}{k:Nat}{xs:Array Kj}{v:Kj}{Q:Kj->Km->Prop}(d:s.heap.IsTupleIter i l k)(q:s.heap.IsTuple l xs)(hv:xs[k]?=some v)
  (r:∀ g,g.IsTupleIter i l (k + 1)->Lj i s.heap g->Q v { s with heap:=g }):Kr (Kw prog w) A (KZ (.ref i)) Q E s:=by
 obtain⟨oi,hoi,ci,di⟩:=id d
 obtain⟨ol,hol,_,nl,dl⟩:=q
 unfold KZ
 refine Ki (Ln (name:=Ls "__next__") d.typeIs L6 (Lq L6 d.typeIs Nm ?_ (Nh _)))
 show Kr _ _ (Ot (.ref i) 0 >>= _) _ _ s
 refine Ki (LL hoi di (x:=.ref l) rfl ?_)
 show Kr _ _ (if(KO l == K')=true then _ else _) _ _ s
 rw[if_neg (show ¬((KO l == K')=true)from B_)]
 show Kr _ _ (Ot (.ref i) 1 >>= _) _ _ s
 refine Ki (LL hoi di (x:=.int k 0) rfl ?_)
 show Kr _ _ (MI (.ref l) >>= _) _ _ s
 refine Ki (Lk hol dl ?_)
 simp only[E_,hv]
 refine Ki (LU hoi di (by simp) (Ko ⟨v,rfl,Ko (r _ ?_ (Le ..))⟩))
 exact⟨_,K6 _ hoi (L5 (K_ di _)),(MX ..).trans ci,by rw[K_ di];simp[Lr]⟩
theorem Cd{i l:Kl}{k:Nat}{xs:Array Kj}{Q:Kj->Km->Prop}(hh:A.handled=none)(d:s.heap.IsTupleIter i l k)(q:s.heap.IsTuple l xs)(hv:xs[k]?=none)
  (r:∀ g e,M1 i s.heap g->(∃ o,g.get? e=some o/\o.cls=.type "StopIteration")->E (.ref e) { s with heap:=g }):Kr (Kw prog w) A (KZ (.ref i)) Q E s:=by
 obtain⟨oi,hoi,ci,di⟩:=id d
 obtain⟨ol,hol,_,nl,dl⟩:=q
 unfold KZ
 refine Ki (Ln (name:=Ls "__next__") d.typeIs L6 (Lq L6 d.typeIs Nm ?_ (Nh _)))
 show Kr _ _ (Ot (.ref i) 0 >>= _) _ _ s
 refine Ki (LL hoi di (x:=.ref l) rfl ?_)
 show Kr _ _ (if(KO l == K')=true then _ else _) _ _ s
 rw[if_neg (show ¬((KO l == K')=true)from B_)]
 show Kr _ _ (Ot (.ref i) 1 >>= _) _ _ s
 refine Ki (LL hoi di (x:=.int k 0) rfl ?_)
 show Kr _ _ (MI (.ref l) >>= _) _ _ s
 refine Ki (Lk hol dl ?_)
 simp only[E_,hv]
 refine Ki (LW (Ki (LU hoi di (by simp) ?_)))
 show Kr _ _ (OU (.type "StopIteration") [] >>= _) _ _ _
 refine Ki ?_
 simp only[OU,Rn]
 refine Ki (K7 ?_ (by size_fits))
 refine Ki (m:=Mu _ _) (Mq (a:=K') (by first | rfl | (simp only[Mu];rfl)) ?_)
 refine K7 ?_ (by size_fits)
 simp only[Ro]
 refine Ki (OC ?_)
 first | rw[show A.in1.handled=none from hh] | rw[hh]
 refine Ki (Ko (Pg ?_))
 exact r _ _ (((Le ..).extBut.push _).push _) ⟨_,Kt _ rfl,rfl⟩
theorem mF{b:Bool}{i l:Kl}{k:Nat}{xs:Array Kj}{v:Kj}{Q:Kj->Km->Prop}(d:Dr b s.heap i l k)(q:Sq b s.heap l xs)(hv:xs[k]?=some v)
  (r:∀ g,Dr b g i l (k + 1)->Lj i s.heap g->Q v { s with heap:=g }):Kr (Kw prog w) A (KZ (.ref i)) Q E s:=by
 cases b with
 | true=>exact zp d q hv r
 | false=>exact wpAny_nextOf_list_item d q hv r
theorem vy{b:Bool}{i l:Kl}{k:Nat}{xs:Array Kj}{Q:Kj->Km->Prop}(hh:A.handled=none)(d:Dr b s.heap i l k)(q:Sq b s.heap l xs)(hv:xs[k]?=none)
  (r:∀ g e,M1 i s.heap g->(∃ o,g.get? e=some o/\o.cls=.type "StopIteration")->E (.ref e) { s with heap:=g }):Kr (Kw prog w) A (KZ (.ref i)) Q E s:=by
 cases b with
 | true=>exact Cd hh d q hv r
 | false=>exact wpAny_nextOf_list_end hh d q hv r
theorem y4{b:Bool}{l:Kl}{xs:Array Kj}{Q:Kj->Km->Prop}(q:Sq b s.heap l xs)(r:∀ g,Dr b g s.heap.objs.size l 0->g.objs.size=s.heap.objs.size + 1->(∀ c o,s.heap.get? c=some o->g.get? c=some o)->Q (.ref s.heap.objs.size) { s with heap:=g }) :
  Kr (Kw prog w) A (M' (.ref l)) Q E s:=by
 cases b with
 | true=>exact Lm q (r _ ⟨_,Kt _ rfl,rfl,rfl⟩ (K0 ..) fun c o e=>Kn _ e)
 | false=>exact LG q (r _ ⟨_,Kt _ rfl,rfl,rfl⟩ (K0 ..) fun c o e=>Kn _ e)
structure Off (z TI TO i1 i2 l1 l2:Kl):Prop where
 a1:TI≠z
 a2:TO≠z
 a3:i1≠z
 a4:i2≠z
 a5:TI≠TO
 a6:TI≠i1
 a7:TI≠i2
 a8:TO≠i1
 a9:TO≠i2
 b1:i1≠i2
 c1:l1≠z
 c2:l1≠TO
 c3:l1≠i1
 c4:l1≠i2
 e1:l2≠z
 e2:l2≠TO
 e3:l2≠i1
 e4:l2≠i2
theorem E4{b1 b2:Bool}{z TI TO i1 i2 l1 l2:Kl}{k:Nat}{xs ys:Array Kj}{x y a b:Kj}{Q:Kj->Km->Prop}(D:Off z TI TO i1 i2 l1 l2)
  (hz:Mw s.heap z TI TO .none) (hi:LM s.heap TI (.ref i1) (.ref i2)) (ho:LM s.heap TO a b)
  (d1:Dr b1 s.heap i1 l1 k) (d2:Dr b2 s.heap i2 l2 k) (q1:Sq b1 s.heap l1 xs) (q2:Sq b2 s.heap l2 ys) (hx:xs[k]?=some x) (hy:ys[k]?=some y)
  (r:∀ g,Mw g z TI TO (Lr s.heap.objs.size)->LM g TO x y->Dr b1 g i1 l1 (k + 1)->Dr b2 g i2 l2 (k + 1)->LM g s.heap.objs.size x y->g.objs.size=s.heap.objs.size + 1->
   (∀ c o,c≠z->c≠TO->c≠i1->c≠i2->s.heap.get? c=some o->g.get? c=some o)->Q (.ref s.heap.objs.size) { s with heap:=g }) :
  Kr (Kw prog w) A (LC.«zip.__next__» ⟨[.ref z],[]⟩) (fun fin s'=>∃ v,fin=.done (.ret v)/\Q v s') E s:=by
 show Kr _ _ (Ot (.ref z) 2 >>= _) _ _ _
 refine Ki (LL hz rfl (x:=.bool false) rfl ?_)
 show Kr _ _ (Ot (.ref z) 3 >>= _) _ _ _
 refine Ki (LL hz rfl (x:=.ref TI) rfl (Ki (Lk hi rfl ?_)))
 show Kr _ _ (LD (.ref z) >>= _) _ _ _
 refine Ki ?_
 unfold LD
 refine Ki (LL hz rfl (x:=.none) rfl (Ko ?_))
 simp only[if_true]
 refine Ki (LW (Ki (LL hz rfl (x:=.ref TO) rfl (Ki (LZ hz (by simp) fun g1 z1 s1=>?_)))))
 have z1:Mw g1 z TI TO .ellipsis:=z1
 refine Ki ?_
 simp only[IS,JR,HC,Jj]
 refine Ki (Ki (Nt ?_))
 show Kr _ _ (KZ (.ref i1) >>= _) _ _ _
 refine Ki (mF (d1.ext s1.extBut D.a3) (q1.ext s1.extBut D.c1) hx fun g2 w2 s2=>Ko ?_)
 have o2:LM g2 TO a b:=s2.extBut _ _ D.a8 (s1.extBut _ _ D.a2 ho)
 refine Ki (Lk o2 rfl (Ki (Nb o2 fun g3 o3 s3=>?_)))
 have o3:LM g3 TO x b:=o3
 refine Ki (Mr (Ko (Ki (Ki (Nt ?_)))))
 show Kr _ _ (KZ (.ref i2) >>= _) _ _ _
 refine Ki (mF (((d2.ext s1.extBut D.a4).ext s2.extBut D.b1.symm).ext s3.extBut D.a9.symm) (((q2.ext s1.extBut D.e1).ext s2.extBut D.e3).ext s3.extBut D.e2) hy fun g4 w4 s4=>Ko ?_)
 have o4:LM g4 TO x b:=s4.extBut _ _ D.a9 o3
 refine Ki (Lk o4 rfl (Ki (Nb o4 fun g5 o5 s5=>?_)))
 have o5:LM g5 TO x y:=o5
 refine Ki (Mr (Ko (Ko (Ki (Lk o5 rfl (Ki (Qk ?_)))))))
 have sz:g5.objs.size=s.heap.objs.size:=by rw[s5.1,s4.1,s3.1,s2.1,s1.1]
 have z5:Mw g5 z TI TO .ellipsis:=s5.extBut _ _ D.a2.symm (s4.extBut _ _ D.a4.symm (s3.extBut _ _ D.a2.symm (s2.extBut _ _ D.a3.symm z1)))
 have k5:∀ c o,c≠z->c≠TO->c≠i1->c≠i2->s.heap.get? c=some o->g5.get? c=some o:=fun c o n1 n2 n3 n4 e=>
  s5.extBut _ _ n2 (s4.extBut _ _ n4 (s3.extBut _ _ n2 (s2.extBut _ _ n3 (s1.extBut _ _ n1 e))))
 have w15:Dr b1 g5 i1 l1 (k + 1):=((w2.ext s3.extBut D.a8.symm).ext s4.extBut D.b1).ext s5.extBut D.a8.symm
 have w25:Dr b2 g5 i2 l2 (k + 1):=w4.ext s5.extBut D.a9.symm
 have zlt:z < g5.objs.size:=Ky z5
 show Kr _ _ (MJ (.ref z) (.ref g5.objs.size) >>= _) _ _ _
 refine Ki ?_
 unfold MJ
 have z6:Mw (g5.push { cls:=.type "tuple",data:=.seq #[x,y] }) z TI TO .ellipsis:=Kn _ z5
 refine Ki (LZ z6 (by simp) fun g7 z7 s7=>?_)
 have z7:Mw g7 z TI TO (Lr g5.objs.size):=z7
 refine LZ z7 (by simp) fun g8 z8 s8=>?_
 have z8:Mw g8 z TI TO (Lr g5.objs.size):=z8
 have up:∀ c o,c≠z->g5.get? c=some o->g8.get? c=some o:=fun c o n e=>s8.extBut _ _ n (s7.extBut _ _ n (Kn _ e))
 have t8:LM g8 g5.objs.size x y:=s8.extBut _ _ (G0 zlt) (s7.extBut _ _ (G0 zlt) (Kt _ rfl))
 have e8:g8.objs.size=g5.objs.size + 1:=by rw[s8.1,s7.1,K0]
 rw[sz]at z8 t8 e8
 refine Ko ⟨_,rfl,?_⟩
 show Q (.ref g5.objs.size) _
 rw[sz]
 exact r g8 z8 (up _ _ D.a2 o5) (w15.at fun o e=>up _ o D.a3 e) (w25.at fun o e=>up _ o D.a4 e) t8 e8 fun c o n1 n2 n3 n4 e=>up c o n1 (k5 c o n1 n2 n3 n4 e)
theorem zEnd{b1 b2:Bool}{z TI TO i1 i2 l1 l2:Kl}{k:Nat}{xs ys:Array Kj}{a b:Kj}{Q:Fin->Km->Prop}(hh:A.handled=none)(D:Off z TI TO i1 i2 l1 l2)
  (hz:Mw s.heap z TI TO .none) (hi:LM s.heap TI (.ref i1) (.ref i2)) (ho:LM s.heap TO a b)
  (d1:Dr b1 s.heap i1 l1 k) (d2:Dr b2 s.heap i2 l2 k) (q1:Sq b1 s.heap l1 xs) (q2:Sq b2 s.heap l2 ys) (hn:xs[k]?=none\/ys[k]?=none)
  (r:∀ g e,(∀ c o,c≠z->c≠TO->c≠i1->c≠i2->s.heap.get? c=some o->g.get? c=some o)->(∃ o,g.get? e=some o/\o.cls=.type "StopIteration")->E (.ref e) { s with heap:=g }) :
  Kr (Kw prog w) A (LC.«zip.__next__» ⟨[.ref z],[]⟩) Q E s:=by
 show Kr _ _ (Ot (.ref z) 2 >>= _) _ _ _
 refine Ki (LL hz rfl (x:=.bool false) rfl ?_)
 show Kr _ _ (Ot (.ref z) 3 >>= _) _ _ _
 refine Ki (LL hz rfl (x:=.ref TI) rfl (Ki (Lk hi rfl ?_)))
 show Kr _ _ (LD (.ref z) >>= _) _ _ _
 refine Ki ?_
 unfold LD
 refine Ki (LL hz rfl (x:=.none) rfl (Ko ?_))
 simp only[if_true]
 refine Ki (LW (Ki (LL hz rfl (x:=.ref TO) rfl (Ki (LZ hz (by simp) fun g1 z1 s1=>?_)))))
 have z1:Mw g1 z TI TO .ellipsis:=z1
 refine Ki ?_
 simp only[IS,JR,HC,Jj]
 refine Ki (Ki (Nt ?_))
 show Kr _ _ (KZ (.ref i1) >>= _) _ _ _
 cases hx:xs[k]? with
 | none=>
  refine Ki (vy hh (d1.ext s1.extBut D.a3) (q1.ext s1.extBut D.c1) hx fun g2 e s2 he=>?_)
  obtain⟨oe,hoe,ce⟩:=he
  have z2:Mw g2 z TI TO .ellipsis:=s2 _ _ D.a3.symm z1
  have ne:e≠z:=fun q=>by subst q;rw[z2]at hoe;cases hoe;simp at ce
  exact LZ z2 (by simp) fun g3 _ s3=>r g3 e (fun c o n1 _ n3 _ q=>s3.extBut _ _ n1 (s2 _ _ n3 (s1.extBut _ _ n1 q))) ⟨oe,s3.extBut _ _ ne hoe,ce⟩
 | some x=>
  have hy:ys[k]?=none:=by
   rcases hn with h | h
   ·rw[hx]at h;cases h
   exact h
  refine Ki (mF (d1.ext s1.extBut D.a3) (q1.ext s1.extBut D.c1) hx fun g2 w2 s2=>Ko ?_)
  have o2:LM g2 TO a b:=s2.extBut _ _ D.a8 (s1.extBut _ _ D.a2 ho)
  refine Ki (Lk o2 rfl (Ki (Nb o2 fun g3 o3 s3=>?_)))
  refine Ki (Mr (Ko (Ki (Ki (Nt ?_)))))
  show Kr _ _ (KZ (.ref i2) >>= _) _ _ _
  refine Ki (vy hh (((d2.ext s1.extBut D.a4).ext s2.extBut D.b1.symm).ext s3.extBut D.a9.symm) (((q2.ext s1.extBut D.e1).ext s2.extBut D.e3).ext s3.extBut D.e2) hy fun g4 e s4 he=>?_)
  obtain⟨oe,hoe,ce⟩:=he
  have z4:Mw g4 z TI TO .ellipsis:=s4 _ _ D.a4.symm (s3.extBut _ _ D.a2.symm (s2.extBut _ _ D.a3.symm z1))
  have ne:e≠z:=fun q=>by subst q;rw[z4]at hoe;cases hoe;simp at ce
  exact LZ z4 (by simp) fun g5 _ s5=>r g5 e (fun c o n1 n2 n3 n4 q=>s5.extBut _ _ n1 (s4 _ _ n4 (s3.extBut _ _ n2 (s2.extBut _ _ n3 (s1.extBut _ _ n1 q))))) ⟨oe,s5.extBut _ _ ne hoe,ce⟩
theorem oE{b1 b2:Bool}{z TI TO i1 i2 l1 l2:Kl}{k:Nat}{xs ys:Array Kj}{x y a b:Kj}{Q:Option Kj->Km->Prop}(D:Off z TI TO i1 i2 l1 l2)
  (hz:Mw s.heap z TI TO .none) (hi:LM s.heap TI (.ref i1) (.ref i2)) (ho:LM s.heap TO a b)
  (d1:Dr b1 s.heap i1 l1 k) (d2:Dr b2 s.heap i2 l2 k) (q1:Sq b1 s.heap l1 xs) (q2:Sq b2 s.heap l2 ys) (hx:xs[k]?=some x) (hy:ys[k]?=some y)
  (r:∀ g,Mw g z TI TO (Lr s.heap.objs.size)->LM g TO x y->Dr b1 g i1 l1 (k + 1)->Dr b2 g i2 l2 (k + 1)->LM g s.heap.objs.size x y->g.objs.size=s.heap.objs.size + 1->
   (∀ c o,c≠z->c≠TO->c≠i1->c≠i2->s.heap.get? c=some o->g.get? c=some o)->Q (some (.ref s.heap.objs.size)) { s with heap:=g }) :
  Kr (Kw prog w) A (L7 (.ref z)) Q E s:=by
 have hT:s.TypeIs (.ref z) "zip":=⟨_,hz,rfl⟩
 unfold L7
 refine Ki (Ml (Ln (name:=Ls "__next__") hT Nc (Lq Nc hT Pn ?_ (O4 _))))
 exact E4 D hz hi ho d1 d2 q1 q2 hx hy fun g p1 p2 p3 p4 p5 p6 p7=>Ko (r g p1 p2 p3 p4 p5 p6 p7)
theorem rH{b1 b2:Bool}{z TI TO i1 i2 l1 l2:Kl}{k:Nat}{xs ys:Array Kj}{a b:Kj}{Q:Option Kj->Km->Prop}(hh:A.handled=none)(D:Off z TI TO i1 i2 l1 l2)
  (hz:Mw s.heap z TI TO .none) (hi:LM s.heap TI (.ref i1) (.ref i2)) (ho:LM s.heap TO a b)
  (d1:Dr b1 s.heap i1 l1 k) (d2:Dr b2 s.heap i2 l2 k) (q1:Sq b1 s.heap l1 xs) (q2:Sq b2 s.heap l2 ys) (hn:xs[k]?=none\/ys[k]?=none)
  (r:∀ g,(∀ c o,c≠z->c≠TO->c≠i1->c≠i2->s.heap.get? c=some o->g.get? c=some o)->Q none { s with heap:=g }):Kr (Kw prog w) A (L7 (.ref z)) Q E s:=by
 have hT:s.TypeIs (.ref z) "zip":=⟨_,hz,rfl⟩
 unfold L7
 refine Ki (Ml (Ln (name:=Ls "__next__") hT Nc (Lq Nc hT Pn (zEnd hh D hz hi ho d1 d2 q1 q2 hn fun g e k he=>?_) (O4 _))))
 obtain⟨o,he,hc⟩:=he
 exact Ki (Mx (T:="StopIteration") (b:=true) ⟨o,he,hc⟩ Oe (Ko (r _ k)))
end
def nm(b:Bool):String:=if b=true then "tuple_iterator" else "list_iterator"
abbrev Z1(h:KH)(b1:Bool)(l1:Kl):KH:=h.push { cls:=.type (nm b1),data:=.fields #[.ref l1,.int 0 0] }
abbrev Z2(h:KH)(b1 b2:Bool)(l1 l2:Kl):KH:=(Z1 h b1 l1).push { cls:=.type (nm b2),data:=.fields #[.ref l2,.int 0 0] }
abbrev Z3(h:KH)(b1 b2:Bool)(l1 l2:Kl):KH:=(Z2 h b1 b2 l1 l2).push { cls:=.type "tuple",data:=.seq #[.ref h.objs.size,.ref (Z1 h b1 l1).objs.size] }
abbrev Z4(h:KH)(b1 b2:Bool)(l1 l2:Kl):KH:=(Z3 h b1 b2 l1 l2).push { cls:=.type "tuple",data:=.seq #[.none,.none] }
abbrev Z5(h:KH)(b1 b2:Bool)(l1 l2:Kl):KH:=(Z4 h b1 b2 l1 l2).push { cls:=.type "zip",data:=.fields #[.none,.bool false,.bool false,.ref (Z2 h b1 b2 l1 l2).objs.size,.ref (Z3 h b1 b2 l1 l2).objs.size] }
set_option maxHeartbeats 4000000 in
theorem ye(b1 b2:Bool)(l1 l2:Kl)(xs ys:Array Kj) :
  QZ (LC.«zip.__new__» ⟨[.type "zip",.ref l1,.ref l2],[]⟩) (fun _ R s=>Sq b1 s.heap l1 xs/\Sq b2 s.heap l2 ys/\R (.ok (.ret (.ref (Z4 s.heap b1 b2 l1 l2).objs.size))) { s with heap:=Z5 s.heap b1 b2 l1 l2 }):=
 .of_wp fun prog w A R s h=>by
  obtain⟨hp,g,d,tk,os⟩:=s
  obtain⟨q1,q2,h⟩:=h
  have hsub:=sub_zip
  cases b1 with
  | false=>
   have p1:Ph (MC ⟨hp,g,d,tk,os⟩) l1 xs:=q1
   cases b2 with
   | false=>
    have p2:Ph (MC ⟨hp.push { cls:=.type "list_iterator",data:=.fields #[.ref l1,.int 0 0] },g,d,tk,os⟩) l2 ys:=Po q2 _
    wp_walk using LG p1,LG p2
    exact⟨_,rfl,h⟩
   | true=>
    have p2:NN (MC ⟨hp.push { cls:=.type "list_iterator",data:=.fields #[.ref l1,.int 0 0] },g,d,tk,os⟩) l2 ys:=O5 q2 _
    wp_walk using LG p1,Lm p2
    exact⟨_,rfl,h⟩
  | true=>
   have p1:NN (MC ⟨hp,g,d,tk,os⟩) l1 xs:=q1
   cases b2 with
   | false=>
    have p2:Ph (MC ⟨hp.push { cls:=.type "tuple_iterator",data:=.fields #[.ref l1,.int 0 0] },g,d,tk,os⟩) l2 ys:=Po q2 _
    wp_walk using Lm p1,LG p2
    exact⟨_,rfl,h⟩
   | true=>
    have p2:NN (MC ⟨hp.push { cls:=.type "tuple_iterator",data:=.fields #[.ref l1,.int 0 0] },g,d,tk,os⟩) l2 ys:=O5 q2 _
    wp_walk using Lm p1,Lm p2
    exact⟨_,rfl,h⟩
section
variable{prog:Kz}{w:KD}{A:KN}{E:Kj->Km->Prop}{s:Km}
theorem xk{b1 b2:Bool}{l1 l2:Kl}{xs ys:Array Kj}{Q:Kj->Km->Prop}(q1:Sq b1 s.heap l1 xs)(q2:Sq b2 s.heap l2 ys)
  (r:∀ g,Mw g (s.heap.objs.size + 4) (s.heap.objs.size + 2) (s.heap.objs.size + 3) .none->LM g (s.heap.objs.size + 2) (.ref s.heap.objs.size) (.ref (s.heap.objs.size + 1))->LM g (s.heap.objs.size + 3) .none .none->
    Dr b1 g s.heap.objs.size l1 0->Dr b2 g (s.heap.objs.size + 1) l2 0->g.objs.size=s.heap.objs.size + 5->(∀ c o,s.heap.get? c=some o->g.get? c=some o)->Q (.ref (s.heap.objs.size + 4)) { s with heap:=g }) :
  Kr (Kw prog w) A (call (.type "zip") [.ref l1,.ref l2]) Q E s:=by
 refine Rq F.called_zip (by decide) (F.typeCall_zip_2 _ _) (F.newCall_zip_2 _ _) (fun obj=>F.args_object_init_3 obj _ _) F.entry_zip_new (ye b1 b2 l1 l2 xs ys) ⟨q1,q2,?_⟩
 have z1:(Z1 s.heap b1 l1).objs.size=s.heap.objs.size + 1:=K0 ..
 have z2:(Z2 s.heap b1 b2 l1 l2).objs.size=s.heap.objs.size + 2:=by rw[K0,z1]
 have z3:(Z3 s.heap b1 b2 l1 l2).objs.size=s.heap.objs.size + 3:=by rw[K0,z2]
 have z4:(Z4 s.heap b1 b2 l1 l2).objs.size=s.heap.objs.size + 4:=by rw[K0,z3]
 have z5:(Z5 s.heap b1 b2 l1 l2).objs.size=s.heap.objs.size + 5:=by rw[K0,z4]
 have u5:∀ c o,(Z4 s.heap b1 b2 l1 l2).get? c=some o->(Z5 s.heap b1 b2 l1 l2).get? c=some o:=fun c o e=>Kn _ e
 have u4:∀ c o,(Z3 s.heap b1 b2 l1 l2).get? c=some o->(Z5 s.heap b1 b2 l1 l2).get? c=some o:=fun c o e=>u5 c o (Kn _ e)
 have u3:∀ c o,(Z2 s.heap b1 b2 l1 l2).get? c=some o->(Z5 s.heap b1 b2 l1 l2).get? c=some o:=fun c o e=>u4 c o (Kn _ e)
 have u2:∀ c o,(Z1 s.heap b1 l1).get? c=some o->(Z5 s.heap b1 b2 l1 l2).get? c=some o:=fun c o e=>u3 c o (Kn _ e)
 have g5:(Z5 s.heap b1 b2 l1 l2).get? (Z4 s.heap b1 b2 l1 l2).objs.size=some _:=Kt _ rfl
 have g4:=u5 (Z3 s.heap b1 b2 l1 l2).objs.size _ (Kt _ rfl)
 have g3:=u4 (Z2 s.heap b1 b2 l1 l2).objs.size _ (Kt _ rfl)
 have g2:=u3 (Z1 s.heap b1 l1).objs.size _ (Kt _ rfl)
 have g1:=u2 s.heap.objs.size _ (Kt _ rfl)
 show _/\_
 rw[z2,z3,z4]at g5
 rw[z1,z2]at g3
 rw[z3]at g4
 rw[z1]at g2
 rw[z4]
 refine⟨⟨_,g5,rfl⟩,r _ g5 g3 g4 ?_ ?_ z5 fun c o e=>u2 c o (Kn _ e)⟩
 ·cases b1 with
  | true=>exact⟨_,g1,rfl,rfl⟩
  | false=>exact⟨_,g1,rfl,rfl⟩
 cases b2 with
 | true=>exact⟨_,g2,rfl,rfl⟩
 | false=>exact⟨_,g2,rfl,rfl⟩
end
end ZG
namespace L2
open PySem PySem.Spec PyProof.Rows
noncomputable def cp(env:Env):List (Str × Me)->List (Str × Kl)->List (Str × Kl)
 | [],cs=>cs
 | x::r,cs=>cp env r (if(x.2 == LP)=true then(x.1,(env.cells.lookup x.1).getD 0)::cs else cs)
theorem kM{env:Env}(f:Str × Me->List (Str × Kl)->Sem (ForInStep (List (Str × Kl))))(hf:∀ n k cs,f (n,k) cs=if(k == LP)=true then(do let a <-cellOf env n;pure (KL ((n,a)::cs)))else pure (KL cs)) :
  ∀(names:List (Str × Me)) (cs:List (Str × Kl)),(∀ x∈names,x.2=.free->∃ c,env.cells.lookup x.1=some c)->forIn names cs f=pure (cp env names cs)
 | [],cs,_=>by rw[Jj];rfl
 | (n,k)::r,cs,h=>by
  rw[HC,hf]
  have hr:∀ x∈r,x.2=.free->∃ c,env.cells.lookup x.1=some c:=fun x hx=>h x (o_ _ hx)
  by_cases e:(k == LP)=true
  ·obtain⟨c,hc⟩:=h (n,k) y_ (by simpa using e)
   have hc':env.cells.lookup n=some c:=hc
   rw[if_pos e]
   have q:cellOf env n=pure c:=by unfold cellOf;rw[hc']
   rw[q,pure_bind,pure_bind]
   show forIn r ((n,c)::cs) f=pure (cp env ((n,k)::r) cs)
   rw[kM f hf r _ hr]
   unfold cp
   rw[if_pos e,hc']
   cases r <;> rfl
  rw[if_neg e,pure_bind]
  show forIn r cs f=pure (cp env ((n,k)::r) cs)
  rw[kM f hf r _ hr]
  conv=>rhs;unfold cp
  rw[if_neg e]
theorem kj{sc:Lp}{env:Env}(h:∀ x∈sc.names,x.2=.free->∃ c,env.cells.lookup x.1=some c):closureFor sc env=pure (cp env sc.names []):=by
 unfold closureFor
 show(forIn sc.names [] _ >>= fun cs=>pure cs)=_
 rw[kM (env:=env) _ (fun n k cs=>by cases e:k == LP <;> simp[e]) sc.names [] h]
 rfl
theorem oD{env:Env}:∀ {names:List (Str × Me)} {cs:List (Str × Kl)} {x:Str} {c:Kl},(∀ y∈names,y.2=.free->∃ c,env.cells.lookup y.1=some c)->(cp env names cs).lookup x=some c->
  (env.cells.lookup x=some c/\(x,LP)∈names)\/cs.lookup x=some c
 | [],cs,x,c,_,h=>.inr h
 | (n,k)::r,cs,x,c,hn,h=>by
  unfold cp at h
  have hr:∀ y∈r,y.2=.free->∃ c,env.cells.lookup y.1=some c:=fun y hy=>hn y (o_ _ hy)
  have hh:=oD hr h
  clear h
  rcases hh with⟨h1,h2⟩ | h
  ·exact .inl ⟨h1,o_ _ h2⟩
  by_cases e:(k == LP)=true
  ·rw[if_pos e]at h
   obtain⟨c',hc⟩:=hn (n,k) y_ (by simpa using e)
   have hc':env.cells.lookup n=some c':=hc
   rw[hc',Hi]at h
   by_cases ex:(x == n)=true
   ·rw[ex]at h
    have ex':x=n:=by simpa using ex
    have ek:k=LP:=by simpa using e
    subst ex' ek
    have h':c'=c:=D' h
    subst h'
    exact .inl ⟨hc',y_⟩
   have ex':(x == n)=false:=by simpa using ex
   rw[ex']at h
   exact .inr h
  rw[if_neg e]at h
  exact .inr h
theorem oo{env:Env}:∀ {names:List (Str × Me)} {cs:List (Str × Kl)} {x:Str} {c:Kl},(∀ y∈names,y.2=.free->∃ c,env.cells.lookup y.1=some c)->env.cells.lookup x=some c->cs.lookup x=some c->(cp env names cs).lookup x=some c
 | [],cs,x,c,_,_,h=>h
 | (n,k)::r,cs,x,c,hn,he,h=>by
  unfold cp
  refine oo (fun y hy=>hn y (o_ _ hy)) he ?_
  by_cases e:(k == LP)=true
  ·rw[if_pos e,Hi]
   by_cases ex:(x == n)=true
   ·rw[ex]
    have ex':x=n:=by simpa using ex
    subst ex'
    show some ((env.cells.lookup x).getD 0)=some c
    rw[he];rfl
   have ex':(x == n)=false:=by simpa using ex
   rw[ex']
   exact h
  rw[if_neg e]
  exact h
theorem mH{env:Env}:∀ {names:List (Str × Me)} {cs:List (Str × Kl)} {x:Str} {c:Kl},(∀ y∈names,y.2=.free->∃ c,env.cells.lookup y.1=some c)->env.cells.lookup x=some c->(x,LP)∈names->(cp env names cs).lookup x=some c
 | (n,k)::r,cs,x,c,hn,he,hm=>by
  have hr:∀ y∈r,y.2=.free->∃ c,env.cells.lookup y.1=some c:=fun y hy=>hn y (o_ _ hy)
  unfold cp
  rcases t_.mp hm with e | hm
  ·obtain⟨rfl,rfl⟩:=JI e
   rw[if_pos (by rfl)]
   refine oo hr he ?_
   rw[Hi,beq_self_eq_true]
   show some ((env.cells.lookup x).getD 0)=some c
   rw[he];rfl
  exact mH hr he hm
noncomputable def jR(env:Env)(sc:Lp):Lp:={ sc with names:=sc.names.map fun x=>if(x.2 == .free && env.scope.kind == .function && env.kindOf x.1 == some .cell)=true then(x.1,.cell)else(x.1,x.2) }
theorem fN{f:Str × Me->Bool}(x:Str):∀ names:List (Str × Me),(names.map fun y=>if f y=true then(y.1,SK)else(y.1,y.2)).lookup x=(names.lookup x).map fun k=>if f (x,k)=true then .cell else k
 | []=>rfl
 | (n,k)::r=>by
  rw[g_]
  by_cases ex:(x == n)=true
  ·have ex':x=n:=by simpa using ex
   subst ex'
   cases e:f (x,k) <;> simp[e,Hi]
  have ex':(x == n)=false:=by simpa using ex
  have ih:=fN (f:=f) x r
  cases e:f (n,k) <;> simp only[e,if_true,if_false,Ga,Hi,ex',ih]
theorem fM(env:Env)(sc:Lp)(x:Str):(jR env sc).names.lookup x=(sc.names.lookup x).map fun k=>if(k == .free && env.scope.kind == .function && env.kindOf x == some .cell)=true then .cell else k:=
 fN (f:=fun y=>(y.2 == .free && env.scope.kind == .function && env.kindOf y.1 == some .cell)) x sc.names
noncomputable def compEnv(env:Env)(sc:Lp)(L:Kl):Env:={ newEnv sc L env.globals (cp env sc.names []) env.qual none .none (some env) Oj with scope:=jR env sc }
section
variable{M:Mv}{A:KN}{E:Kj->Km->Prop}{s:Km}{env:Env}
theorem i9{e:KC}{scope:Lp}{pos:Pos}{newAcc first:Sem Kj}{g:Nu}{gs:List Nu}{Q:Kj->Km->Prop}
  (hcl:clausesOf e=g::gs) (hs:∀ x,Li g.iter env x=pure x)
  (hc:∀ x∈scope.names,x.2≠.cell) (hfr:∀ x∈scope.names,x.2=.free->∃ c,env.cells.lookup x.1=some c) (hkind:scope.kind=.function) (hnames:∀ x∈scope.names,x.2=.local->scope.names.lookup x.1=some .local)
  (h:Kr M A first (fun x s₁=>Kr M A (M' x) (fun it s₂=>Kr M A newAcc (fun acc s₃=>
   ∀ h4,h4.Ns s₃.heap.objs.size (fun _=>none)->(∀ b o,s₃.heap.get? b=some o->h4.get? b=some o)->
    LQ M A (.compStart e 0 it acc (compEnv env scope s₃.heap.objs.size)) (fun r s'=>∃ m,s'.heap.Ns s₃.heap.objs.size m/\∀ h',Lj s₃.heap.objs.size s'.heap h'->
     match r with | .ok _=>Q acc { s' with heap:=h' } | .error x=>False) { s₃ with heap:=h4 }) E s₂) E s₁) E s) :
  Kr M A (M7 e scope env pos newAcc false first) Q E s:=by
 unfold M7
 rw[kj hfr,hcl]
 refine Ki (KW h (fun x s₁ h₁=>Ki (M4 (Ki (Mq (hs x) (Ki (KY (KW h₁ (fun it s₂ h₂=>
  QH (Ki (KW h₂ (fun acc s₃ h₃=>Ki (Ko (Ki ?_))) fun _ _ h'=>h')))
   fun _ _ h'=>h'))))))) fun _ _ h'=>h')
 refine Ou hc (fun x hx=>nomatch hx) (fun h4 hn4 hs4=>?_) hkind
 have h₄:=h₃ h4 hn4 fun b o e=>hs4.extBut b o (w_ (Ky e)) (Kn _ e)
 dsimp only
 have hv:∀ x∈(scope.names.filter fun x=>(x.2 == .local || x.2 == .cell) && x.1 !=(".0":Str)).reverse,x.2=.local->
   P0 (compEnv env scope s₃.heap.objs.size) x.1=some .local:=fun x hx hl=>by
  show(jR env scope).names.lookup x.1=some .local
  rw[fM,hnames x (Gs.mp (JL.mp hx)).1 hl]
  rfl
 refine KY (Ki (Ml (KY (wpAny_run (Md h₄ fun r s' hr=>?_)))))
 obtain⟨m,hn,hr⟩:=hr
 cases r with
 | ok f=>exact Ki (KY (Pp (cenv:=compEnv env scope s₃.heap.objs.size) hkind _ s' m hv hn fun h' m' _ hs'=>Ko (hr h' hs')))
 | error x=>exact(hr s'.heap (.refl ..)).elim
end
section
variable{prog:Kz}{w:KD}{A:KN}{R:OP->Km->Prop}{s:Km}
theorem iV{elt target iter:KC}{ifs:List KC}{scope:Lp}{pos:Pos}{it acc:Kj}{env:Env}(I:Nat->Km->Prop)
  (turn:∀ n s,I n s->Kr (Kw prog w) A (L7 it) (fun r s₁=>match r with
   | none=>R (.ok .next) s₁
   | some v=>Kr (Kw prog w) A (M_ target it v) (fun _ s₁'=>Kr (Kw prog w) A (MZ target env v) (fun _ s₂=>
     Kr (Kw prog w) A (forIn ifs true fun c r=>if r=true then do let ok <-N9 c env (KR c env);pure (KL ok)else pure (KL r)) (fun ok s₃=>
      if ok=true then Kr (Kw prog w) A (KR elt env) (fun x s₄=>
       Kr (Kw prog w) A (call (.builtin "list.append") [acc,x]) (fun _ s₅=>∃ m,m < n/\I m s₅) (fun _ _=>False) s₄) (fun _ _=>False) s₃
      else ∃ m,m < n/\I m s₃) (fun _ _=>False) s₂) (fun _ _=>False) s₁') (fun _ _=>False) s₁) (fun _ _=>False) s)
  (n:Nat) (h:I n s) :
  LQ (Kw prog w) A (.compLoop (.ListComp elt [⟨target,iter,ifs,0⟩] scope pos) 0 it acc env) R s:=by
 refine codeAny_loop rfl I (fun n s hI=>?_) n h
 show Kr _ A ((compTurn (.ListComp elt [⟨target,iter,ifs,0⟩] scope pos) 0 it acc env).onRaise (fun x=>do noteFrame x env;theTreesLotGoes x)) _ _ s
 refine wpAny_noted ?_
 rw[compTurn_list]
 refine Ki (M4 (Ki (KW (turn n s hI) (fun r s₁ h₁=>?_) fun _ _ h'=>h'.elim)))
 cases r with
 | none=>exact Ko h₁
 | some v=>
  refine Ki (KW h₁ (fun _ s₁' h₁'=>?_) fun _ _ h'=>h'.elim)
  refine Ki (KW h₁' (fun _ s₂ h₂=>Ki (KW h₂ (fun ok s₃ h₃=>?_) fun _ _ h'=>h'.elim)) fun _ _ h'=>h'.elim)
  cases ok with
  | false=>exact Ko ⟨rfl,h₃⟩
  | true=>
   exact Ki (Ki (KW h₃ (fun x s₄ h₄=>Ki (KW h₄ (fun _ s₅ h₅=>Ko (Ko ⟨rfl,h₅⟩)) fun _ _ h'=>h'.elim)) fun _ _ h'=>h'.elim))
end
noncomputable def aD(X:Cx)(N':List Str)(sc:Lp)(s3:Km)(H3:Hp)(fp:List Kl):Cx where
 prog:=X.prog
 w:=X.w
 K:=X.K
 mg:=X.mg
 base:=X.base
 A:=X.A
 N:=N'
 s₀:=s3
 H₀:=H3
 env:=compEnv X.env sc s3.heap.objs.size
 outer:=X.stack
 stack:=X.stack
 ex:=fp
 calm:=true
 fn:=fun _=>false
 pn:=[]
 xe:=fun _ _=>False
noncomputable def dJ(N:List Str)(esc sc:Lp)(N':List Str)(fr:List (Option Nat)):Bool:=
 sc.kind == .function && esc.kind == .function
 && sc.names.all (fun y=>(y.2 != .cell) && (y.2 != .free || esc.names.lookup y.1 == some .cell) && (y.2 != .local || sc.names.lookup y.1 == some .local))
 && fr.length == N'.length
 && (m_ N'.length).all (fun i=>match fr[i]? with
  | some (some j)=>match N'[i]? with
   | some x=>N[j]? == some x && sc.names.lookup x == some .free
   | none=>false
  | _=>true)
structure CompOk (N:List Str) (esc sc:Lp) (N':List Str) (fr:List (Option Nat)):Prop where
 kind:sc.kind=.function
 ekind:esc.kind=.function
 nocell:∀ x∈sc.names,x.2≠.cell
 free:∀ x∈sc.names,x.2=.free->esc.names.lookup x.1=some .cell
 names:∀ x∈sc.names,x.2=.local->sc.names.lookup x.1=some .local
 len:fr.length=N'.length
 at_:∀(i j:Nat) (x:Str),fr[i]?=some (some j)->N'[i]?=some x->N[j]?=some x/\sc.names.lookup x=some .free
theorem mq{N:List Str}{esc sc:Lp}{N':List Str}{fr:List (Option Nat)}(h:dJ N esc sc N' fr=true):CompOk N esc sc N' fr:=by
 unfold dJ at h
 simp only[FI,beq_iff_eq,Hj,Gg]at h
 obtain⟨⟨⟨⟨h1,h2⟩,h3⟩,h4⟩,h5⟩:=h
 refine⟨h1,h2,fun x hx=>?_,fun x hx e=>?_,fun x hx e=>?_,h4,fun i j x e1 e2=>?_⟩
 ·have:=(h3 x hx).1.1
  simpa using this
 ·have:=(h3 x hx).1.2
  rw[e]at this
  simpa using this
 ·have:=(h3 x hx).2
  rw[e]at this
  simpa using this
 have hi:i < N'.length:=(c_.mp e2).1
 have q:=h5 i hi
 rw[e1,e2]at q
 simpa using q
def bo(fr:List (Option Nat))(σ:St):St:=fr.map fun o=>match o with
 | some j=>(σ[j]?).join
 | none=>none
theorem ph{X:Cx}{pins:List (Kl × Obj)}{σ:St}{H3:Hp}{s3:Km}{sc:Lp}{N':List Str}{fr:List (Option Nat)}{fp:List Kl}{h4:KH}(I:Inv X pins σ H3 s3)(C:CompOk X.N X.env.scope sc N' fr)(hc:X.calm=true)
  (hfp:∀ b∈fp,gx X pins H3 b) (hfo:∀ b∈fp,∃ o,s3.heap.get? b=some o) (hn:h4.Ns s3.heap.objs.size (fun _=>none)) (hk:∀ b o,s3.heap.get? b=some o->h4.get? b=some o) :
  Inv (aD X N' sc s3 H3 fp) [] (bo fr σ) H3 { s3 with heap:=h4 }:=by
 have hfr:∀ x∈sc.names,x.2=.free->∃ c,X.env.cells.lookup x.1=some c:=fun x hx e=>I.ok.has x.1 (.inl (C.free x hx e))
 have clo:∀ {x c},(cp X.env sc.names []).lookup x=some c->X.env.cells.lookup x=some c:=fun{x c} e=>by
  rcases oD hfr e with⟨h1,_⟩ | h
  ·exact h1
  cases h
 have nfs:∀ b∈fp,b ∉ frs X.stack:=fun b hb z=>by
  obtain⟨_,h1,h2,_⟩:=hfp b hb
  rcases t_.mp (I.qJ b z)with e | e
  ·exact h1 e
  exact h2 e
 have hfresh:H3 s3.heap.objs.size=none:=I.hok.fresh (e_ _)
 refine⟨⟨I.ok.mod,C.kind,I.ok.glob,I.ok.blt,e_ _,fun x y c e1 e2=>I.ok.inj x y c (clo e1) (clo e2),fun x hx=>?_,fun x c z=>(nomatch z),fun _=>I.ok.hd hc,I.ok.frames,.inl rfl,fun b hb=>⟨?_,fun x c e=>?_⟩,fun b o e=>I.bs b o e,n_ I.ok.bsz I.sz,fun b o e hb=>?_,nfs,I.stack,I.rT⟩,
  rfl,I.bare,Un.kept hk,⟨_,hn,fun i x v e1 e2 e3=>?_⟩,fun x c e=>?_,hfresh,fun x c e=>I.freeC x c (clo e),fun p hp=>(nomatch hp),I.hok.kept hk,?_⟩
 ·have hx:(jR X.env sc).names.lookup x=some .cell\/(jR X.env sc).names.lookup x=some .free:=hx
  rw[fM]at hx
  cases e:sc.names.lookup x with
  | none=>rw[e]at hx;rcases hx with z | z <;> cases z
  | some k=>
   have hm:(x,k)∈sc.names:=LK e
   have hk:k=.free:=by
    rw[e]at hx
    cases k with
    | free=>rfl
    | cell=>exact absurd rfl (C.nocell _ hm)
    | _=>rcases hx with z | z <;>(simp at z)
   subst hk
   obtain⟨c,hc'⟩:=hfr _ hm rfl
   exact⟨c,mH hfr hc' hm⟩
 ·obtain⟨o,ho⟩:=hfo b hb
  exact w_ (Ky ho)
 ·exact(hfp b hb).2.2.2.2.1 x c (clo e)
 ·obtain⟨e1,_⟩:=I.ok.bs b o e
  rcases(hfp b hb).2.2.2.1 with z | z
  ·exact I.ok.noex b o e z
  exact absurd (u_ (Ky e1) z) (GB _)
 ·have e2:(bo fr σ)[i]?=some (some v):=e2
  unfold bo at e2
  rw[A']at e2
  cases ef:fr[i]? with
  | none=>rw[ef]at e2;cases e2
  | some o=>
   rw[ef]at e2
   cases o with
   | none=>cases e2
   | some j=>
    have e2':(σ[j]?).join=some v:=by simpa using e2
    have e2'':σ[j]?=some (some v):=by
     cases q:σ[j]? with
     | none=>rw[q]at e2';cases e2'
     | some z=>rw[q]at e2';exact congrArg some e2'
    obtain⟨hN,hfrx⟩:=C.at_ i j x ef e1
    have hm:(x,LP)∈sc.names:=LK hfrx
    have hcell:=C.free _ hm rfl
    obtain⟨m,_,hl⟩:=I.loc
    obtain⟨u,r,l⟩:=hl j x v hN e2'' (.inr (.inl hcell))
    refine⟨u,r,.inr ⟨.inl ?_,?_⟩⟩
    ·show(jR X.env sc).names.lookup x=some .cell
     rw[fM,hfrx]
     have h1:X.env.kindOf x=some .cell:=hcell
     have h2:X.env.scope.kind=.function:=C.ekind
     simp[h1,h2]
    rcases l with⟨k,_⟩ | ⟨_,c,ec,ic⟩
    ·have h1:X.env.kindOf x=some .cell:=hcell
     rw[h1]at k;cases k
    obtain⟨o,ho,hd⟩:=ic
    exact⟨c,mH hfr ec hm,o,hk c o ho,hd⟩
 ·obtain⟨v,o,ho,hd⟩:=I.cell x c (clo e)
  exact⟨v,o,hk c o ho,hd⟩
 unfold bo
 rw[a_]
 exact C.len
noncomputable def PTs(X:Cx)(ifs:List KC)(t:TT):Prop:=
 ∀(pins:List (Kl × Obj)) (s:Km) (σ:St) (H:Hp) (Q:Bool->Hp->Prop),Inv X pins σ H s->t σ H Q->
  Kr (Kw X.prog X.w) X.A (forIn ifs true fun c r=>if r=true then do let ok <-N9 c X.env (KR c X.env);pure (KL ok)else pure (KL r)) (TP X pins σ Q) X.xe s
def Cu:TT:=fun _ H Q=>Q true H
theorem si{X:Cx}:PTs X [] Cu:=fun pins s σ H Q I h=>wpAny_tests_nil ⟨H,I,h⟩
theorem yB{X:Cx}{c:KC}{t:TT}(h:PT X c t):PTs X [c] t:=fun pins s σ H Q I q=>wpAny_tests_one (h pins s σ H Q I q)
noncomputable def B5(J:It)(fr:List (Option Nat))(g:Km->Hp->List Kl->TG)(tt:Km->Hp->List Kl->TT)(te:Km->Hp->List Kl->TE)(σ:St)(H1:Hp)(Q:VK):Prop:=∀ p,H1 p=none->∀ s3 H3' fp,∃ W:Nat->Nat->St->Hp->Prop,(∃ m,W 0 m (bo fr σ) (upd H1 p (.lst [])))/\∀ i m σ' H',W i m σ' H'->
 (J.stop i H'/\Q (.ref p) H')\/(J.go i H'/\∀ x H2,J.yld i H' x H2->g s3 H3' fp x σ' H2 fun σ2 H3=>tt s3 H3' fp σ2 H3 fun b H4=>
  if b=true then te s3 H3' fp σ2 H4 fun v H5=>∃ ys,H5 p=some (.lst ys)/\ys.length < sizeLine/\∃ m',m' < m/\W (i + 1) m' σ2 (upd H5 p (.lst (ys++[v])))else ∃ m',m' < m/\W (i + 1) m' σ2 H4)
noncomputable def sh(wi:TI)(fr:List (Option Nat))(g:Km->Hp->List Kl->TG)(tt:Km->Hp->List Kl->TT)(te:Km->Hp->List Kl->TE):TE:=fun σ H Q=>wi σ H fun J H1=>B5 J fr g tt te σ H1 Q
theorem Ag{X:Cx}(N':List Str)(fr:List (Option Nat)){elt target iter:KC}{ifs:List KC}{sc:Lp}{pos:Pos}{wi:TI}{g:Km->Hp->List Kl->TG}{tt:Km->Hp->List Kl->TT}{te:Km->Hp->List Kl->TE}(hc:X.calm=true)(C:dJ X.N X.env.scope sc N' fr=true)
  (hi:PI X target iter wi) (hg:∀ s3 H3 fp,PG (aD X N' sc s3 H3 fp) target (g s3 H3 fp)) (ht:∀ s3 H3 fp,PTs (aD X N' sc s3 H3 fp) ifs (tt s3 H3 fp)) (he:∀ s3 H3 fp,PE (aD X N' sc s3 H3 fp) elt (te s3 H3 fp))
  (hs:∀ x,Li iter X.env x=pure x:=by intro _;rfl):PE X (.ListComp elt [⟨target,iter,ifs,0⟩] sc pos) (sh wi fr g tt te):=by
 have C:=mq C
 intro pins s σ H Q I h
 rw[eval_ListComp]
 have hfr:∀ x∈sc.names,x.2=.free->∃ c,X.env.cells.lookup x.1=some c:=fun x hx e=>I.ok.has x.1 (.inl (C.free x hx e))
 refine i9 (g:=⟨target,iter,ifs,0⟩) (gs:=[]) rfl hs C.nocell hfr C.kind C.names ?_
 show Kr _ _ (KR iter X.env) _ _ s
 refine thn (hi pins s σ H _ I h) fun v s1 h1=>thn h1 fun itv s2 h2=>?_
 obtain⟨it,fp,tn,J,H2,e,I2,T,st2,f2,k2⟩:=h2
 subst e
 refine Nv ?_ (by show 0<=sizeLine;decide)
 have hf:H2 s2.heap.objs.size=none:=I2.hok.fresh (e_ _)
 obtain⟨W,⟨m0,w0⟩,turn⟩:=k2 _ hf { s2 with heap:=s2.heap.push { cls:=.type "list",data:=.seq ([]:List Kj).toArray } } (upd H2 s2.heap.objs.size (.lst [])) fp
 have kp:∀ b u,s2.heap.get? b=some u->(s2.heap.push { cls:=.type "list",data:=.seq ([]:List Kj).toArray }).get? b=some u:=fun b u e=>Kn _ e
 have I3:Inv X pins σ (upd H2 s2.heap.objs.size (.lst [])) { s2 with heap:=s2.heap.push { cls:=.type "list",data:=.seq ([]:List Kj).toArray } }:=
  I2.laid (t':=s2.toks) kp (e_ _) ⟨B' _,[],0,.nil,Kt _ rfl⟩
 have obj2:=T.obj 0 s2.heap st2
 have fpne:∀ b∈fp,b≠s2.heap.objs.size:=fun b hb=>by
  obtain⟨o,ho,_⟩:=obj2 b hb
  exact w_ (Ky ho)
 have f3:∀ b∈fp,gx X pins (upd H2 s2.heap.objs.size (.lst [])) b:=fun b hb=>⟨by rw[ak (fpne b hb)];exact(f2 b hb).1,(f2 b hb).2⟩
 have st3:=T.keep 0 s2.heap _ st2 fun b hb o e=>kp b o e
 have obj3:=T.obj 0 _ st3
 intro h4 hn4 hk4
 have st4:=T.keep 0 _ h4 st3 fun b hb o e=>hk4 b o e
 have I4:=ph (N':=N') (fr:=fr) (fp:=fp) I3 C hc f3 (fun b hb=>let ⟨o,ho,_⟩:=obj3 b hb;⟨o,ho⟩) hn4 hk4
 have stat:∀ {H':Hp},(∀ b∈fp,H' b=none)->∀ b∈fp,gx (aD X N' sc { s2 with heap:=s2.heap.push { cls:=.type "list",data:=.seq ([]:List Kj).toArray } } (upd H2 s2.heap.objs.size (.lst [])) fp) [] H' b:=fun hn b hb=>
  ⟨hn b hb,(I4.ok.exf b hb).1,I4.ok.exfs b hb,.inl hb,(I4.ok.exf b hb).2,fun p hp=>(nomatch hp)⟩
 have loop:LQ (Kw X.prog X.w) X.A (.compLoop (.ListComp elt [⟨target,iter,ifs,0⟩] sc pos) 0 (.ref it) (.ref s2.heap.objs.size) (compEnv X.env sc (s2.heap.push { cls:=.type "list",data:=.seq ([]:List Kj).toArray }).objs.size))
   (fun r s'=>∃ m,s'.heap.Ns (s2.heap.push { cls:=.type "list",data:=.seq ([]:List Kj).toArray }).objs.size m/\∀ h',Lj (s2.heap.push { cls:=.type "list",data:=.seq ([]:List Kj).toArray }).objs.size s'.heap h'->
    match r with | .ok _=>EP X pins σ Q (.ref s2.heap.objs.size) { s' with heap:=h' } | .error x=>False) { s2 with heap:=h4 }:=by
  refine iV (fun n s'=>∃ i σ' H',Inv (aD X N' sc { s2 with heap:=s2.heap.push { cls:=.type "list",data:=.seq ([]:List Kj).toArray } } (upd H2 s2.heap.objs.size (.lst [])) fp) [] σ' H' s'/\tn i s'.heap/\(∀ b∈fp,H' b=none)/\W i n σ' H') ?_ m0
   ⟨0,_,_,I4,st4,fun b hb=>(f3 b hb).1,w0⟩
  rintro n s5 ⟨i,σ5,H5,I5,st5,fr5,w5⟩
  rcases turn i n σ5 H5 w5 with⟨stop,q⟩ | ⟨go,step⟩
  ·refine thn (T.done (aD X N' sc _ _ fp) rfl rfl rfl rfl i [] s5 σ5 H5 (fun _ _=>False) I5 (stat fr5) st5 stop) ?_
   rintro r s6 ⟨hr,I6⟩
   subst hr
   obtain⟨m6,hn6,_⟩:=id I6.loc
   refine⟨m6,hn6,fun h' hs'=>?_⟩
   have hL:H5 (s2.heap.push { cls:=.type "list",data:=.seq ([]:List Kj).toArray }).objs.size=none:=I6.free
   have hok':HOk X.prog X.w H5 h':=fun b u e=>by
    refine(I6.hok b u e).eB (fun c v hc q=>(hs'.2 c ?_).trans q) (fun _ q=>q) fun _ _ q=>q
    rintro rfl
    rcases hc with rfl | hc
    ·rw[hL]at e;cases e
    rw[hL]at hc;cases hc
   have ub:=I6.base
   have lt:∀ b o,(s2.heap.push { cls:=.type "list",data:=.seq ([]:List Kj).toArray }).get? b=some o->b≠(s2.heap.push { cls:=.type "list",data:=.seq ([]:List Kj).toArray }).objs.size:=fun b o e=>w_ (Ky e)
   have un:Un (frs X.stack) fp (upd H2 s2.heap.objs.size (.lst [])) H5 (s2.heap.push { cls:=.type "list",data:=.seq ([]:List Kj).toArray }) h':=
    ⟨fun b o e n hb hx=>(hs'.2 b (lt b o e)).trans (ub.keep b o e n hb hx),fun b o e n hb hx=>let ⟨sl,z⟩:=ub.slot b o e n hb hx;⟨sl,(hs'.2 b (lt b o e)).trans z⟩,ub.free,
     fun b o e hx=>let ⟨o',z⟩:=ub.there b o e hx;⟨o',(hs'.2 b (lt b o e)).trans z⟩,ub.tups,ub.frzs,ub.tbls⟩
   refine⟨.ref s2.heap.objs.size,H5,I3.B7 (s':={ s6 with heap:=h' }) (ch:=fp) I6.os un hok' I6.bare (fun b hb=>?_),rfl,q⟩
   obtain⟨_,g1,g2,g3,g4,g5⟩:=f3 b hb
   exact⟨g3,g1,g4,g5⟩
  refine thn (T.item (aD X N' sc _ _ fp) rfl rfl rfl rfl i [] s5 σ5 H5 (fun _ _=>False) I5 (stat fr5) st5 go) ?_
  rintro r s6 ⟨u,hr,h6⟩
  subst hr
  refine thn h6 ?_
  rintro _ s7 ⟨x,H7,I7,r7,y7,st7,fr7⟩
  have I7':=I7.pinned (stat fr7) (T.obj _ _ st7)
  have again:∀ {σ8:St} {H8:Hp} {s8:Km},Inv (aD X N' sc { s2 with heap:=s2.heap.push { cls:=.type "list",data:=.seq ([]:List Kj).toArray } } (upd H2 s2.heap.objs.size (.lst [])) fp) ([]++iQ fp s7.heap) σ8 H8 s8->(∃ m',m' < n/\W (i + 1) m' σ8 H8)->
    ∃ m,m < n/\∃ i σ' H',Inv (aD X N' sc { s2 with heap:=s2.heap.push { cls:=.type "list",data:=.seq ([]:List Kj).toArray } } (upd H2 s2.heap.objs.size (.lst [])) fp) [] σ' H' s8/\tn i s8.heap/\(∀ b∈fp,H' b=none)/\W i m σ' H':=fun{σ8 H8 s8} I8 ⟨m',hm,w8⟩=>by
   refine⟨m',hm,i + 1,σ8,H8,I8.dA,T.keep _ _ _ st7 fun b hb o e=>(I8.pin (b,o) (q_ _ (q_ _ (bJ hb e)))).1,fun b hb=>?_,w8⟩
   obtain⟨o,e,d⟩:=T.obj _ _ st7 b hb
   exact(I8.pin (b,o) (q_ _ (q_ _ (bJ hb e)))).2.1
  refine thn (hg _ _ fp _ s7 σ5 H7 x u _ I7' r7 (step x H7 y7)) ?_
  rintro _ s8 ⟨σ8,H8,I8,q8⟩
  refine thn (ht _ _ fp _ s8 σ8 H8 _ I8 q8) ?_
  rintro ok s9 ⟨H9,I9,q9⟩
  cases ok with
  | false=>exact again I9 q9
  | true=>
   refine thn (he _ _ fp _ s9 σ8 H9 _ I9 q9) ?_
   rintro y s10 ⟨v,H10,I10,r10,ys,hys,hl,q10⟩
   refine thn (iS _ s10 σ8 H10 (.ref s2.heap.objs.size) [v] (.ref s2.heap.objs.size) [y] (fun _ H'=>∃ m',m' < n/\W (i + 1) m' σ8 H') I10 rfl (.cons r10 .nil) ⟨_,ys,v,rfl,rfl,hys,hl,q10⟩) ?_
   rintro z s11 ⟨_,H11,I11,_,q11⟩
   exact again I11 q11
 refine N7 loop ?_
 exact T.self X.A 0 _ _ _ st4 loop
def SqG(b:Bool)(K:Kk)(H:Hp)(a:Kl)(xs:List V):Prop:=match b with
 | true=>SqT K H a xs
 | false=>SqL K H a xs
section
variable{X:Cx}{pins:List (Kl × Obj)}{σ:St}{H:Hp}{s:Km}
theorem Inv.sq (I:Inv X pins σ H s){b:Bool}{a:Kl}{xs:List V}(h:SqG b X.K H a xs):∃ its:List Kj,Vals xs its/\ZG.Sq b s.heap a its.toArray/\xs.length<=sizeLine:=by
 cases b with
 | true=>exact I.tuple h
 | false=>
  obtain⟨its,r,p,z⟩:=I.list h
  exact⟨its,r,p.isList,z⟩
theorem Inv.rK (I:Inv X pins σ H s){b:Bool}{a:Kl}{xs ys:List V}(h:SqG b X.K H a xs)(h':SqG b X.K H a ys):xs=ys:=by
 cases b with
 | true=>exact I.iG h h'
 | false=>exact I.kq h h'
theorem Inv.AJ (I:Inv X pins σ H s){a b:Kl}{u:HO}(h:Rd H a u)(f:gx X pins H b):a≠b:=by
 rintro rfl
 rcases h with h | ⟨o,h⟩
 ·rw[f.1]at h;cases h
 rw[f.1]at h;cases h
theorem Inv.Eo (I:Inv X pins σ H s){a b:Kl}{o:Obj}(h:X.K.lookup a=some o)(f:gx X pins H b):a≠b:=by
 rintro rfl
 have e:X.base.get? a=some o:=I.ok.mod.kin a o h
 rcases f.2.2.2.1 with z | z
 ·exact I.ok.noex a o e z
 exact absurd (u_ (Ky (I.ok.bs a o e).1) z) (GB _)
theorem Inv.bF (I:Inv X pins σ H s){b:Bool}{a c:Kl}{xs:List V}(h:SqG b X.K H a xs)(f:gx X pins H c):a≠c:=by
 cases b with
 | true=>
  rcases h with h | ⟨o,its,n,hk,_⟩
  ·exact I.AJ h f
  ·exact I.Eo hk f
 | false=>
  rcases h with h | ⟨o,its,n,hk,_⟩
  ·exact I.AJ h f
  exact I.Eo hk f
end
noncomputable def Itz(K:Kk)(b1:Bool)(a1:Kl)(b2:Bool)(a2:Kl):It:=
  ⟨fun i H=>∃ xs ys x y,SqG b1 K H a1 xs/\SqG b2 K H a2 ys/\xs[i]?=some x/\ys[i]?=some y,
   fun i H v H'=>∃ p x y,H p=none/\v=.ref p/\H'=upd H p (.tup [x,y])/\(∀ xs,SqG b1 K H a1 xs->xs[i]?=some x)/\∀ ys,SqG b2 K H a2 ys->ys[i]?=some y,
   fun i H=>∃ xs ys,SqG b1 K H a1 xs/\SqG b2 K H a2 ys/\(xs.length<=i\/ys.length<=i)⟩
structure Off5 (z TI TO i1 i2:Kl):Prop where
 a1:TI≠z
 a2:TO≠z
 a3:i1≠z
 a4:i2≠z
 a5:TI≠TO
 a6:TI≠i1
 a7:TI≠i2
 a8:TO≠i1
 a9:TO≠i2
 b1:i1≠i2
theorem wz{P:Kz}{w:KD}{K:Kk}{es:List KC}{x1:Nat}{tp:Pos}(b1:Bool)(a1:Kl)(b2:Bool)(a2 z TI TO i1 i2:Kl)(D:Off5 z TI TO i1 i2) :
  Turn P w K (.Tuple es x1 tp) (Itz K b1 a1 b2 a2) [z,TI,TO,i1,i2] z (fun i h=>Mw h z TI TO .none/\LM h TI (.ref i1) (.ref i2)/\(∃ a b,LM h TO a b)/\ZG.Dr b1 h i1 a1 i/\ZG.Dr b2 h i2 a2 i) where
 mem:=by simp
 obj:=fun i h st b hb=>by
  obtain⟨hz,hi,⟨a,c,ho⟩,d1,d2⟩:=st
  have hb:b=z\/b=TI\/b=TO\/b=i1\/b=i2:=by simpa using hb
  rcases hb with rfl | rfl | rfl | rfl | rfl
  ·exact⟨_,hz,fun v e=>by cases (show N0 _=Nl v from e)⟩
  ·exact⟨_,hi,fun v e=>by cases (show Rm _ _=Nl v from e)⟩
  ·exact⟨_,ho,fun v e=>by cases (show Rm _ _=Nl v from e)⟩
  ·exact d1.some
  exact d2.some
 keep:=fun i h h' st k=>by
  obtain⟨hz,hi,⟨a,c,ho⟩,d1,d2⟩:=st
  exact⟨k z (by simp) _ hz,k TI (by simp) _ hi,⟨a,c,k TO (by simp) _ ho⟩,d1.at fun o e=>k i1 (by simp) o e,d2.at fun o e=>k i2 (by simp) o e⟩
 item:=by
  intro X hP hw hK hc i pins s σ H E I hf st hg
  subst hP hw hK
  obtain⟨xs,ys,x,y,q1,q2,hx,hy⟩:=hg
  obtain⟨its,rv,p1,z1⟩:=I.sq q1
  obtain⟨jts,sv,p2,z2⟩:=I.sq q2
  obtain⟨u,hu,ru⟩:=rv.get hx
  obtain⟨v,hv,rw'⟩:=sv.get hy
  obtain⟨hz,hi,⟨a,c,ho⟩,d1,d2⟩:=st
  have fz:=hf z (by simp)
  have fTI:=hf TI (by simp)
  have fTO:=hf TO (by simp)
  have f1:=hf i1 (by simp)
  have f2:=hf i2 (by simp)
  have DD:ZG.Off z TI TO i1 i2 a1 a2:=⟨D.a1,D.a2,D.a3,D.a4,D.a5,D.a6,D.a7,D.a8,D.a9,D.b1,I.bF q1 fz,I.bF q1 fTO,I.bF q1 f1,I.bF q1 f2,I.bF q2 fz,I.bF q2 fTO,I.bF q2 f1,I.bF q2 f2⟩
  refine ZG.oE DD hz hi ho d1 d2 p1 p2 (by simpa using hu) (by simpa using hv) fun g gz gO g1 g2 gT gs gk=>⟨_,rfl,?_⟩
  refine wpAny_letOwnedTupleGo_zip (s:={ s with heap:=g }) gz fun h' hz' hs'=>?_
  have hfresh:H s.heap.objs.size=none:=I.hok.fresh (e_ _)
  have zT:s.heap.objs.size≠z:=G0 (Ky hz)
  have kp:∀ b o,b ∉ [z,TI,TO,i1,i2]->s.heap.get? b=some o->h'.get? b=some o:=fun b o hb e=>by
   have n:b≠z/\b≠TI/\b≠TO/\b≠i1/\b≠i2:=by simpa using hb
   exact hs'.extBut _ _ n.1 (gk b o n.1 n.2.2.1 n.2.2.2.1 n.2.2.2.2 e)
  have hT:h'.get? s.heap.objs.size=some { cls:=.type "tuple",data:=.seq #[u,v] }:=hs'.extBut _ _ zT gT
  have notfp:∀ b o,H b=some o->b ∉ [z,TI,TO,i1,i2]:=fun b o e hb=>by
   have:=(hf b hb).1
   rw[e]at this;cases this
  have ne:∀ b o,s.heap.get? b=some o->b≠s.heap.objs.size:=fun b o e=>w_ (Ky e)
  have nt:∀ b o,H b=some o->b≠s.heap.objs.size:=fun b o e=>aQ e hfresh
  have I1:Inv X pins σ (upd H s.heap.objs.size (.tup [x,y])) { s with heap:=h' }:=by
   refine I.step (g':=s.gens) (d':=s.drawn) (t':=s.toks) (ch:=[z,TI,TO,i1,i2]) (fun b hb=>?_) (fun b o _ _ hc e _=>kp b o hc e) (fun b o _ _ hc e _=>⟨o.slots,kp b o hc e⟩)
    (fun b o _ e n=>by rw[ak (ne b o e)];exact n) (fun b o hc e=>⟨o,kp b o hc e⟩) (fun b zs e=>by rw[ak (nt b _ e)];exact e) (fun b o u e=>by rw[ak (nt b _ e)];exact e)
    (fun b ps e=>⟨#[],by rw[ak (nt b _ e),e];simp⟩) (fun m hm=>?_) (fun b o e=>?_) I.bare
   ·obtain⟨g0,g1,g2,g3,g4,g5⟩:=hf b hb
    exact⟨g3,g1,g4,g5⟩
   ·obtain⟨o,es,ep,ho',r⟩:=hm
    exact⟨o,es,ep,kp _ o (fun hb=>(hf _ hb).2.1 rfl) ho',r⟩
   by_cases hb:b=s.heap.objs.size
   ·subst hb
    rw[ax]at e
    cases e
    exact⟨by show 2<=sizeLine;decide,[u,v],.cons ru (.cons rw' .nil),_,hT,rfl,_,rfl⟩
   rw[ak hb]at e
   refine(I.hok b o e).eB (fun c' w' hc' q=>kp c' w' ?_ q) (fun c' q=>by rw[ak (nt c' _ q)];exact q) fun c' zs q=>by rw[ak (nt c' _ q)];exact q
   rcases hc' with rfl | hc'
   ·exact notfp _ _ e
   exact notfp _ _ hc'
  refine⟨.ref s.heap.objs.size,_,I1,rfl,⟨s.heap.objs.size,x,y,hfresh,rfl,rfl,fun zs hq=>by rw[I.rK hq q1];exact hx,fun zs hq=>by rw[I.rK hq q2];exact hy⟩,?_,fun b hb=>?_⟩
  ·exact⟨hz',hs'.extBut _ _ D.a1 (gk _ _ D.a1 D.a5 D.a6 D.a7 hi),⟨_,_,hs'.extBut _ _ D.a2 gO⟩,g1.ext hs'.extBut D.a3,g2.ext hs'.extBut D.a4⟩
  have hb0:=(hf b hb).1
  have hb':b=z\/b=TI\/b=TO\/b=i1\/b=i2:=by simpa using hb
  have hlt:∃ o,s.heap.get? b=some o:=by
   rcases hb' with rfl | rfl | rfl | rfl | rfl
   ·exact⟨_,hz⟩
   ·exact⟨_,hi⟩
   ·exact⟨_,ho⟩
   ·obtain⟨o,e,_⟩:=d1.some;exact⟨o,e⟩
   obtain⟨o,e,_⟩:=d2.some;exact⟨o,e⟩
  obtain⟨o,e⟩:=hlt
  rw[ak (ne b o e)]
  exact hb0
 done:=by
  intro X hP hw hK hc i pins s σ H E I hf st hg
  subst hP hw hK
  obtain⟨xs,ys,q1,q2,hn⟩:=hg
  obtain⟨its,rv,p1,z1⟩:=I.sq q1
  obtain⟨jts,sv,p2,z2⟩:=I.sq q2
  obtain⟨hz,hi,⟨a,c,ho⟩,d1,d2⟩:=st
  have fz:=hf z (by simp)
  have fTI:=hf TI (by simp)
  have fTO:=hf TO (by simp)
  have f1:=hf i1 (by simp)
  have f2:=hf i2 (by simp)
  have DD:ZG.Off z TI TO i1 i2 a1 a2:=⟨D.a1,D.a2,D.a3,D.a4,D.a5,D.a6,D.a7,D.a8,D.a9,D.b1,I.bF q1 fz,I.bF q1 fTO,I.bF q1 f1,I.bF q1 f2,I.bF q2 fz,I.bF q2 fTO,I.bF q2 f1,I.bF q2 f2⟩
  have l1:=rv.length
  have l2:=sv.length
  refine ZG.rH (I.ok.hd hc) DD hz hi ho d1 d2 p1 p2 (hn.elim (fun z=>.inl (by simp;omega)) fun z=>.inr (by simp;omega)) fun g gk=>⟨rfl,?_⟩
  have kp:∀ b o,b ∉ [z,TI,TO,i1,i2]->s.heap.get? b=some o->g.get? b=some o:=fun b o hb e=>by
   have n:b≠z/\b≠TI/\b≠TO/\b≠i1/\b≠i2:=by simpa using hb
   exact gk b o n.1 n.2.2.1 n.2.2.2.1 n.2.2.2.2 e
  have notfp:∀ b o,H b=some o->b ∉ [z,TI,TO,i1,i2]:=fun b o e hb=>by
   have:=(hf b hb).1
   rw[e]at this;cases this
  refine I.step (g':=s.gens) (d':=s.drawn) (t':=s.toks) (ch:=[z,TI,TO,i1,i2]) (fun b hb=>?_) (fun b o _ _ hc e _=>kp b o hc e) (fun b o _ _ hc e _=>⟨o.slots,kp b o hc e⟩)
   (fun b o _ e n=>n) (fun b o hc e=>⟨o,kp b o hc e⟩) (fun b zs e=>e) (fun b o u e=>e) (fun b ps e=>⟨#[],by rw[e];simp⟩) (fun m hm=>?_) (fun b o e=>?_) I.bare
  ·obtain⟨g0,g1,g2,g3,g4,g5⟩:=hf b hb
   exact⟨g3,g1,g4,g5⟩
  ·obtain⟨o,es,ep,ho',r⟩:=hm
   exact⟨o,es,ep,kp _ o (fun hb=>(hf _ hb).2.1 rfl) ho',r⟩
  refine(I.hok b o e).eB (fun c' w' hc' q=>kp c' w' ?_ q) (fun c' q=>q) fun c' zs q=>q
  rcases hc' with rfl | hc'
  ·exact notfp _ _ e
  exact notfp _ _ hc'
 self:=fun _ _ _ _ _ st h=>Pq st.1 h
noncomputable def Fe(K:Kk)(ta:TA):TI:=fun σ H R=>ta σ H fun vs H1=>∃ b1 a1 b2 a2,vs=[.ref a1,.ref a2]/\(∃ xs,SqG b1 K H1 a1 xs)/\(∃ ys,SqG b2 K H1 a2 ys)/\R (Itz K b1 a1 b2 a2) H1
theorem Cf{X:Cx}{es:List KC}{x1:Nat}{tp:Pos}{a b:KC}{ta:TA}{p pos:Pos}(hg:Gl X "zip")(hm:X.mg "zip"=none)(ha:PA X [a,b] ta)(hs:KG [a,b] X.env=[(false,KR a X.env),(false,KR b X.env)]:=by rfl)(hs2:KG [b] X.env=[(false,KR b X.env)]:=by rfl) :
  PI X (.Tuple es x1 tp) (.Call (.Name "zip" p) [a,b] [] pos) (Fe X.K ta):=by
 intro pins s σ H R I h
 refine RW (bQ I hg hm boot_zip (LX (thn (ha pos pins s σ H _ I h) fun us s1 ⟨vs,H1,I1,r1,q1⟩=>?_) (by rw[hs,hs2]) (by rw[hs2];rfl)))
 obtain⟨b1,a1,b2,a2,e,⟨xs,q1⟩,⟨ys,q2⟩,q⟩:=q1
 subst e
 cases r1 with
 | cons r rr=>
  cases rr with
  | cons r' rr=>
   cases rr
   cases r
   cases r'
   obtain⟨its,rv,p1,z1⟩:=I1.sq q1
   obtain⟨jts,sv,p2,z2⟩:=I1.sq q2
   refine ZG.xk p1 p2 fun g gz gi go g1 g2 gs gk=>Pq (s:={ s1 with heap:=g }) gz ?_
   have I2:Inv X pins σ H1 { s1 with heap:=g }:=I1.kept (t':=s1.toks) gk
   refine⟨_,_,_,_,H1,rfl,I2,wz b1 a1 b2 a2 _ (s1.heap.objs.size + 2) (s1.heap.objs.size + 3) s1.heap.objs.size (s1.heap.objs.size + 1) ?_,⟨gz,gi,⟨_,_,go⟩,g1,g2⟩,fun b hb=>?_,q⟩
   ·constructor <;>(show(_:Nat)≠_) <;> omega
   have hb':s1.heap.objs.size<=b:=by
    have z:b=s1.heap.objs.size + 4\/b=s1.heap.objs.size + 2\/b=s1.heap.objs.size + 3\/b=s1.heap.objs.size\/b=s1.heap.objs.size + 1:=by simpa using hb
    rcases z with z | z | z | z | z <;> rw[z] <;>(show(_:Nat)<=_) <;> omega
   exact I1.uq hb' (I1.hok.fresh hb')
def bools(bs:List Bool):List V:=bs.map V.bl
theorem u7{bs:List Bool}{us:List Kj}(r:Vals (bools bs) us){i:Nat}{u:Kj}(h:us[i]?=some u):∃ b,bs[i]?=some b/\u=.bool b:=by
 have hl:=r.length
 have hi:i < us.length:=(c_.mp h).1
 have hb:i < bs.length:=by rw[<-hl]at hi;simpa[bools]using hi
 have e:(bools bs)[i]?=some (.bl bs[i]):=by unfold bools;rw[A',b_ hb];rfl
 obtain⟨u',h',ru⟩:=r.get e
 rw[h]at h'
 cases h'
 exact⟨bs[i],b_ hb,ru⟩
theorem qy(bs:List Bool):((m_ bs.length).all fun i=>(bs[i]?).getD true)=bs.all id:=by
 have e:bs=(m_ bs.length).map fun i=>(bs[i]?).getD true:=by
  apply List.ext_getElem
  ·simp
  intro i h1 h2;simp[h1]
 conv=>rhs;rw[e,HL]
 rfl
section
variable{X:Cx}
theorem qi(hc:X.calm=true):bG X (.builtin "all") (fun xs H Q=>∃ a bs,xs=[.ref a]/\SqL X.K H a (bools bs)/\Q (.bl (bs.all id)) H):=by
 intro pins s σ H xs us Q I r h
 obtain⟨a,bs,rfl,hq,q⟩:=h
 obtain⟨u,rfl,ru⟩:=vals1 r
 cases ru
 obtain⟨its,rv,p,z⟩:=I.list hq
 have hl:=p.isList
 have hlt:a < s.heap.objs.size:=by obtain⟨_,e,_⟩:=hl;exact Ky e
 have hlen:its.toArray.size=bs.length:=by rw[l_,<-rv.length];simp[bools]
 refine call_all_walk (LG hl ⟨s.heap.objs.size,[s.heap.objs.size,a],[s.heap.objs.size],its.toArray.size,_,_,fun i=>(bs[i]?).getD true,rfl,NC (A:=X.A.in1) (I.ok.hd hc) _ a (w_ hlt) its.toArray,⟨⟨_,Kt _ rfl,rfl,rfl⟩,hl.push _⟩,fun i v s' Q' E' hP hQ=>?_,fun h' tk hk=>?_⟩)
 ·obtain⟨b,e,rfl⟩:=u7 rv (i:=i) (u:=v) (by simpa using hP)
  simp only[e,Option.getD_some]at hQ
  exact LF hQ
 rw[hlen,qy]
 exact⟨.bl (bs.all id),H,I.kept (t':=tk) (LSm.kept_iter hk),rfl,q⟩
end
inductive Ty where
 | non | bl | int | str | lst | tup | dct
 deriving DecidableEq
noncomputable def Ty.nm:Ty->String
 | .non=>"NoneType"
 | .bl=>"bool"
 | .int=>"int"
 | .str=>"str"
 | .lst=>"list"
 | .tup=>"tuple"
 | .dct=>"dict"
def isA(t c:Ty):Bool:=decide (t=c) || (decide (t=.bl) && decide (c=.int))
inductive TyG (K:Kk) (H:Hp):V->Ty->Prop where
 | non:TyG K H .non .non
 | bl (b:Bool):TyG K H (.bl b) .bl
 | int (i:Int):TyG K H (.int i) .int
 | str (x:Str):TyG K H (.str x) .str
 | lst {a:Kl} {xs:List V} (h:SqL K H a xs):TyG K H (.ref a) .lst
 | tup {a:Kl} {xs:List V} (h:SqT K H a xs):TyG K H (.ref a) .tup
 | dct {a:Kl} {kvs:List (Key × V)} (h:Rd H a (.dK kvs)):TyG K H (.ref a) .dct
theorem rZ(K:Kk)(t c:Ty):PySem.W.kitOne K (.type t.nm) (.type c.nm)=some (isA t c):=by
 cases t <;> cases c <;> kernel_rfl
theorem sS(K:Kk)(t:Ty):∀ cs:List Ty,Ql K (.type t.nm) (cs.map fun c=>Lo c.nm)=some (cs.any (isA t))
 | []=>rfl
 | c::r=>by
  rw[g_,GC]
  unfold Ql
  rw[rZ]
  cases isA t c with
  | true=>rfl
  | false=>exact sS K t r
section
variable{X:Cx}{pins:List (Kl × Obj)}{σ:St}{H:Hp}{s:Km}{A:KN}{E:Kj->Km->Prop}{Q:Kj->Km->Prop}
theorem Vals.tys:∀ {cs:List Ty} {us:List Kj},Vals (cs.map fun c=>V.ty c.nm) us->us=cs.map fun c=>Lo c.nm
 | [],_,.nil=>rfl
 | c::r,_,.cons h t=>by
  have e:_=Lo c.nm:=h
  rw[g_,<-Vals.tys t,e]
noncomputable def tI(K:Kk)(H:Hp)(y:V)(cs:List Ty):Prop:=(∃ c,y=.ty c.nm/\cs=[c])\/∃ p,y=.ref p/\H p=some (.tup (cs.map fun c=>V.ty c.nm))
theorem uY{x y:V}{u v:Kj}{t:Ty}{cs:List Ty}(I:Inv X pins σ H s)(rx:RelV x u)(ry:RelV y v)(ty:TyG X.K H x t)(ka:tI X.K H y cs)(h:∀ tk,Q (.bool (cs.any (isA t))) { s with toks:=tk }) :
  Kr (Kw X.prog X.w) A (call (.builtin "isinstance") [u,v]) Q E s:=by
 have go:∀ {P:KH->Prop},PySem.W.KitX X.K u (.type t.nm) P->P s.heap->u≠.builtin "__main__.__loader__#opaque"->Kr (Kw X.prog X.w) A (call (.builtin "isinstance") [u,v]) Q E s:=fun{P} Z p hx=>by
  rcases ka with⟨c,rfl,rfl⟩ | ⟨q,rfl,hq⟩
  ·cases (show v=Lo c.nm from ry)
   have e:([c].any (isA t))=isA t c:=by simp
   exact PySem.W.kia_one Z I.kIn p (rZ X.K t c) hx (fun tk=>by rw[<-e];exact h tk)
  cases (show v=KO q from ry)
  obtain⟨_,its,rv,o,ho,hc,n,hd⟩:=(show aW X.prog X.w H s.heap q (.tup _)from I.hok q _ hq)
  have e:=rv.tys
  subst e
  obtain⟨c,dd,dt,sl⟩:=o
  cases (show c=_ from hc)
  cases (show dt=_ from hd)
  exact PySem.W.kia_tup Z I.kIn p ho (sS X.K t cs) hx h
 cases ty with
 | non=>cases (show u=K' from rx);exact go PySem.W.kitx_none L9 (fun z=>nomatch z)
 | bl y=>cases (show u=PD y from rx);exact go PySem.W.kitx_bool L9 (fun z=>nomatch z)
 | int i=>obtain⟨t,q⟩:=(show ∃ t,u=Mm i t from rx);cases q;exact go PySem.W.kitx_int L9 (fun z=>nomatch z)
 | str y=>obtain⟨t,q⟩:=(show ∃ t,u=OK y t from rx);cases q;exact go PySem.W.kitx_str L9 (fun z=>nomatch z)
 | @lst a xs hq=>
  cases (show u=KO a from rx)
  obtain⟨_,_,p,_⟩:=I.list hq
  obtain⟨o,h1,h2,_⟩:=p.isList
  exact go PySem.W.kitx_list ⟨o,h1,h2⟩ (fun z=>nomatch z)
 | @tup a xs hq=>
  cases (show u=KO a from rx)
  obtain⟨_,_,p,_⟩:=I.tuple hq
  obtain⟨o,h1,h2,_⟩:=p
  exact go PySem.W.kitx_tuple ⟨o,h1,h2⟩ (fun z=>nomatch z)
 | @dct a kvs hq=>
  cases (show u=KO a from rx)
  obtain⟨_,_,vs,_,p⟩:=(show aW X.prog X.w H s.heap a (.dK kvs)from hq.ok I.hok)
  obtain⟨o,es,ep,h1,h2,_⟩:=p
  exact go PySem.W.kitx_dict ⟨o,h1,h2.1⟩ (fun z=>nomatch z)
theorem aJ:bG X (.builtin "isinstance") (fun xs H Q=>∃ x y t cs,xs=[x,y]/\TyG X.K H x t/\tI X.K H y cs/\Q (.bl (cs.any (isA t))) H):=by
 intro pins s σ H xs us Q I r h
 obtain⟨x,y,t,cs,rfl,ty,ka,q⟩:=h
 cases r with
 | cons r rr=>
  cases rr with
  | cons r' rr=>
   cases rr
   exact uY I r r' ty ka fun tk=>⟨.bl (cs.any (isA t)),H,I.tok tk,rfl,q⟩
end
inductive Dt where
 | int (i:Int) | bl (b:Bool) | str (x:Str) | non | lst (ds:List Dt) | tup (ds:List Dt)
mutual
def Has(K:Kk)(H:Hp):Dt->V->Prop
 | .int i,v=>v=.int i
 | .bl b,v=>v=.bl b
 | .str x,v=>v=.str x
 | .non,v=>v=.non
 | .lst ds,v=>∃ a xs,v=.ref a/\SqL K H a xs/\au K H ds xs
 | .tup ds,v=>∃ a xs,v=.ref a/\SqT K H a xs/\au K H ds xs
def au(K:Kk)(H:Hp):List Dt->List V->Prop
 | [],xs=>xs=[]
 | d::r,xs=>∃ x t,xs=x::t/\Has K H d x/\au K H r t
end
mutual
def dpt:Dt->Nat
 | .lst ds=>b7 ds + 1
 | .tup ds=>b7 ds + 1
 | _=>0
def b7:List Dt->Nat
 | []=>0
 | d::r=>max (dpt d) (b7 r)
end
mutual
def eqD:Dt->Dt->Bool
 | .int a,.int b=>a == b
 | .int a,.bl b=>a ==(if b then 1 else 0)
 | .bl a,.int b=>(if a then 1 else 0) == b
 | .bl a,.bl b=>a == b
 | .str a,.str b=>a == b
 | .non,.non=>true
 | .lst xs,.lst ys=>eqL xs ys
 | .tup xs,.tup ys=>eqL xs ys
 | _,_=>false
def eqL:List Dt->List Dt->Bool
 | [],[]=>true
 | x::xs,y::ys=>eqD x y && eqL xs ys
 | _,_=>false
end
mutual
theorem dG:∀ d:Dt,eqD d d=true
 | .int a=>by simp[eqD]
 | .bl a=>by simp[eqD]
 | .str a=>by simp[eqD]
 | .non=>by simp[eqD]
 | .lst xs=>by rw[eqD];exact jJ xs
 | .tup xs=>by rw[eqD];exact jJ xs
theorem jJ:∀ ds:List Dt,eqL ds ds=true
 | []=>by simp[eqL]
 | d::r=>by rw[eqL,dG d,jJ r];rfl
end
theorem au.len {K:Kk}{H:Hp}:∀ {ds:List Dt} {xs:List V},au K H ds xs->ds.length=xs.length
 | [],xs,h=>by rw[au]at h;rw[h];rfl
 | d::r,xs,h=>by
  rw[au]at h
  obtain⟨x,t,rfl,_,ht⟩:=h
  rw[k_,k_,au.len ht]
theorem au.get {K:Kk}{H:Hp}:∀ {ds:List Dt} {xs:List V} {i:Nat} {d:Dt} {x:V},au K H ds xs->ds[i]?=some d->xs[i]?=some x->Has K H d x
 | [],xs,i,d,x,h,e,_=>by simp at e
 | c::r,xs,0,d,x,h,e,f=>by
  rw[au]at h
  obtain⟨y,t,rfl,hy,ht⟩:=h
  simp at e f
  subst e f
  exact hy
 | c::r,xs,i + 1,d,x,h,e,f=>by
  rw[au]at h
  obtain⟨y,t,rfl,hy,ht⟩:=h
  exact au.get ht (i:=i) (by simpa using e) (by simpa using f)
theorem SqL.same {K:Kk}{H H':Hp}{a:Kl}{xs:List V}(e:aH H H')(h:SqL K H a xs):SqL K H' a xs:=e.seq h
theorem SqT.same {K:Kk}{H H':Hp}{a:Kl}{xs:List V}(e:aH H H')(h:SqT K H a xs):SqT K H' a xs:=by
 rcases h with (h | ⟨o,h⟩) | h
 ·exact .inl (.inl (e _ _ h))
 ·exact .inl (.inr ⟨o,e _ _ h⟩)
 exact .inr h
theorem SqG.same {b:Bool}{K:Kk}{H H':Hp}{a:Kl}{xs:List V}(e:aH H H')(h:SqG b K H a xs):SqG b K H' a xs:=by
 cases b with
 | true=>exact SqT.same e h
 | false=>exact SqL.same e h
mutual
theorem Has.same {K:Kk}{H H':Hp}(e:aH H H'):∀ {d:Dt} {v:V},Has K H d v->Has K H' d v
 | .int i,v,h=>by rw[Has]at h ⊢;exact h
 | .bl i,v,h=>by rw[Has]at h ⊢;exact h
 | .str i,v,h=>by rw[Has]at h ⊢;exact h
 | .non,v,h=>by rw[Has]at h ⊢;exact h
 | .lst ds,v,h=>by
  rw[Has]at h ⊢
  obtain⟨a,xs,hv,hs,hl⟩:=h
  exact⟨a,xs,hv,SqL.same e hs,au.same e hl⟩
 | .tup ds,v,h=>by
  rw[Has]at h ⊢
  obtain⟨a,xs,hv,hs,hl⟩:=h
  exact⟨a,xs,hv,SqT.same e hs,au.same e hl⟩
theorem au.same {K:Kk}{H H':Hp}(e:aH H H'):∀ {ds:List Dt} {xs:List V},au K H ds xs->au K H' ds xs
 | [],xs,h=>by rw[au]at h ⊢;exact h
 | d::r,xs,h=>by
  rw[au]at h ⊢
  obtain⟨x,t,hx,h1,h2⟩:=h
  exact⟨x,t,hx,Has.same e h1,au.same e h2⟩
end
theorem au.append {K:Kk}{H:Hp}:∀ {ds es:List Dt} {xs ys:List V},au K H ds xs->au K H es ys->au K H (ds++es) (xs++ys)
 | [],es,xs,ys,h,g=>by rw[au]at h;subst h;exact g
 | d::r,es,xs,ys,h,g=>by
  rw[au]at h
  obtain⟨x,t,rfl,h1,h2⟩:=h
  show au K H (d::(r++es)) (x::(t++ys))
  rw[au]
  exact⟨x,t++ys,rfl,h1,au.append h2 g⟩
theorem gJ{K:Kk}{H:Hp}:au K H [] []:=by rw[au]
theorem iE{K:Kk}{H:Hp}{d:Dt}{r:List Dt}{x:V}{t:List V}(h:Has K H d x)(g:au K H r t):au K H (d::r) (x::t):=by rw[au];exact⟨x,t,rfl,h,g⟩
def di(ns:List Int):List Dt:=ns.map Dt.int
theorem lR{K:Kk}{H:Hp}:∀ ns:List Int,au K H (di ns) (ns.map V.int)
 | []=>gJ
 | n::r=>iE (by rw[Has]) (lR r)
theorem pX{K:Kk}{H:Hp}{p:Kl}{ns:List Int}(h:SqL K H p (ns.map V.int)):Has K H (.lst (di ns)) (.ref p):=by rw[Has];exact⟨p,_,rfl,h,lR ns⟩
theorem lZ:∀ ns:List Int,b7 (di ns)=0
 | []=>by simp[di,b7]
 | n::r=>by
  have ih:=lZ r
  show b7 (Dt.int n::di r)=0
  simp[b7,dpt,ih]
theorem gh:∀ {ds:List Dt} {i:Nat} {d:Dt},ds[i]?=some d->dpt d<=b7 ds
 | [],i,d,e=>by simp at e
 | c::r,0,d,e=>by simp at e;subst e;rw[b7];exact Nat.le_max_left _ _
 | c::r,i + 1,d,e=>by
  have q:dpt d<=b7 r:=gh (i:=i) (by simpa using e)
  rw[b7]
  exact n_ q (Nat.le_max_right _ _)
theorem iR:∀(ds es:List Dt),ds.length=es.length->((m_ ds.length).all fun j=>eqD (ds.getD j .non) (es.getD j .non))=eqL ds es
 | [],[],_=>by simp[eqL]
 | [],e::r,h=>by simp at h
 | d::r,[],h=>by simp at h
 | d::r,e::t,h=>by
  have h':r.length=t.length:=by simpa using h
  rw[eqL,<-iR r t h',k_,Jg,IG,HL]
  rfl
theorem mN:∀ {ds es:List Dt},eqL ds es=true->ds.length=es.length
 | [],[],_=>rfl
 | [],e::r,h=>by simp[eqL]at h
 | d::r,[],h=>by simp[eqL]at h
 | d::r,e::t,h=>by
  rw[eqL,FI]at h
  rw[k_,k_,mN h.2]
theorem pU:∀(ds es:List Dt),(((m_ (min ds.length es.length)).all fun j=>eqD (ds.getD j .non) (es.getD j .non)) && ds.length == es.length)=eqL ds es:=by
 intro ds es
 by_cases h:ds.length=es.length
 ·rw[<-iR ds es h,h,J6]
  simp
 have:eqL ds es=false:=GV.mpr fun z=>h (mN z)
 rw[this]
 have:(ds.length == es.length)=false:=by simpa using h
 rw[this,Ji]
section
variable{X:Cx}{pins:List (Kl × Obj)}{σ:St}{H:Hp}{s:Km}
theorem oX(n:Nat){A:KN}(hA:A.units + 1 + n < cLine + 1)(I:Inv X pins σ H s){ds es:List Dt}{xs ys:List V}{its jts:List Kj}(h1:au X.K H ds xs)(h2:au X.K H es ys)(r1:Vals xs its)(r2:Vals ys jts)
  (rec:∀ d e x y u v,d∈ds->e∈es->Has X.K H d x->Has X.K H e y->RelV x u->RelV y v->My A.in1 s u v (eqD d e)) :
  ∀ j (g1:j < its.toArray.size) (g2:j < jts.toArray.size),My A.in1 s its.toArray[j] jts.toArray[j] (eqD (ds.getD j .non) (es.getD j .non)):=by
 intro j g1 g2
 have l1:=r1.length
 have l2:=r2.length
 have m1:=h1.len
 have m2:=h2.len
 have g1':j < its.length:=by simpa using g1
 have g2':j < jts.length:=by simpa using g2
 have a1:j < xs.length:=by lia
 have a2:j < ys.length:=by lia
 have b1:j < ds.length:=by lia
 have b2:j < es.length:=by lia
 obtain⟨u,hu,ru⟩:=r1.get (b_ a1)
 obtain⟨v,hv,rv⟩:=r2.get (b_ a2)
 rw[b_ g1']at hu
 rw[b_ g2']at hv
 cases hu
 cases hv
 have e1:ds.getD j .non=ds[j]:=by simp[x_,b1]
 have e2:es.getD j .non=es[j]:=by simp[x_,b2]
 rw[e1,e2]
 have:=rec ds[j] es[j] xs[j] ys[j] its[j] jts[j] (Hk b1) (Hk b2) (h1.get (b_ b1) (b_ a1)) (h2.get (b_ b2) (b_ a2)) ru rv
 simpa using this
theorem rW{ds:List Dt}{d:Dt}(h:d∈ds):dpt d<=b7 ds:=by
 obtain⟨i,hi⟩:=List.getElem?_of_mem h
 exact gh hi
mutual
theorem Has.inj (I:Inv X pins σ H s):∀ {d e:Dt} {x:V},Has X.K H d x->Has X.K H e x->d=e
 | .int a,.int b,x,h1,h2=>by
  rw[Has]at h1
  rw[Has]at h2
  rw[h1]at h2
  cases h2
  rfl
 | .int a,.bl b,x,h1,h2=>by
  rw[Has]at h1
  rw[Has]at h2
  rw[h1]at h2
  cases h2
 | .int a,.str b,x,h1,h2=>by
  rw[Has]at h1
  rw[Has]at h2
  rw[h1]at h2
  cases h2
 | .int a,.non,x,h1,h2=>by
  rw[Has]at h1
  rw[Has]at h2
  rw[h1]at h2
  cases h2
 | .int a,.lst b,x,h1,h2=>by
  rw[Has]at h1
  rw[Has]at h2
  obtain⟨p,xs,e,s1,l1⟩:=h2
  rw[h1]at e
  cases e
 | .int a,.tup b,x,h1,h2=>by
  rw[Has]at h1
  rw[Has]at h2
  obtain⟨p,xs,e,s1,l1⟩:=h2
  rw[h1]at e
  cases e
 | .bl a,.int b,x,h1,h2=>by
  rw[Has]at h1
  rw[Has]at h2
  rw[h1]at h2
  cases h2
 | .bl a,.bl b,x,h1,h2=>by
  rw[Has]at h1
  rw[Has]at h2
  rw[h1]at h2
  cases h2
  rfl
 | .bl a,.str b,x,h1,h2=>by
  rw[Has]at h1
  rw[Has]at h2
  rw[h1]at h2
  cases h2
 | .bl a,.non,x,h1,h2=>by
  rw[Has]at h1
  rw[Has]at h2
  rw[h1]at h2
  cases h2
 | .bl a,.lst b,x,h1,h2=>by
  rw[Has]at h1
  rw[Has]at h2
  obtain⟨p,xs,e,s1,l1⟩:=h2
  rw[h1]at e
  cases e
 | .bl a,.tup b,x,h1,h2=>by
  rw[Has]at h1
  rw[Has]at h2
  obtain⟨p,xs,e,s1,l1⟩:=h2
  rw[h1]at e
  cases e
 | .str a,.int b,x,h1,h2=>by
  rw[Has]at h1
  rw[Has]at h2
  rw[h1]at h2
  cases h2
 | .str a,.bl b,x,h1,h2=>by
  rw[Has]at h1
  rw[Has]at h2
  rw[h1]at h2
  cases h2
 | .str a,.str b,x,h1,h2=>by
  rw[Has]at h1
  rw[Has]at h2
  rw[h1]at h2
  cases h2
  rfl
 | .str a,.non,x,h1,h2=>by
  rw[Has]at h1
  rw[Has]at h2
  rw[h1]at h2
  cases h2
 | .str a,.lst b,x,h1,h2=>by
  rw[Has]at h1
  rw[Has]at h2
  obtain⟨p,xs,e,s1,l1⟩:=h2
  rw[h1]at e
  cases e
 | .str a,.tup b,x,h1,h2=>by
  rw[Has]at h1
  rw[Has]at h2
  obtain⟨p,xs,e,s1,l1⟩:=h2
  rw[h1]at e
  cases e
 | .non,.int b,x,h1,h2=>by
  rw[Has]at h1
  rw[Has]at h2
  rw[h1]at h2
  cases h2
 | .non,.bl b,x,h1,h2=>by
  rw[Has]at h1
  rw[Has]at h2
  rw[h1]at h2
  cases h2
 | .non,.str b,x,h1,h2=>by
  rw[Has]at h1
  rw[Has]at h2
  rw[h1]at h2
  cases h2
 | .non,.non,x,h1,h2=>rfl
 | .non,.lst b,x,h1,h2=>by
  rw[Has]at h1
  rw[Has]at h2
  obtain⟨p,xs,e,s1,l1⟩:=h2
  rw[h1]at e
  cases e
 | .non,.tup b,x,h1,h2=>by
  rw[Has]at h1
  rw[Has]at h2
  obtain⟨p,xs,e,s1,l1⟩:=h2
  rw[h1]at e
  cases e
 | .lst a,.int b,x,h1,h2=>by
  rw[Has]at h1
  rw[Has]at h2
  obtain⟨p,xs,rfl,s1,l1⟩:=h1
  cases h2
 | .lst a,.bl b,x,h1,h2=>by
  rw[Has]at h1
  rw[Has]at h2
  obtain⟨p,xs,rfl,s1,l1⟩:=h1
  cases h2
 | .lst a,.str b,x,h1,h2=>by
  rw[Has]at h1
  rw[Has]at h2
  obtain⟨p,xs,rfl,s1,l1⟩:=h1
  cases h2
 | .lst a,.non,x,h1,h2=>by
  rw[Has]at h1
  rw[Has]at h2
  obtain⟨p,xs,rfl,s1,l1⟩:=h1
  cases h2
 | .lst a,.lst b,x,h1,h2=>by
  rw[Has]at h1
  rw[Has]at h2
  obtain⟨p,xs,rfl,s1,l1⟩:=h1
  obtain⟨q,ys,e,s2,l2⟩:=h2
  cases e
  have e:=I.kq s1 s2
  subst e
  rw[au.inj I l1 l2]
 | .lst a,.tup b,x,h1,h2=>by
  rw[Has]at h1
  rw[Has]at h2
  obtain⟨p,xs,rfl,s1,l1⟩:=h1
  obtain⟨q,ys,e,s2,l2⟩:=h2
  cases e
  obtain⟨_,_,pl,_⟩:=I.list s1
  obtain⟨_,_,pt,_⟩:=I.tuple s2
  obtain⟨o1,g1,c1,_⟩:=pl.isList
  obtain⟨o2,g2,c2,_⟩:=pt
  rw[g1]at g2
  cases g2
  rw[c1]at c2
  exact absurd c2 (by decide)
 | .tup a,.int b,x,h1,h2=>by
  rw[Has]at h1
  rw[Has]at h2
  obtain⟨p,xs,rfl,s1,l1⟩:=h1
  cases h2
 | .tup a,.bl b,x,h1,h2=>by
  rw[Has]at h1
  rw[Has]at h2
  obtain⟨p,xs,rfl,s1,l1⟩:=h1
  cases h2
 | .tup a,.str b,x,h1,h2=>by
  rw[Has]at h1
  rw[Has]at h2
  obtain⟨p,xs,rfl,s1,l1⟩:=h1
  cases h2
 | .tup a,.non,x,h1,h2=>by
  rw[Has]at h1
  rw[Has]at h2
  obtain⟨p,xs,rfl,s1,l1⟩:=h1
  cases h2
 | .tup a,.lst b,x,h1,h2=>by
  rw[Has]at h1
  rw[Has]at h2
  obtain⟨p,xs,rfl,s1,l1⟩:=h1
  obtain⟨q,ys,e,s2,l2⟩:=h2
  cases e
  obtain⟨_,_,pl,_⟩:=I.list s2
  obtain⟨_,_,pt,_⟩:=I.tuple s1
  obtain⟨o1,g1,c1,_⟩:=pl.isList
  obtain⟨o2,g2,c2,_⟩:=pt
  rw[g1]at g2
  cases g2
  rw[c1]at c2
  exact absurd c2 (by decide)
 | .tup a,.tup b,x,h1,h2=>by
  rw[Has]at h1
  rw[Has]at h2
  obtain⟨p,xs,rfl,s1,l1⟩:=h1
  obtain⟨q,ys,e,s2,l2⟩:=h2
  cases e
  have e:=I.iG s1 s2
  subst e
  rw[au.inj I l1 l2]
theorem au.inj (I:Inv X pins σ H s):∀ {ds es:List Dt} {xs:List V},au X.K H ds xs->au X.K H es xs->ds=es
 | [],[],xs,h1,h2=>rfl
 | [],e::r,xs,h1,h2=>by
  rw[au]at h1
  rw[au]at h2
  obtain⟨y,t,e,_,_⟩:=h2
  rw[h1]at e
  cases e
 | d::r,[],xs,h1,h2=>by
  rw[au]at h1
  rw[au]at h2
  obtain⟨y,t,e,_,_⟩:=h1
  rw[h2]at e
  cases e
 | d::r,e::q,xs,h1,h2=>by
  rw[au]at h1
  rw[au]at h2
  obtain⟨x,t,rfl,g1,g2⟩:=h1
  obtain⟨y,w,z,k1,k2⟩:=h2
  cases z
  rw[Has.inj I g1 k1,au.inj I g2 k2]
end
theorem kg{A:KN}{a b:Kl}{k:Bool}(h:P4 A s (.ref a) (.ref b) k)(hk:a=b->k=true):My A s (.ref a) (.ref b) k:=by
 by_cases e:a=b
 ·rw[hk e,e]
  exact Pz _
 exact Sf e h
noncomputable def Rz(s:Km):Dt->Kj->Prop
 | .int a,u=>∃ t,u=.int a t
 | .bl a,u=>u=.bool a
 | .str a,u=>∃ t,u=.str a t
 | .non,u=>u=.none
 | .lst _,u=>∃ p its,u=.ref p/\s.heap.IsList p its
 | .tup _,u=>∃ p its,u=.ref p/\s.heap.IsTuple p its
def knd:Dt->Nat
 | .lst _=>4
 | .tup _=>5
 | _=>0
theorem sR(I:Inv X pins σ H s){d:Dt}{x:V}{u:Kj}(h:Has X.K H d x)(r:RelV x u):Rz s d u:=by
  cases d <;> rw[Has]at h <;> first
    | (obtain⟨p,xs,rfl,s1,_⟩:=h
       cases r
       first
         | (obtain⟨_,_,pl,_⟩:=I.list s1;exact⟨_,_,rfl,pl.isList⟩)
         | (obtain⟨_,_,pl,_⟩:=I.tuple s1;exact⟨_,_,rfl,pl⟩))
    | (subst h;exact r)
theorem t5{A:KN}{d e:Dt}{u v:Kj}(hu:A.units < cLine)(h1:Rz s d u)(h2:Rz s e v)(n:knd d≠knd e\/knd d=0):P4 A s u v (eqD d e)/\Rr A s u v (!eqD d e)/\My A s u v (eqD d e):=by
 cases d with
 | int a=>
  obtain⟨_,rfl⟩:=h1
  cases e with
  | int b=>obtain⟨_,rfl⟩:=h2;simp only[eqD];exact⟨.int_int _ _ _ _,.int_int _ _ _ _,.int_int _ _ _ _⟩
  | bl b=>cases h2;simp only[eqD];exact⟨.int_bool _ _ _,.int_bool _ _ _,.int_bool _ _ _⟩
  | str b=>obtain⟨_,rfl⟩:=h2;simp only[eqD];exact⟨.int_str _ _ _ _,.int_str _ _ _ _,.int_str _ _ _ _⟩
  | non=>cases h2;simp only[eqD];exact⟨.int_none _ _,.int_none _ _,.int_none _ _⟩
  | lst b=>obtain⟨_,_,rfl,hb⟩:=h2;simp only[eqD];exact⟨.int_list _ _ hb hu,.int_list _ _ hb hu,.int_list _ _ hb hu⟩
  | tup b=>obtain⟨_,_,rfl,hb⟩:=h2;simp only[eqD];exact⟨.int_tuple _ _ hb hu,.int_tuple _ _ hb hu,.int_tuple _ _ hb hu⟩
 | bl a=>
  cases h1
  cases e with
  | int b=>obtain⟨_,rfl⟩:=h2;simp only[eqD];exact⟨.bool_int _ _ _,.bool_int _ _ _,.bool_int _ _ _⟩
  | bl b=>cases h2;simp only[eqD];exact⟨.bool_bool _ _,.bool_bool _ _,.bool_bool _ _⟩
  | str b=>obtain⟨_,rfl⟩:=h2;simp only[eqD];exact⟨.bool_str _ _ _,.bool_str _ _ _,.bool_str _ _ _⟩
  | non=>cases h2;simp only[eqD];exact⟨.bool_none _,.bool_none _,.bool_none _⟩
  | lst b=>obtain⟨_,_,rfl,hb⟩:=h2;simp only[eqD];exact⟨.bool_list _ hb hu,.bool_list _ hb hu,.bool_list _ hb hu⟩
  | tup b=>obtain⟨_,_,rfl,hb⟩:=h2;simp only[eqD];exact⟨.bool_tuple _ hb hu,.bool_tuple _ hb hu,.bool_tuple _ hb hu⟩
 | str a=>
  obtain⟨_,rfl⟩:=h1
  cases e with
  | int b=>obtain⟨_,rfl⟩:=h2;simp only[eqD];exact⟨.str_int _ _ _ _,.str_int _ _ _ _,.str_int _ _ _ _⟩
  | bl b=>cases h2;simp only[eqD];exact⟨.str_bool _ _ _,.str_bool _ _ _,.str_bool _ _ _⟩
  | str b=>obtain⟨_,rfl⟩:=h2;simp only[eqD];exact⟨.str_str _ _ _ _,.str_str _ _ _ _,.str_str _ _ _ _⟩
  | non=>cases h2;simp only[eqD];exact⟨.str_none _ _,.str_none _ _,.str_none _ _⟩
  | lst b=>obtain⟨_,_,rfl,hb⟩:=h2;simp only[eqD];exact⟨.str_list _ _ hb hu,.str_list _ _ hb hu,.str_list _ _ hb hu⟩
  | tup b=>obtain⟨_,_,rfl,hb⟩:=h2;simp only[eqD];exact⟨.str_tuple _ _ hb hu,.str_tuple _ _ hb hu,.str_tuple _ _ hb hu⟩
 | non=>
  cases h1
  cases e with
  | int b=>obtain⟨_,rfl⟩:=h2;simp only[eqD];exact⟨.none_int _ _,.none_int _ _,.none_int _ _⟩
  | bl b=>cases h2;simp only[eqD];exact⟨.none_bool _,.none_bool _,.none_bool _⟩
  | str b=>obtain⟨_,rfl⟩:=h2;simp only[eqD];exact⟨.none_str _ _,.none_str _ _,.none_str _ _⟩
  | non=>cases h2;simp only[eqD];exact⟨.none_none,.none_none,.same _⟩
  | lst b=>obtain⟨_,_,rfl,hb⟩:=h2;simp only[eqD];exact⟨.none_list hb hu,.none_list hb hu,.none_list hb hu⟩
  | tup b=>obtain⟨_,_,rfl,hb⟩:=h2;simp only[eqD];exact⟨.none_tuple hb hu,.none_tuple hb hu,.none_tuple hb hu⟩
 | lst a=>
  obtain⟨_,_,rfl,hl⟩:=h1
  cases e with
  | int b=>obtain⟨_,rfl⟩:=h2;simp only[eqD];exact⟨.list_int _ _ hl hu,.list_int _ _ hl hu,.list_int _ _ hl hu⟩
  | bl b=>cases h2;simp only[eqD];exact⟨.list_bool _ hl hu,.list_bool _ hl hu,.list_bool _ hl hu⟩
  | str b=>obtain⟨_,rfl⟩:=h2;simp only[eqD];exact⟨.list_str _ _ hl hu,.list_str _ _ hl hu,.list_str _ _ hl hu⟩
  | non=>cases h2;simp only[eqD];exact⟨.list_none hl hu,.list_none hl hu,.list_none hl hu⟩
  | lst b=>simp[knd]at n
  | tup b=>obtain⟨_,_,rfl,hb⟩:=h2;simp only[eqD];exact⟨.list_tuple hl hb hu,.list_tuple hl hb hu,.list_tuple hl hb hu⟩
 | tup a=>
  obtain⟨_,_,rfl,hl⟩:=h1
  cases e with
  | int b=>obtain⟨_,rfl⟩:=h2;simp only[eqD];exact⟨.tuple_int _ _ hl hu,.tuple_int _ _ hl hu,.tuple_int _ _ hl hu⟩
  | bl b=>cases h2;simp only[eqD];exact⟨.tuple_bool _ hl hu,.tuple_bool _ hl hu,.tuple_bool _ hl hu⟩
  | str b=>obtain⟨_,rfl⟩:=h2;simp only[eqD];exact⟨.tuple_str _ _ hl hu,.tuple_str _ _ hl hu,.tuple_str _ _ hl hu⟩
  | non=>cases h2;simp only[eqD];exact⟨.tuple_none hl hu,.tuple_none hl hu,.tuple_none hl hu⟩
  | lst b=>obtain⟨_,_,rfl,hb⟩:=h2;simp only[eqD];exact⟨.tuple_list hl hb hu,.tuple_list hl hb hu,.tuple_list hl hb hu⟩
  | tup b=>simp[knd]at n
theorem mX(I:Inv X pins σ H s):∀(n:Nat) (A:KN) (d e:Dt) (x y:V) (u v:Kj),dpt d<=n->A.units + n < cLine->Has X.K H d x->Has X.K H e y->RelV x u->RelV y v->
  P4 A s u v (eqD d e)/\Rr A s u v (!eqD d e)/\My A s u v (eqD d e):=by
 intro n
 induction n with
 | zero=>
  intro A d e x y u v hd hA h1 h2 r1 r2
  exact t5 (by lia) (sR I h1 r1) (sR I h2 r2) (.inr (by cases d <;> first | rfl | (rw[dpt]at hd;lia)))
 | succ n ih=>
  intro A d e x y u v hd hA h1 h2 r1 r2
  have hu:A.units < cLine:=by lia
  by_cases k:knd d≠knd e\/knd d=0
  ·exact t5 hu (sR I h1 r1) (sR I h2 r2) k
  cases d <;> cases e <;> try (exfalso;simp[knd]at k;done)
  ·rename_i a b
   have h1k:=h1
   rw[Has]at h1
   obtain⟨p,xs,rfl,s1,l1⟩:=h1
   cases (show u=KO p from r1)
   obtain⟨its,rv1,pl1,z1⟩:=I.list s1
   have hl:=pl1.isList
   have hd':b7 a<=n:=by rw[dpt]at hd;lia
   have h2k:=h2
   rw[Has]at h2
   obtain⟨q,ys,rfl,s2,l2⟩:=h2
   cases (show v=KO q from r2)
   obtain⟨jts,rv2,pl2,z2⟩:=I.list s2
   have hb:=pl2.isList
   have recc:=oX n (A:=A) (by lia) I l1 l2 rv1 rv2 fun d e x y u v hm hm' g1 g2 k1 k2=>(ih A.in1 d e x y u v (n_ (rW hm) hd') (by show A.units + 1 + n < cLine;lia) g1 g2 k1 k2).2.2
   have m1:=l1.len
   have m2:=l2.len
   have v1:=rv1.length
   have v2:=rv2.length
   have self:p=q->eqD (.lst a) (.lst b)=true:=fun z=>by subst z;rw[Has.inj I h1k h2k];exact dG _
   have ee:eqD (.lst a) (.lst b)=eqL a b:=by rw[eqD]
   by_cases hs:its.toArray.size=jts.toArray.size
   ·have hs':a.length=b.length:=by simp at hs;lia
    have hn:its.toArray.size=a.length:=by simp;lia
    have k1:=Sv hl hb hs hu recc
    have k2:=Sg hl hb hs hu recc
    rw[hn,iR a b hs',<-ee]at k1 k2
    exact⟨k1,k2,kg k1 self⟩
   have hs':¬ a.length=b.length:=by simp at hs;lia
   have hz:(its.toArray.size != jts.toArray.size)=true:=by simpa using hs
   have ef:eqD (.lst a) (.lst b)=false:=by rw[ee];exact GV.mpr fun z=>hs' (mN z)
   have k1:=Rt hl hb hz hu
   have k2:=QI hl hb hz hu
   rw[<-ef]at k1
   refine⟨k1,?_,kg k1 self⟩
   rw[ef]
   exact k2
  rename_i a b
  have h1k:=h1
  rw[Has]at h1
  obtain⟨p,xs,rfl,s1,l1⟩:=h1
  cases (show u=KO p from r1)
  obtain⟨its,rv1,pl1,z1⟩:=I.tuple s1
  have hl:s.heap.IsTuple p its.toArray:=pl1
  have hd':b7 a<=n:=by rw[dpt]at hd;lia
  have h2k:=h2
  rw[Has]at h2
  obtain⟨q,ys,rfl,s2,l2⟩:=h2
  cases (show v=KO q from r2)
  obtain⟨jts,rv2,pl2,z2⟩:=I.tuple s2
  have hb:s.heap.IsTuple q jts.toArray:=pl2
  have recc:=oX n (A:=A) (by lia) I l1 l2 rv1 rv2 fun d e x y u v hm hm' g1 g2 k1 k2=>(ih A.in1 d e x y u v (n_ (rW hm) hd') (by show A.units + 1 + n < cLine;lia) g1 g2 k1 k2).2.2
  have m1:=l1.len
  have m2:=l2.len
  have v1:=rv1.length
  have v2:=rv2.length
  have self:p=q->eqD (.tup a) (.tup b)=true:=fun z=>by subst z;rw[Has.inj I h1k h2k];exact dG _
  have ee:eqD (.tup a) (.tup b)=eqL a b:=by rw[eqD]
  have hn:its.toArray.size=a.length:=by simp;lia
  have hn':jts.toArray.size=b.length:=by simp;lia
  have k1:=Sj hl hb hu recc
  have k2:=R7 hl hb hu recc
  rw[hn,hn',pU a b,<-ee]at k1 k2
  exact⟨k1,k2,kg k1 self⟩
end
section
variable{X:Cx}
noncomputable def DR(K:Kk)(A:KN)(neg:Bool):R2:=fun x y H Q=>∃ d e,Has K H d x/\Has K H e y/\A.units + dpt d < cLine/\Q (.bl (if neg then !eqD d e else eqD d e)) H
theorem xY:OpR X (K4 .Eq) (DR X.K X.A false):=by
 intro pins s σ H x y v u Q I rx ry h
 obtain⟨d,e,h1,h2,hA,q⟩:=h
 exact(mX I (dpt d) X.A d e x y v u (e_ _) hA h1 h2 rx ry).1 _ _ _ _ ⟨.bl (eqD d e),H,I,rfl,q⟩
theorem Bc:OpR X (K4 .NotEq) (DR X.K X.A true):=by
 intro pins s σ H x y v u Q I rx ry h
 obtain⟨d,e,h1,h2,hA,q⟩:=h
 exact(mX I (dpt d) X.A d e x y v u (e_ _) hA h1 h2 rx ry).2.1 _ _ _ _ ⟨.bl (!eqD d e),H,I,rfl,q⟩
end
structure Cal (P:Kz) (w:KD) (K:Kk) (mg:Str->Option Kj) (base:KH) (k:Nat) (x:Str) (ps:List Str) (sp:Sp):Prop where
 ex:∃(f:Kl) (fd:KP),FnOk P w K mg base CX0 k f fd ps sp/\mg x=some (.ref f)/\MN K (.ref f)=true/\Binds K fd ps []
theorem wo{X:Cx}{j k:Nat}{x:Str}{ps:List Str}{sp:Sp}{e:KC}{es:List KC}{t:TA}{p pos:Pos}(D:Cal X.prog X.w X.K X.mg X.base j x ps sp)(hr:Room k X.A)(hg:Gl X x)(ha:PA X (e::es) t)(hjk:j<=k:=by omega)(hdb:(x ==("__debug__":Str))=false:=by decide)
  (he:KG (e::es) X.env=(false,KR e X.env)::KG es X.env:=by rfl) (hpl:(Mc pos (KG es X.env)).any (·.1)=false:=by rfl):PE X (.Call (.Name x p) (e::es) [] pos) (xt sp [] E0 t):=by
 obtain⟨f,fd,F,hm,hk,hb⟩:=D.ex
 exact Ai F (hr.mono hjk) hg hm hk hb .nil Ep ha hdb he hpl
theorem Cal.imp {P:Kz}{w:KD}{K:Kk}{mg:Str->Option Kj}{base:KH}{k:Nat}{x:Str}{ps:List Str}{sp sp':Sp}(D:Cal P w K mg base k x ps sp)(h:∀ vs H Q E,sp' vs H Q E->sp vs H Q E):Cal P w K mg base k x ps sp':=by
 obtain⟨f,fd,F,r⟩:=D.ex
 exact⟨f,fd,F.imp h,r⟩
structure Dfn (K:Kk) (mg:Str->Option Kj) (x:Str) (st:K8) (ps:List Str):Prop where
 ex:∃(f:Kl) (fd:KP),Fun K x x st f fd/\mg x=some (.ref f)/\Binds K fd ps []
theorem Dfn.cal {P:Kz}{w:KD}{K:Kk}{mg:Str->Option Kj}{base:KH}{k:Nat}{x:Str}{st:K8}{ps:List Str}{sp:Sp}(D:Dfn K mg x st ps)(h:∀ f fd,Fun K x x st f fd->FnOk P w K mg base CX0 k f fd ps sp):Cal P w K mg base k x ps sp:=by
 obtain⟨f,fd,F,hm,hb⟩:=D.ex
 exact⟨f,fd,h f fd F,hm,F.kp,hb⟩
theorem aH.bh {H:Hp}:aH H H:=fun _ _ e=>e
theorem aH.trans' {H H1 H2:Hp}(a:aH H H1)(b:aH H1 H2):aH H H2:=fun c o e=>b c o (a c o e)
theorem aO{H:Hp}{p:Kl}(h:H p=none)(o:HO):aH H (upd H p o):=fun b u q=>by rw[ak (aQ q h)];exact q
theorem aH.none {H H':Hp}(a:aH H H'){p:Kl}(h:H' p=none):H p=none:=by
 cases e:H p with
 | none=>rfl
 | some o=>rw[a p o e]at h;cases h
def Kp(a c:Kl)(H H':Hp):Prop:=∀ b o,H b=some o->b≠a->b≠c->H' b=some o
theorem sA{n:Nat}{i:Int}(h0:0<=i)(h1:i < (n:Int)):ixN n i=some i.toNat:=by
 unfold ixN
 rw[if_pos h0,if_pos h1]
theorem zZ{α:Type}{xs:List α}{i:Int}{v:α}(h0:0<=i)(hv:xs[i.toNat]?=some v):atI xs i=some v:=by
 have h1:i.toNat < xs.length:=(c_.mp hv).1
 unfold atI
 rw[sA h0 (by omega)]
 exact hv
theorem wC{ns:List Int}{i:Int}(h0:0<=i)(h1:i < (ns.length:Int)):atI (ns.map V.int) i=some (.int (ns.getD i.toNat 0)):=by
 have h2:i.toNat < ns.length:=by omega
 refine zZ h0 ?_
 rw[A',b_ h2,x_,b_ h2]
 rfl
theorem C8{K:Kk}{b:Bool}{H:Hp}{p:Kl}{xs:List V}{i:Int}{v:V}{Q:VK}(h:SqG b K H p xs)(hv:atI xs i=some v)(q:Q v H):rIx K (.ref p) (.int i) H Q:=by
 cases b with
 | true=>exact .inr (.inl ⟨p,xs,i,v,rfl,rfl,h,hv,q⟩)
 | false=>exact .inl ⟨p,xs,i,v,rfl,rfl,h,hv,q⟩
theorem bA{A B:Prop}{b:Bool}(hb:b=false)(h:B):if b=true then A else B:=by rw[hb];exact EV h
theorem jU{A B:Prop}{b:Bool}(hb:b=true)(h:A):if b=true then A else B:=by rw[hb];exact Cs h
theorem oW{Q:VK}{b:Bool}{H:Hp}(hb:b=true)(q:Q (.bl true) H):Q (.bl b) H:=by rw[hb];exact q
theorem EL{A B:Prop}{b:Bool}(h1:b=true->A)(h2:b=false->B):if b=true then A else B:=by
 cases b with
 | true=>exact Cs (h1 rfl)
 | false=>exact EV (h2 rfl)
def isT:HO->Bool
 | .tup _=>true
 | .frz _ (.tup _)=>true
 | _=>false
def pJ(H H':Hp):Prop:=∀ b o,H b=some o->isT o=true->H' b=some o
theorem uy{H:Hp}{p:Kl}{o o':HO}(h:H p=some o)(ht:isT o=false):pJ H (upd H p o'):=fun b u e t=>by
 have n:b≠p:=fun z=>by
  subst z
  rw[h]at e
  cases e
  rw[ht]at t
  cases t
 rw[ak n]
 exact e
mutual
def pQ:Dt->Bool
 | .lst _=>false
 | .tup ds=>j8 ds
 | _=>true
def j8:List Dt->Bool
 | []=>true
 | d::r=>pQ d && j8 r
end
theorem SqT.iX {K:Kk}{H H':Hp}{a:Kl}{xs:List V}(e:pJ H H')(h:SqT K H a xs):SqT K H' a xs:=by
 rcases h with (h | ⟨o,h⟩) | h
 ·exact .inl (.inl (e _ _ h rfl))
 ·exact .inl (.inr ⟨o,e _ _ h rfl⟩)
 exact .inr h
mutual
theorem Has.iX {K:Kk}{H H':Hp}(e:pJ H H'):∀ {d:Dt} {v:V},pQ d=true->Has K H d v->Has K H' d v
 | .int i,v,_,h=>by rw[Has]at h ⊢;exact h
 | .bl i,v,_,h=>by rw[Has]at h ⊢;exact h
 | .str i,v,_,h=>by rw[Has]at h ⊢;exact h
 | .non,v,_,h=>by rw[Has]at h ⊢;exact h
 | .lst ds,v,t,h=>by simp[pQ]at t
 | .tup ds,v,t,h=>by
  rw[pQ]at t
  rw[Has]at h ⊢
  obtain⟨a,xs,hv,hs,hl⟩:=h
  exact⟨a,xs,hv,SqT.iX e hs,au.iX e t hl⟩
theorem au.iX {K:Kk}{H H':Hp}(e:pJ H H'):∀ {ds:List Dt} {xs:List V},j8 ds=true->au K H ds xs->au K H' ds xs
 | [],xs,_,h=>by rw[au]at h ⊢;exact h
 | d::r,xs,t,h=>by
  rw[j8,FI]at t
  rw[au]at h ⊢
  obtain⟨x,t',hx,h1,h2⟩:=h
  exact⟨x,t',hx,Has.iX e t.1 h1,au.iX e t.2 h2⟩
end
theorem vn{ds:List Dt}(h:∀ d∈ds,pQ d=true):j8 ds=true:=by
 induction ds with
 | nil=>rw[j8]
 | cons d r ih=>rw[j8,h d y_,ih fun x hx=>h x (o_ _ hx)];rfl
theorem j5{d:Nat->Dt}(keep:Nat->Bool)(i:Nat):((m_ (i + 1)).filter keep).map d=((m_ i).filter keep).map d++(if keep i=true then [d i]else []):=by
 rw[HD,HM,v_]
 cases h:keep i <;> simp[h]
theorem nZ{K:Kk}{J:It}{fr:List (Option Nat)}{g:Km->Hp->List Kl->TG}{tt:Km->Hp->List Kl->TT}{te:Km->Hp->List Kl->TE}{σ:St}{H1:Hp}{Q:VK}(Ok:St->Prop)(n:Nat)(hn:n < sizeLine)(d:Nat->Dt)(keep:Nat->Bool)(hd:∀ i,pQ (d i)=true)(h0:Ok (bo fr σ))
  (hgo:∀ i H',aH H1 H'->i < n->J.go i H') (hst:∀ H',aH H1 H'->J.stop n H')
  (turn:∀ s3 H3' fp i σ' H',i < n->Ok σ'->aH H1 H'->∀ x H2,J.yld i H' x H2->∀(Nx:St->Hp->Prop) (Ap:St->V->Hp->Prop),(keep i=false->∀ σ2 H4,Ok σ2->aH H' H4->Nx σ2 H4)->(keep i=true->∀ σ2 v H5,Ok σ2->aH H' H5->Has K H5 (d i) v->Ap σ2 v H5)->
   g s3 H3' fp x σ' H2 fun σ2 H3=>tt s3 H3' fp σ2 H3 fun b H4=>if b=true then te s3 H3' fp σ2 H4 (fun v H5=>Ap σ2 v H5)else Nx σ2 H4)
  (fin:∀ p acc H',H1 p=none->aH H1 H'->H' p=some (.lst acc)->au K H' (((m_ n).filter keep).map d) acc->Q (.ref p) H') :
  B5 J fr g tt te σ H1 Q:=by
 intro p hp s3 H3' fp
 have tall:∀ i,j8 (((m_ i).filter keep).map d)=true:=fun i=>vn fun x hx=>by
  obtain⟨j,_,rfl⟩:=FG.mp hx
  exact hd j
 refine⟨fun i m σ' H'=>m=n - i/\i<=n/\Ok σ'/\aH H1 H'/\∃ acc,H' p=some (.lst acc)/\au K H' (((m_ i).filter keep).map d) acc,⟨n,by simp,B' _,h0,aO hp _,[],ax,gJ⟩,?_⟩
 rintro i m σ' H' ⟨rfl,hi,ok,sm,acc,hacc,hl⟩
 by_cases hlt:i < n
 ·refine .inr ⟨hgo i H' sm hlt,fun x H2 hy=>?_⟩
  refine turn s3 H3' fp i σ' H' hlt ok sm x H2 hy (fun σ2 H4=>∃ m',m' < n - i/\m'=n - (i + 1)/\i + 1<=n/\Ok σ2/\aH H1 H4/\∃ acc,H4 p=some (.lst acc)/\au K H4 (((m_ (i + 1)).filter keep).map d) acc) (fun σ2 v H5=>_) (fun hk σ2 H4 ok2 s4=>?_) (fun hk σ2 v H5 ok2 s5 hv=>?_)
  ·refine⟨n - (i + 1),by lia,rfl,hlt,ok2,sm.trans' s4,acc,s4 _ _ hacc,?_⟩
   rw[j5,hk]
   simpa using au.same s4 hl
  have h5:H5 p=some (.lst acc):=s5 _ _ hacc
  have len:acc.length<=i:=by
   have e:=hl.len
   have e2:(((m_ i).filter keep).map d).length<=i:=by
    rw[a_]
    exact n_ (Ig _ _) (by rw[z_];exact e_ _)
   lia
  have ts:pJ H5 (upd H5 p (.lst (acc++[v]))):=uy h5 rfl
  refine⟨acc,h5,by lia,n - (i + 1),by lia,rfl,hlt,ok2,fun b o e=>?_,acc++[v],ax,?_⟩
  ·rw[ak (aQ e hp)]
   exact s5 b o (sm b o e)
  rw[j5,hk]
  exact au.append (au.iX ts (tall i) (au.same s5 hl)) (iE (Has.iX ts (hd i) hv) gJ)
 have e:i=n:=by lia
 subst e
 exact .inl ⟨hst H' sm,fin p acc H' hp sm hacc hl⟩
theorem pD{X:Cx}{N ps:List Str}{esc:Lp}(S:FnScope N ps esc)(N':List Str)(fr:List (Option Nat))(nd:N'.Nodup){elt target iter:KC}{ifs:List KC}{sc:Lp}{pos:Pos}{wi:TI}{g:Km->Hp->List Kl->TG}{tt:Km->Hp->List Kl->TT}{te:Km->Hp->List Kl->TE}(C:dJ N esc sc N' fr=true)
  (hi:PI X target iter wi) (hg:∀ s3 H3 fp,PG (aD X N' sc s3 H3 fp) target (g s3 H3 fp)) (ht:∀ s3 H3 fp,PTs (aD X N' sc s3 H3 fp) ifs (tt s3 H3 fp)) (he:∀ s3 H3 fp,PE (aD X N' sc s3 H3 fp) elt (te s3 H3 fp))
  (hc:X.calm=true:=by rfl) (hN:X.N=N:=by rfl) (hS:X.env.scope=esc:=by rfl) (hs:∀ x,Li iter X.env x=pure x:=by intro _;rfl):PE X (.ListComp elt [⟨target,iter,ifs,0⟩] sc pos) (sh wi fr g tt te):=
 Ag N' fr hc (by rw[hN,hS];exact C) hi hg ht he hs
theorem oH{σ:St}{H:Hp}{A B:Hp->Prop}(h:A H):Cu σ H (fun b H4=>if b=true then A H4 else B H4):=by
 unfold Cu
 exact Cs h
theorem f7{K:Kk}{H:Hp}:∀ {bs:List Bool} {xs:List V},au K H (bs.map Dt.bl) xs->xs=bools bs
 | [],xs,h=>by
  have h:au K H [] xs:=h
  rw[au]at h;exact h
 | n::r,xs,h=>by
  have h:au K H (Dt.bl n::r.map Dt.bl) xs:=h
  rw[au]at h
  obtain⟨x,t,rfl,h1,h2⟩:=h
  rw[Has]at h1
  rw[h1,f7 h2]
  rfl
def Its(K:Kk)(b:Bool)(a:Kl):It:=match b with
 | true=>Itt K a
 | false=>Itl K a
def iSq(K:Kk)(tl:TE):TI:=fun σ H R=>tl σ H fun x H1=>∃ b a xs,x=.ref a/\SqG b K H1 a xs/\R (Its K b a) H1
theorem CA{X:Cx}{tg l:KC}{tl:TE}(hl:PE X l tl):PI X tg l (iSq X.K tl):=by
 intro pins s σ H R I h
 refine thn (hl pins s σ H _ I h) ?_
 rintro v s1 ⟨x,H1,I1,r1,q1⟩
 obtain⟨b,a,xs,rfl,hq,q⟩:=q1
 cases r1
 cases b with
 | true=>
  obtain⟨its,rv,p,hz⟩:=I1.tuple hq
  refine Lm (show s1.heap.IsTuple a its.toArray from p) ⟨s1.heap.objs.size,[s1.heap.objs.size],_,_,H1,rfl,I1.kept (t':=s1.toks) fun b o e=>Kn _ e,qW a _,⟨_,Kt _ rfl,rfl,rfl⟩,fun b hb=>?_,q⟩
  have e:b=s1.heap.objs.size:=by simpa using hb
  subst e
  exact I1.uq (e_ _) (I1.hok.fresh (e_ _))
 | false=>
  obtain⟨its,rv,p,hz⟩:=I1.list hq
  refine LG p.isList ⟨s1.heap.objs.size,[s1.heap.objs.size],_,_,H1,rfl,I1.kept (t':=s1.toks) fun b o e=>Kn _ e,ud a _,⟨_,Kt _ rfl,rfl,rfl⟩,fun b hb=>?_,q⟩
  have e:b=s1.heap.objs.size:=by simpa using hb
  subst e
  exact I1.uq (e_ _) (I1.hok.fresh (e_ _))
theorem zf{K:Kk}{b:Bool}{a:Kl}{xs:List V}{H1 H' H2:Hp}{i:Nat}{v:V}(h1:SqG b K H1 a xs)(s:aH H1 H')(h:(Its K b a).yld i H' v H2):H2=H'/\xs[i]?=some v:=by
 cases b with
 | true=>exact⟨h.1,h.2 xs (SqG.same s h1)⟩
 | false=>exact⟨h.1,h.2 xs (SqG.same s h1)⟩
theorem BO{K:Kk}{b:Bool}{a:Kl}{xs:List V}{H1:Hp}(h1:SqG b K H1 a xs){n:Nat}(hx:xs.length=n):∀ i H',aH H1 H'->i < n->(Its K b a).go i H':=fun i H' s hi=>by
 cases b with
 | true=>exact⟨xs,xs[i]'(by lia),SqT.same s h1,b_ _⟩
 | false=>exact⟨xs,xs[i]'(by lia),SqL.same s h1,b_ _⟩
theorem x9{K:Kk}{b:Bool}{a:Kl}{xs:List V}{H1:Hp}(h1:SqG b K H1 a xs){n:Nat}(hx:xs.length=n):∀ H',aH H1 H'->(Its K b a).stop n H':=fun H' s=>by
 cases b with
 | true=>exact⟨xs,SqT.same s h1,by lia⟩
 | false=>exact⟨xs,SqL.same s h1,by lia⟩
theorem vX{K:Kk}{b1 b2:Bool}{a1 a2:Kl}{xs ys:List V}{H1:Hp}(h1:SqG b1 K H1 a1 xs)(h2:SqG b2 K H1 a2 ys){n:Nat}(hx:xs.length=n)(hy:ys.length=n):∀ i H',aH H1 H'->i < n->(Itz K b1 a1 b2 a2).go i H':=fun i H' s hi=>
 ⟨xs,ys,xs[i]'(by lia),ys[i]'(by lia),SqG.same s h1,SqG.same s h2,b_ _,b_ _⟩
theorem pL{K:Kk}{b1 b2:Bool}{a1 a2:Kl}{xs ys:List V}{H1:Hp}(h1:SqG b1 K H1 a1 xs)(h2:SqG b2 K H1 a2 ys){n:Nat}(hx:xs.length=n)(hy:ys.length=n):∀ H',aH H1 H'->(Itz K b1 a1 b2 a2).stop n H':=fun H' s=>
 ⟨xs,ys,SqG.same s h1,SqG.same s h2,.inl (by lia)⟩
theorem t7{K:Kk}{b1 b2:Bool}{a1 a2:Kl}{xs ys:List V}{H1 H' H2:Hp}{i:Nat}{v:V}(h1:SqG b1 K H1 a1 xs)(h2:SqG b2 K H1 a2 ys)(s:aH H1 H')(h:(Itz K b1 a1 b2 a2).yld i H' v H2) :
  ∃ p x y,v=.ref p/\aH H' H2/\H2 p=some (.tup [x,y])/\xs[i]?=some x/\ys[i]?=some y:=by
 obtain⟨p,x,y,hp,rfl,rfl,g1,g2⟩:=h
 exact⟨p,x,y,rfl,aO hp _,ax,g1 xs (SqG.same s h1),g2 ys (SqG.same s h2)⟩
def New(o:HO)(H:Hp)(Q:VK):Prop:=∀ p H',H p=none->aH H H'->H' p=some o->Q (.ref p) H'
theorem New.at {o:HO}{H:Hp}{Q:VK}(h:New o H Q){p:Kl}(hp:H p=none):Q (.ref p) (upd H p o):=h p _ hp (aO hp o) ax
section
variable{X:Cx}{es:List KC}{t:TA}{pos:Pos}
def E2(t:TA):TE:=fun σ H Q=>t σ H fun xs H1=>xs.length<=sizeLine/\New (.tup xs) H1 Q
def DW(t:TA):TE:=fun σ H Q=>t σ H fun xs H1=>xs.length<=sizeLine/\New (.lst xs) H1 Q
theorem A7{x1}(h:PA X es t):PE X (.Tuple es x1 pos) (E2 t):=by
 intro pins s σ H Q I hq
 refine wpAny_Tuple_spliced (thn (h pos pins s σ H _ I hq) fun us s1 ⟨xs,H1,I1,r,z,q⟩=>⟨by rw[<-r.length];exact z,?_⟩)
 refine⟨.ref s1.heap.objs.size,upd H1 s1.heap.objs.size (.tup xs),I1.laid (t':=s1.toks) (fun b u e=>Kn _ e) (e_ _) ⟨z,us,r,⟨_,Kt _ rfl,rfl,_,rfl⟩⟩,rfl,q.at (I1.hok.fresh (e_ _))⟩
theorem Ad(h:PA X es t):PE X (.List es pos) (DW t):=by
 intro pins s σ H Q I hq
 refine OO (thn (h pos pins s σ H _ I hq) fun us s1 ⟨xs,H1,I1,r,z,q⟩=>⟨by rw[<-r.length];exact z,?_⟩)
 refine⟨.ref s1.heap.objs.size,upd H1 s1.heap.objs.size (.lst xs),I1.laid (t':=s1.toks) (fun b u e=>Kn _ e) (e_ _) ⟨z,us,0,r,Kt _ rfl⟩,rfl,q.at (I1.hok.fresh (e_ _))⟩
theorem bG.imp {f:Kj}{r r':List V->Hp->VK->Prop}(h:bG X f r)(k:∀ vs H Q,r' vs H Q->r vs H Q):bG X f r':=fun pins s σ H xs us Q I rv q=>h pins s σ H xs us Q I rv (k _ _ _ q)
theorem OpR.imp {f:Kj->Kj->Sem Kj}{r r':R2}(h:OpR X f r)(k:∀ x y H Q,r' x y H Q->r x y H Q):OpR X f r':=fun pins s σ H x y v u Q I rx ry q=>h pins s σ H x y v u Q I rx ry (k _ _ _ _ q)
theorem qV:bG X (.type "list") (fun xs H Q=>∃ b p ys,xs=[.ref p]/\SqG b X.K H p ys/\New (.lst ys) H Q):=fI.imp fun vs H Q ⟨b,p,ys,e,h,q⟩=>by
 refine⟨p,ys,e,?_,fun l hl=>q.at hl⟩
 cases b with
 | true=>exact .inr h
 | false=>exact .inl h
theorem pz:bG X (.type "tuple") (fun xs H Q=>∃ p ys,xs=[.ref p]/\SqL X.K H p ys/\New (.tup ys) H Q):=l9.imp fun vs H Q ⟨p,ys,e,h,q⟩=>⟨p,ys,e,.inl ⟨h,fun l hl=>q.at hl⟩⟩
theorem uQ:bG X (.builtin "len") (fun xs H Q=>∃ b p ys,xs=[.ref p]/\SqG b X.K H p ys/\Q (.int ys.length) H):=bV.imp fun vs H Q ⟨b,p,ys,e,h,q⟩=>by
 refine⟨p,ys,e,?_,q⟩
 cases b with
 | true=>exact .inr h
 | false=>exact .inl h
def Fx(K:Kk):R2:=fun x y H Q=>∃ b p xs i v,x=.ref p/\y=.int i/\SqG b K H p xs/\atI xs i=some v/\Q v H
theorem Fq:IxR X (Fx X.K):=fun value slice pins s σ H x y v u Q I rx ry ⟨b,p,xs,i,z,e1,e2,hq,ha,q⟩ hs=>by
 subst e1 e2
 exact Br value slice pins s σ H (.ref p) (.int i) v u Q I rx ry (C8 hq ha q) hs
end
structure Put (H:Hp) (p:Kl) (o:HO) (H':Hp):Prop where
 at_:H' p=some o
 else_:∀ b,b≠p->H' b=H b
theorem Put.up {H:Hp}{p:Kl}{o:HO}:Put H p o (upd H p o):=⟨ax,fun b h=>ak h⟩
section
variable{X:Cx}
theorem rJ.imp {t t':yU}(h:rJ X t)(k:∀ o i v H Q,t' o i v H Q->t o i v H Q):rJ X t':=fun pins s σ H o i v ov iv u Q I r1 r2 r3 q=>h pins s σ H o i v ov iv u Q I r1 r2 r3 (k _ _ _ _ _ q)
theorem uT:rJ X (fun o i v H Q=>∃ p xs k j,o=.ref p/\i=.int k/\H p=some (.lst xs)/\ixN xs.length k=some j/\∀ H',Put H p (.lst (xs.set j v)) H'->Q H'):=set_list.imp fun o i v H Q ⟨p,xs,k,j,e1,e2,h,hj,q⟩=>⟨p,xs,k,j,e1,e2,h,hj,q _ Put.up⟩
end
section
variable{M:Mv}{A:KN}{E:Kj->Km->Prop}{s:Km}{env:Env}
theorem gp{e:KC}{scope:Lp}{pos:Pos}{newAcc first:Sem Kj}{g:Nu}{gs:List Nu}{u:Kj->Sem Unit}{Q:Kj->Km->Prop}
  (hcl:clausesOf e=g::gs) (hs:∀ x,Li g.iter env x=pure x)
  (hc:∀ x∈scope.names,x.2≠.cell) (hfr:∀ x∈scope.names,x.2=.free->∃ c,env.cells.lookup x.1=some c) (hkind:scope.kind=.function) (hnames:∀ x∈scope.names,x.2=.local->scope.names.lookup x.1=some .local)
  (h:Kr M A first (fun x s₁=>Kr M A (M' x) (fun it s₂=>Kr M A newAcc (fun acc s₃=>
   ∀ h4,h4.Ns s₃.heap.objs.size (fun _=>none)->(∀ b o,s₃.heap.get? b=some o->h4.get? b=some o)->
    LQ M A (.compStart e 0 it acc (L2.compEnv env scope s₃.heap.objs.size)) (fun r s'=>match r with
     | .ok _=>Kr M A (u acc) (fun _ s''=>∃ m,s''.heap.Ns s₃.heap.objs.size m/\∀ h',Lj s₃.heap.objs.size s''.heap h'->Q .none { s'' with heap:=h' }) E s'
     | .error x=>False) { s₃ with heap:=h4 }) E s₂) E s₁) E s) :
  Kr M A (M7 e scope env pos newAcc false first (some u)) Q E s:=by
 unfold M7
 rw[kj hfr,hcl]
 refine Ki (KW h (fun x s₁ h₁=>Ki (M4 (Ki (Mq (hs x) (Ki (KY (KW h₁ (fun it s₂ h₂=>
  QH (Ki (KW h₂ (fun acc s₃ h₃=>Ki (Ko (Ki ?_))) fun _ _ h'=>h'))) fun _ _ h'=>h'))))))) fun _ _ h'=>h')
 refine Ou hc (fun x hx=>nomatch hx) (fun h4 hn4 hs4=>?_) hkind
 have h₄:=h₃ h4 hn4 fun b o e=>hs4.extBut b o (w_ (Ky e)) (Kn _ e)
 dsimp only
 have hv:∀ x∈(scope.names.filter fun x=>(x.2 == .local || x.2 == .cell) && x.1 !=(".0":Str)).reverse,x.2=.local->
   P0 (L2.compEnv env scope s₃.heap.objs.size) x.1=some .local:=fun x hx hl=>by
  show(jR env scope).names.lookup x.1=some .local
  rw[fM,hnames x (Gs.mp (JL.mp hx)).1 hl]
  rfl
 have hv':∀ x∈(scope.names.filter fun x=>(x.2 == .local || x.2 == .cell) && x.1 !=(".0":Str)).reverse.drop 1++(scope.names.filter fun x=>(x.2 == .local || x.2 == .cell) && x.1 !=(".0":Str)).reverse.take 1,
   x.2=.local->P0 (L2.compEnv env scope s₃.heap.objs.size) x.1=some .local:=fun x hx hl=>
  (FF.mp hx).elim (fun z=>hv x (Hl z) hl) fun z=>hv x (Gi z) hl
 refine KY (Ki (Ml (KY (wpAny_run (Md h₄ fun r s' hr=>?_)))))
 cases r with
 | ok f=>
  refine Ki (LW (Ki (KY (KW hr (fun _ s'' hr'=>?_) fun _ _ h'=>h'))))
  obtain⟨m,hn,hr'⟩:=hr'
  exact Ki (Pp (cenv:=L2.compEnv env scope s₃.heap.objs.size) hkind _ s'' m hv' hn fun h' m' _ hs'=>Ko (hr' h' hs'))
 | error x=>exact hr.elim
end
theorem sr{X:Cx}{N ps:List Str}{esc:Lp}(S:FnScope N ps esc){i:Nat}{x:Str}{pos pos':Pos}(N':List Str)(fr:List (Option Nat))(nd:N'.Nodup){elt target iter:KC}{ifs:List KC}{sc:Lp}{pos2:Pos}{wi:TI}{g:Km->Hp->List Kl->TG}{tt:Km->Hp->List Kl->TT}{te:Km->Hp->List Kl->TE}(C:dJ N esc sc N' fr=true)
  (hi:X.N[i]?=some x) (hx:Loc X.env.scope x) (hit:PI X target iter wi) (hg:∀ s3 H3 fp,PG (aD X N' sc s3 H3 fp) target (g s3 H3 fp)) (ht:∀ s3 H3 fp,PTs (aD X N' sc s3 H3 fp) ifs (tt s3 H3 fp)) (he:∀ s3 H3 fp,PE (aD X N' sc s3 H3 fp) elt (te s3 H3 fp))
  (hsw:ME (.ListComp elt [⟨target,iter,ifs,0⟩] sc pos2) (some (.Name x pos')) pos.line X.env=pure true) (hf:X.fn x=true:=by rfl)
  (hc:X.calm=true:=by rfl) (hN:X.N=N:=by rfl) (hS:X.env.scope=esc:=by rfl) (hs:∀ x,Li iter X.env x=pure x:=by intro _;rfl):PS X (.Assign [.Name x pos'] (.ListComp elt [⟨target,iter,ifs,0⟩] sc pos2) pos) (yH (sh wi fr g tt te) (tF i)):=by
 have C:CompOk X.N X.env.scope sc N' fr:=mq (by rw[hN,hS];exact C)
 have hNd:X.N.Nodup:=by rw[hN];exact S.nd
 intro pins s σ H D I h
 rw[exec_Assign_Name_used _ _ _ _ hsw]
 refine Ki (M4 (Ki ?_))
 show Kr _ X.A (do let _ <-M7 (.ListComp elt [⟨target,iter,ifs,0⟩] sc pos2) sc X.env _ (newList []) false (KR iter X.env) (some (MZ (.Name x pos') X.env))) _ _ s
 have hfr:∀ x∈sc.names,x.2=.free->∃ c,X.env.cells.lookup x.1=some c:=fun x hx e=>I.ok.has x.1 (.inl (C.free x hx e))
 refine Ki (KW (gp (g:=⟨target,iter,ifs,0⟩) (gs:=[]) (Q:=fun _ s'=>SP X pins D .next s') rfl hs C.nocell hfr C.kind C.names ?_) (fun _ s' hq=>Ko (Ko hq)) fun _ _ e=>e)
 refine thn (hit pins s σ H _ I h) fun v s1 h1=>thn h1 fun itv s2 h2=>?_
 obtain⟨it,fp,tn,J,H2,e,I2,T,st2,f2,k2⟩:=h2
 subst e
 refine Nv ?_ (by show 0<=sizeLine;decide)
 have hfree:H2 s2.heap.objs.size=none:=I2.hok.fresh (e_ _)
 obtain⟨W,⟨m0,w0⟩,turn⟩:=k2 _ hfree { s2 with heap:=s2.heap.push { cls:=.type "list",data:=.seq ([]:List Kj).toArray } } (upd H2 s2.heap.objs.size (.lst [])) fp
 have kp:∀ b u,s2.heap.get? b=some u->(s2.heap.push { cls:=.type "list",data:=.seq ([]:List Kj).toArray }).get? b=some u:=fun b u e=>Kn _ e
 have I3:Inv X pins σ (upd H2 s2.heap.objs.size (.lst [])) { s2 with heap:=s2.heap.push { cls:=.type "list",data:=.seq ([]:List Kj).toArray } }:=
  I2.laid (t':=s2.toks) kp (e_ _) ⟨B' _,[],0,.nil,Kt _ rfl⟩
 have obj2:=T.obj 0 s2.heap st2
 have fpne:∀ b∈fp,b≠s2.heap.objs.size:=fun b hb=>by
  obtain⟨o,ho,_⟩:=obj2 b hb
  exact w_ (Ky ho)
 have f3:∀ b∈fp,gx X pins (upd H2 s2.heap.objs.size (.lst [])) b:=fun b hb=>⟨by rw[ak (fpne b hb)];exact(f2 b hb).1,(f2 b hb).2⟩
 have st3:=T.keep 0 s2.heap _ st2 fun b hb o e=>kp b o e
 have obj3:=T.obj 0 _ st3
 intro h4 hn4 hk4
 have st4:=T.keep 0 _ h4 st3 fun b hb o e=>hk4 b o e
 have I4:=ph (N':=N') (fr:=fr) (fp:=fp) I3 C hc f3 (fun b hb=>let ⟨o,ho,_⟩:=obj3 b hb;⟨o,ho⟩) hn4 hk4
 have stat:∀ {H':Hp},(∀ b∈fp,H' b=none)->∀ b∈fp,gx (aD X N' sc { s2 with heap:=s2.heap.push { cls:=.type "list",data:=.seq ([]:List Kj).toArray } } (upd H2 s2.heap.objs.size (.lst [])) fp) [] H' b:=fun hn b hb=>
  ⟨hn b hb,(I4.ok.exf b hb).1,I4.ok.exfs b hb,.inl hb,(I4.ok.exf b hb).2,fun p hp=>(nomatch hp)⟩
 have loop:LQ (Kw X.prog X.w) X.A (.compLoop (.ListComp elt [⟨target,iter,ifs,0⟩] sc pos2) 0 (.ref it) (.ref s2.heap.objs.size) (L2.compEnv X.env sc (s2.heap.push { cls:=.type "list",data:=.seq ([]:List Kj).toArray }).objs.size))
   (fun r s'=>match r with
    | .ok _=>Kr (Kw X.prog X.w) X.A (MZ (.Name x pos') X.env (.ref s2.heap.objs.size)) (fun _ s''=>∃ m,s''.heap.Ns (s2.heap.push { cls:=.type "list",data:=.seq ([]:List Kj).toArray }).objs.size m/\∀ h',Lj (s2.heap.push { cls:=.type "list",data:=.seq ([]:List Kj).toArray }).objs.size s''.heap h'->SP X pins D .next { s'' with heap:=h' }) X.xe s'
    | .error x=>False) { s2 with heap:=h4 }:=by
  refine iV (fun n s'=>∃ i σ' H',Inv (aD X N' sc { s2 with heap:=s2.heap.push { cls:=.type "list",data:=.seq ([]:List Kj).toArray } } (upd H2 s2.heap.objs.size (.lst [])) fp) [] σ' H' s'/\tn i s'.heap/\(∀ b∈fp,H' b=none)/\W i n σ' H') ?_ m0
   ⟨0,_,_,I4,st4,fun b hb=>(f3 b hb).1,w0⟩
  rintro n s5 ⟨j,σ5,H5,I5,st5,fr5,w5⟩
  rcases turn j n σ5 H5 w5 with⟨stop,q⟩ | ⟨go,step⟩
  ·refine thn (T.done (aD X N' sc _ _ fp) rfl rfl rfl rfl j [] s5 σ5 H5 (fun _ _=>False) I5 (stat fr5) st5 stop) ?_
   rintro r s6 ⟨hr,I6⟩
   subst hr
   obtain⟨m6,hn6,_⟩:=id I6.loc
   have hL:H5 (s2.heap.push { cls:=.type "list",data:=.seq ([]:List Kj).toArray }).objs.size=none:=I6.free
   have I7:Inv X pins σ H5 s6:=I3.B7 (s':=s6) (ch:=fp) I6.os I6.base I6.hok I6.bare (fun b hb=>by
    obtain⟨_,g1,g2,g3,g4,g5⟩:=f3 b hb
    exact⟨g3,g1,g4,g5⟩)
   have Lne:(s2.heap.push { cls:=.type "list",data:=.seq ([]:List Kj).toArray }).objs.size≠X.env.locals:=G0 I3.lt
   have cne:∀ y c,X.env.cells.lookup y=some c->c≠(s2.heap.push { cls:=.type "list",data:=.seq ([]:List Kj).toArray }).objs.size:=fun y c e=>by
    obtain⟨v',z⟩:=I3.cell y c e
    exact w_ z.lt
   refine O2 (lX (v:=.ref s2.heap.objs.size) I7 hNd hi hx rfl (fun s8 I8 ⟨a8,sb8,ha8⟩=>?_) (.inl hf))
   refine⟨m6,hn6.sameBut sb8 (fun z=>ha8.elim (fun w'=>Lne (z.trans w')) fun w'=>cne _ _ w' z.symm),fun h' hs'=>⟨_,H5,?_,q⟩⟩
   refine I8.turned (it:=(s2.heap.push { cls:=.type "list",data:=.seq ([]:List Kj).toArray }).objs.size) (t':=s8.toks) (fun b o hb e=>(hs'.2 b hb).trans e) hL Lne (.inr I3.sz) cne fun p hp z=>?_
   have lt:=Ky (I3.pin p hp).1
   rw[z]at lt
   exact GB _ lt
  refine thn (T.item (aD X N' sc _ _ fp) rfl rfl rfl rfl j [] s5 σ5 H5 (fun _ _=>False) I5 (stat fr5) st5 go) ?_
  rintro r s6 ⟨u,hr,h6⟩
  subst hr
  refine thn h6 ?_
  rintro _ s7 ⟨y,H7,I7,r7,y7,st7,fr7⟩
  have I7':=I7.pinned (stat fr7) (T.obj _ _ st7)
  have again:∀ {σ8:St} {H8:Hp} {s8:Km},Inv (aD X N' sc { s2 with heap:=s2.heap.push { cls:=.type "list",data:=.seq ([]:List Kj).toArray } } (upd H2 s2.heap.objs.size (.lst [])) fp) ([]++iQ fp s7.heap) σ8 H8 s8->(∃ m',m' < n/\W (j + 1) m' σ8 H8)->
    ∃ m,m < n/\∃ i σ' H',Inv (aD X N' sc { s2 with heap:=s2.heap.push { cls:=.type "list",data:=.seq ([]:List Kj).toArray } } (upd H2 s2.heap.objs.size (.lst [])) fp) [] σ' H' s8/\tn i s8.heap/\(∀ b∈fp,H' b=none)/\W i m σ' H':=fun{σ8 H8 s8} I8 ⟨m',hm,w8⟩=>by
   refine⟨m',hm,j + 1,σ8,H8,I8.dA,T.keep _ _ _ st7 fun b hb o e=>(I8.pin (b,o) (q_ _ (q_ _ (bJ hb e)))).1,fun b hb=>?_,w8⟩
   obtain⟨o,e,d⟩:=T.obj _ _ st7 b hb
   exact(I8.pin (b,o) (q_ _ (q_ _ (bJ hb e)))).2.1
  refine thn (hg _ _ fp _ s7 σ5 H7 y u _ I7' r7 (step y H7 y7)) ?_
  rintro _ s8 ⟨σ8,H8,I8,q8⟩
  refine thn (ht _ _ fp _ s8 σ8 H8 _ I8 q8) ?_
  rintro ok s9 ⟨H9,I9,q9⟩
  cases ok with
  | false=>exact again I9 q9
  | true=>
   refine thn (he _ _ fp _ s9 σ8 H9 _ I9 q9) ?_
   rintro y s10 ⟨v,H10,I10,r10,ys,hys,hl,q10⟩
   refine thn (iS _ s10 σ8 H10 (.ref s2.heap.objs.size) [v] (.ref s2.heap.objs.size) [y] (fun _ H'=>∃ m',m' < n/\W (j + 1) m' σ8 H') I10 rfl (.cons r10 .nil) ⟨_,ys,v,rfl,rfl,hys,hl,q10⟩) ?_
   rintro z s11 ⟨_,H11,I11,_,q11⟩
   exact again I11 q11
 refine N7 loop ?_
 exact T.self X.A 0 _ _ _ st4 loop
section
variable{X:Cx}
theorem MtM.imp {id:String}{r r':V->List V->Hp->VK->Prop}(h:MtM X id r)(k:∀ x xs H Q,r' x xs H Q->r x xs H Q):MtM X id r':=fun pins s σ H x xs v us Q I r1 r2 q=>h pins s σ H x xs v us Q I r1 r2 (k _ _ _ _ q)
theorem qF:MtM X "list.extend" (fun x vs H Q=>∃ l b xs zs,x=.ref l/\vs=[.ref b]/\H l=some (.lst xs)/\H b=some (.lst zs)/\xs.length + zs.length<=sizeLine/\∀ H',Put H l (.lst (xs++zs)) H'->Q .non H'):=tU.imp fun x vs H Q ⟨l,b,xs,zs,e1,e2,h1,h2,hz,q⟩=>⟨l,b,xs,zs,e1,e2,h1,h2,hz,q _ Put.up⟩
theorem qt:MtM X "list.append" (fun x vs H Q=>∃ l xs y,x=.ref l/\vs=[y]/\H l=some (.lst xs)/\xs.length < sizeLine/\∀ H',Put H l (.lst (xs++[y])) H'->Q .non H'):=iS.imp fun x vs H Q ⟨l,xs,y,e1,e2,h1,hz,q⟩=>⟨l,xs,y,e1,e2,h1,hz,q _ Put.up⟩
end
end L2
namespace ZG
open PySem
theorem xZ{prog:Kz}{w:KD}{A:KN}(hh:A.handled=none)(b:Bool)(it l:Kl)(hne:l≠it)(items:Array Kj) :
  Draws prog w A it [it,l] items.size (fun i v=>items[i]?=some v) (fun i h=>Dr b h it l i/\Sq b h l items) where
 live:=fun _ _ st=>let ⟨o,ho,_⟩:=st.1.some;⟨o,ho⟩
 frame:=fun _ _ _ st hk=>⟨st.1.at fun o e=>hk it (by simp) o e,st.2.at fun o e=>hk l (by simp) o e⟩
 item:=fun i s Q E hi st hQ=>by
  refine mF st.1 st.2 (v:=items[i]) (by simp[hi]) fun h' hit' hs'=>?_
  exact hQ _ h' s.toks (by simp[hi]) ⟨hit',st.2.ext hs'.extBut hne⟩ hs'
 done:=fun s Q E st hE=>vy hh st.1 st.2 (by simp) hE
set_option maxHeartbeats 1000000 in
theorem tW(l:Kl)(items:Array Kj)(n:Nat)(dct:Option Kl)(sl:Array (Option Kj)) :
  QZ (LC.«enumerate.__new__» ⟨[.type "enumerate",.ref l],[]⟩) (fun _ R s=>s.heap.get? l=some { cls:=.type "tuple",dict:=dct,data:=.seq items n,slots:=sl }/\
   R (.ok (.ret (.ref (s.heap.push { cls:=.type "tuple_iterator",data:=.fields #[.ref l,.int 0 0] }).objs.size)))
    { s with heap:=(s.heap.push { cls:=.type "tuple_iterator",data:=.fields #[.ref l,.int 0 0] }).push { cls:=.type "enumerate",data:=.fields #[.none,.bool false,.ref s.heap.objs.size,Lr 0,.none,.none] } }):=
 .of_wp fun prog w A R s h=>by
  obtain⟨hp,g,d,tk,os⟩:=s;obtain⟨hl,h⟩:=h
  have hsub:=sub_enumerate
  have hL:NN (MC ⟨hp,g,d,tk,os⟩) l items:=⟨_,hl,rfl,n,rfl⟩
  wp_walk using Mg hl
  refine wpAny_stack_any fun st=>Ko ?_
  split
  ·rename_i c _ _ _ _ _
   cases (c == Lo "enumerate")
   ·wp_walk using Mg hl,Lm hL
    exact⟨_,rfl,h⟩
   wp_walk using Mg hl,Lm hL
   exact⟨_,rfl,h⟩
  wp_walk using Mg hl,Lm hL
  exact⟨_,rfl,h⟩
section
variable{prog:Kz}{w:KD}{A:KN}{E:Kj->Km->Prop}{s:Km}
theorem qR{l:Kl}{items:Array Kj}{Q:Kj->Km->Prop}(hL:s.heap.IsTuple l items)
  (h:∀ h',Ru h' (s.heap.objs.size + 1) s.heap.objs.size 0 .none->h'.IsTupleIter s.heap.objs.size l 0->h'.objs.size=s.heap.objs.size + 2->
   (∀ b o,s.heap.get? b=some o->h'.get? b=some o)->Q (.ref (s.heap.objs.size + 1)) { s with heap:=h' }) :
  Kr (Kw prog w) A (call (.type "enumerate") [.ref l]) Q E s:=by
 obtain⟨⟨c,dct,dt,sl⟩,hl,hc,n,hd⟩:=hL
 replace hc:c=.type "tuple":=hc
 replace hd:dt=.seq items n:=hd
 subst hc hd
 refine Rq F.called_enumerate (by decide) (F.typeCall_enumerate_1 _) (F.newCall_enumerate_1 _) (fun obj=>F.args_object_init_2 obj _) F.entry_enumerate_new
  (tW l items n dct sl) ⟨hl,?_⟩
 have hz:(s.heap.push { cls:=.type "tuple_iterator",data:=.fields #[.ref l,.int 0 0] }).objs.size=s.heap.objs.size + 1:=K0 ..
 show _/\_
 rw[hz]
 have he:Ru ((s.heap.push { cls:=.type "tuple_iterator",data:=.fields #[.ref l,.int 0 0] }).push
   { cls:=.type "enumerate",data:=.fields #[.none,.bool false,.ref s.heap.objs.size,Lr 0,.none,.none] }) (s.heap.objs.size + 1) s.heap.objs.size 0 .none:=by
  have:=Kt (s.heap.push { cls:=.type "tuple_iterator",data:=.fields #[.ref l,.int 0 0] })
   (o:={ cls:=.type "enumerate",data:=.fields #[.none,.bool false,.ref s.heap.objs.size,Lr 0,.none,.none] }) rfl
  rw[hz]at this;exact this
 refine⟨⟨_,he,rfl⟩,h _ he ⟨_,Kn _ (Kt _ rfl),rfl,rfl⟩ (by rw[K0,hz]) fun b o x=>Kn _ (Kn _ x)⟩
theorem qX{b:Bool}{l:Kl}{items:Array Kj}{Q:Kj->Km->Prop}(hL:Sq b s.heap l items)
  (h:∀ h',Ru h' (s.heap.objs.size + 1) s.heap.objs.size 0 .none->Dr b h' s.heap.objs.size l 0->h'.objs.size=s.heap.objs.size + 2->
   (∀ b o,s.heap.get? b=some o->h'.get? b=some o)->Q (.ref (s.heap.objs.size + 1)) { s with heap:=h' }) :
  Kr (Kw prog w) A (call (.type "enumerate") [.ref l]) Q E s:=by
 cases b with
 | true=>exact qR hL h
 | false=>exact call_enumerate_list hL h
end
end ZG
namespace L2
open PySem PySem.Spec PyProof.Rows
noncomputable def Ite(K:Kk)(b:Bool)(a:Kl):It:=
  ⟨fun i H=>∃ xs x,SqG b K H a xs/\xs[i]?=some x,
   fun i H v H'=>∃ p x,H p=none/\v=.ref p/\H'=upd H p (.tup [.int i,x])/\∀ xs,SqG b K H a xs->xs[i]?=some x,
   fun i H=>∃ xs,SqG b K H a xs/\xs.length=i⟩
theorem uo{P:Kz}{w:KD}{K:Kk}{es:List KC}{x1:Nat}{tp:Pos}(b:Bool)(a e it:Kl)(D:e≠it) :
  Turn P w K (.Tuple es x1 tp) (Ite K b a) [e,it] e (fun i h=>(∃ old,Ru h e it i old)/\ZG.Dr b h it a i) where
 mem:=by simp
 obj:=fun i h st c hb=>by
  obtain⟨⟨old,he⟩,d⟩:=st
  have hb:c=e\/c=it:=by simpa using hb
  rcases hb with rfl | rfl
  ·exact⟨_,he,fun v z=>by cases (show N0 _=Nl v from z)⟩
  exact d.some
 keep:=fun i h h' st k=>by
  obtain⟨⟨old,he⟩,d⟩:=st
  exact⟨⟨old,k e (by simp) _ he⟩,d.at fun o z=>k it (by simp) o z⟩
 item:=by
  intro X hP hw hK hc i pins s σ H E I hf st hg
  subst hP hw hK
  obtain⟨xs,x,q1,hx⟩:=hg
  obtain⟨its,rv,p1,z1⟩:=I.sq q1
  obtain⟨u,hu,ru⟩:=rv.get hx
  obtain⟨⟨old,he⟩,d⟩:=st
  have fe:=hf e (by simp)
  have fi:=hf it (by simp)
  have nai:=I.bF q1 fi
  have nae:=I.bF q1 fe
  have hlt:i < its.toArray.size:=by
   have:=(c_.mp hu).1
   simpa using this
  refine wpAny_pyNext_enum_itemD (ZG.xZ (A:=X.A.in1) (I.ok.hd hc) b it a nai its.toArray) he ⟨d,p1⟩ hlt D (by simp[D,nae.symm]) fun y h1 tk hP hO hst hT hsz hk=>⟨_,rfl,?_⟩
  have ey:y=u:=by
   have e1:its.toArray[i]?=some u:=by simpa using hu
   rw[e1]at hP
   exact(D' hP).symm
  subst ey
  refine wpAny_letOwnedTupleGo_enum (s:={ s with heap:=h1,toks:=tk + 1 }) hO fun h' he' hs'=>?_
  have hfresh:H s.heap.objs.size=none:=I.hok.fresh (e_ _)
  have eT:s.heap.objs.size≠e:=G0 (Ky he)
  have kp:∀ c o,c ∉ [e,it]->s.heap.get? c=some o->h'.get? c=some o:=fun c o hb z=>by
   have n:c≠e/\c≠it:=by simpa using hb
   exact hs'.extBut _ _ n.1 (hk c o n.1 n.2 z)
  have hT':h'.get? s.heap.objs.size=some { cls:=.type "tuple",data:=.seq #[.int i tk,y] }:=hs'.extBut _ _ eT hT
  have notfp:∀ c o,H c=some o->c ∉ [e,it]:=fun c o z hb=>by
   have:=(hf c hb).1
   rw[z]at this;cases this
  have ne:∀ c o,s.heap.get? c=some o->c≠s.heap.objs.size:=fun c o z=>w_ (Ky z)
  have nt:∀ c o,H c=some o->c≠s.heap.objs.size:=fun c o z=>aQ z hfresh
  have I1:Inv X pins σ (upd H s.heap.objs.size (.tup [.int i,x])) { s with heap:=h',toks:=tk + 1 }:=by
   refine I.step (g':=s.gens) (d':=s.drawn) (t':=tk + 1) (ch:=[e,it]) (fun c hb=>?_) (fun c o _ _ hc z _=>kp c o hc z) (fun c o _ _ hc z _=>⟨o.slots,kp c o hc z⟩)
    (fun c o _ z n=>by rw[ak (ne c o z)];exact n) (fun c o hc z=>⟨o,kp c o hc z⟩) (fun c zs z=>by rw[ak (nt c _ z)];exact z) (fun c o u z=>by rw[ak (nt c _ z)];exact z)
    (fun c ps z=>⟨#[],by rw[ak (nt c _ z),z];simp⟩) (fun m hm=>?_) (fun c o z=>?_) I.bare
   ·obtain⟨g0,g1,g2,g3,g4,g5⟩:=hf c hb
    exact⟨g3,g1,g4,g5⟩
   ·obtain⟨o,es,ep,ho',r⟩:=hm
    exact⟨o,es,ep,kp _ o (fun hb=>(hf _ hb).2.1 rfl) ho',r⟩
   by_cases hb:c=s.heap.objs.size
   ·subst hb
    rw[ax]at z
    cases z
    exact⟨by show 2<=sizeLine;decide,[.int i tk,y],.cons ⟨tk,rfl⟩ (.cons ru .nil),_,hT',rfl,_,rfl⟩
   rw[ak hb]at z
   refine(I.hok c o z).eB (fun c' w' hc' q=>kp c' w' ?_ q) (fun c' q=>by rw[ak (nt c' _ q)];exact q) fun c' zs q=>by rw[ak (nt c' _ q)];exact q
   rcases hc' with rfl | hc'
   ·exact notfp _ _ z
   exact notfp _ _ hc'
  refine⟨.ref s.heap.objs.size,_,I1,rfl,⟨s.heap.objs.size,x,hfresh,rfl,rfl,fun zs hq=>by rw[I.rK hq q1];exact hx⟩,?_,fun c hb=>?_⟩
  ·exact⟨⟨_,he'⟩,hst.1.ext hs'.extBut D.symm⟩
  have hb0:=(hf c hb).1
  have hb':c=e\/c=it:=by simpa using hb
  have hlt:∃ o,s.heap.get? c=some o:=by
   rcases hb' with rfl | rfl
   ·exact⟨_,he⟩
   obtain⟨o,z,_⟩:=d.some;exact⟨o,z⟩
  obtain⟨o,z⟩:=hlt
  rw[ak (ne c o z)]
  exact hb0
 done:=by
  intro X hP hw hK hc i pins s σ H E I hf st hg
  subst hP hw hK
  obtain⟨xs,q1,hn⟩:=hg
  obtain⟨its,rv,p1,z1⟩:=I.sq q1
  obtain⟨⟨old,he⟩,d⟩:=st
  have fe:=hf e (by simp)
  have fi:=hf it (by simp)
  have nai:=I.bF q1 fi
  have l1:=rv.length
  have en:its.toArray.size=i:=by simp;omega
  refine wpAny_pyNext_enum_endD (ZG.xZ (A:=X.A.in1) (I.ok.hd hc) b it a nai its.toArray) he (by rw[en];exact⟨d,p1⟩) fun g gk=>⟨rfl,?_⟩
  have kp:∀ c o,c ∉ [e,it]->s.heap.get? c=some o->g.get? c=some o:=fun c o hb z=>by
   have n:c≠e/\c≠it:=by simpa using hb
   exact gk c o n.2 z
  have notfp:∀ c o,H c=some o->c ∉ [e,it]:=fun c o z hb=>by
   have:=(hf c hb).1
   rw[z]at this;cases this
  refine I.step (g':=s.gens) (d':=s.drawn) (t':=s.toks) (ch:=[e,it]) (fun c hb=>?_) (fun c o _ _ hc z _=>kp c o hc z) (fun c o _ _ hc z _=>⟨o.slots,kp c o hc z⟩)
   (fun c o _ z n=>n) (fun c o hc z=>⟨o,kp c o hc z⟩) (fun c zs z=>z) (fun c o u z=>z) (fun c ps z=>⟨#[],by rw[z];simp⟩) (fun m hm=>?_) (fun c o z=>?_) I.bare
  ·obtain⟨g0,g1,g2,g3,g4,g5⟩:=hf c hb
   exact⟨g3,g1,g4,g5⟩
  ·obtain⟨o,es,ep,ho',r⟩:=hm
   exact⟨o,es,ep,kp _ o (fun hb=>(hf _ hb).2.1 rfl) ho',r⟩
  refine(I.hok c o z).eB (fun c' w' hc' q=>kp c' w' ?_ q) (fun c' q=>q) fun c' zs q=>q
  rcases hc' with rfl | hc'
  ·exact notfp _ _ z
  exact notfp _ _ hc'
 self:=fun _ _ _ _ _ st h=>by
  obtain⟨⟨old,he⟩,_⟩:=st
  exact O6 he h
def E5(K:Kk)(ta:TA):TI:=fun σ H R=>ta σ H fun vs H1=>∃ b a,vs=[.ref a]/\(∃ xs,SqG b K H1 a xs)/\R (Ite K b a) H1
theorem A9{X:Cx}{es:List KC}{x1:Nat}{tp:Pos}{a:KC}{ta:TA}{p pos:Pos}(hg:Gl X "enumerate")(hm:X.mg "enumerate"=none)(ha:PA X [a] ta)(hs:KG [a] X.env=[(false,KR a X.env)]:=by rfl) :
  PI X (.Tuple es x1 tp) (.Call (.Name "enumerate" p) [a] [] pos) (E5 X.K ta):=by
 intro pins s σ H R I h
 refine RW (bQ I hg hm boot_enumerate (LX (thn (ha pos pins s σ H _ I h) fun us s1 ⟨vs,H1,I1,r1,q1⟩=>?_) hs rfl))
 obtain⟨b,a,e,⟨xs,q1⟩,q⟩:=q1
 subst e
 cases r1 with
 | cons r rr=>
  cases rr
  cases r
  obtain⟨its,rv,p1,z1⟩:=I1.sq q1
  refine ZG.qX p1 fun g gz g1 gs gk=>O6 (s:={ s1 with heap:=g }) gz ?_
  have I2:Inv X pins σ H1 { s1 with heap:=g }:=I1.kept (t':=s1.toks) gk
  refine⟨_,_,_,_,H1,rfl,I2,uo b a _ s1.heap.objs.size (show(_:Nat)≠_ by omega),⟨⟨_,gz⟩,g1⟩,fun c hb=>?_,q⟩
  have hb':s1.heap.objs.size<=c:=by
   have z:c=s1.heap.objs.size + 1\/c=s1.heap.objs.size:=by simpa using hb
   rcases z with z | z <;> rw[z] <;>(show(_:Nat)<=_) <;> omega
  exact I1.uq hb' (I1.hok.fresh hb')
section
variable{X:Cx}
def Idn(lo:Int)(n:Nat):It:=⟨fun i _=>i < n,fun i H x H'=>H'=H/\x=.int (lo - i),fun i _=>n<=i⟩
theorem uG{P:Kz}{w:KD}{K:Kk}{tg:KC}(it:Kl)(lo:Int)(n:Nat):Turn P w K tg (Idn lo n) [it] it (fun i h=>NZ h it (lo + (i:Nat) * (-1)) ((n:Int) - (i:Nat)) (-1)) where
 mem:=by simp
 obj:=fun i h st b hb=>by
  have e:b=it:=by simpa using hb
  subst e
  refine⟨_,st,fun v z=>?_⟩
  cases (show N0 _=Nl v from z)
 keep:=fun i h h' st k=>k it (by simp) _ st
 item:=by
  intro Y hP hw hK hc i pins s σ H E I hf st hg
  subst hP hw hK
  obtain⟨f0,f1,f2,f3,f4,f5⟩:=hf it (by simp)
  have WW:=RL (prog:=Y.prog) (w:=Y.w) (I.ok.hd hc) it lo (-1) n
  refine WW.item i s _ _ hg st fun v h' tk hv st' kk=>?_
  obtain⟨t,rfl⟩:=hv
  have J1:Inv Y pins σ H { s with heap:=h',toks:=tk }:=I.turned (fun b o hb e=>kk b o (by simpa using hb) e) f0 f1 f3 f4 f5
  refine⟨_,rfl,tu (s:={ s with heap:=h',toks:=tk }) (n:="range_iterator") st' rfl rfl (by decide) ⟨.int (lo - i),H,J1,⟨t,?_⟩,⟨rfl,rfl⟩,st',fun b hb=>(hf b hb).1⟩⟩
  rw[show lo + (i:Int) * (-1)=lo - i by lia]
 done:=by
  intro Y hP hw hK hc i pins s σ H E I hf st hg
  subst hP hw hK
  obtain⟨f0,f1,f2,f3,f4,f5⟩:=hf it (by simp)
  exact N1 (I.ok.hd hc) st (by have hh:n<=i:=hg;lia) fun h' eb=>⟨rfl,I.turned (t':=s.toks) (fun b o hb e=>eb b o hb e) f0 f1 f3 f4 f5⟩
 self:=fun _ _ _ _ _ st h=>N2 st h
theorem mh{lo hi:Int}:Mj lo hi (-1)=(((lo - hi).toNat:Nat):Int):=by
 unfold Mj
 rw[if_neg (by decide)]
 split
 ·rw[show - (-1:Int)=1 from rfl,Int.ediv_one];lia
 lia
theorem rN{lo hi:Int}(h1:-(2 ^ 60)<=lo)(h2:lo < 2 ^ 60)(h3:-(2 ^ 60)<=hi)(h4:hi < 2 ^ 60):OG lo hi (-1)=true:=by
 unfold OG
 rw[mh,if_neg (by decide)]
 unfold Qw
 simp only[FI,HE,decide_eq_true_eq]
 refine⟨⟨⟨⟨⟨?_,?_⟩,?_,?_⟩,by decide,by decide⟩,?_,?_⟩,.inr ⟨?_,?_⟩⟩ <;> lia
theorem Ao{pins:List (Kl × Obj)}{σ:St}{H:Hp}{s:Km}{tg:KC}{R:It->Hp->Prop}{E:Kj->Km->Prop}{lo hi:Int}{t u v:Tok}{tk:Nat}(I:Inv X pins σ H s)(h1:-(2 ^ 60)<=lo)(h2:lo < 2 ^ 60)(h3:-(2 ^ 60)<=hi)(h4:hi < 2 ^ 60)
  (q:R (Idn lo (lo - hi).toNat) H):Kr (Kw X.prog X.w) X.A (M' (.ref s.heap.objs.size)) (PIE X pins σ tg R) E { s with heap:=s.heap.push { cls:=.type "range",data:=.fields #[.int lo t,.int hi u,.int (-1) v] },toks:=tk }:=by
 refine ON (Pb ..) (rN h1 h2 h3 h4) ?_
 obtain⟨hp,ehp⟩:∃ hp,hp=s.heap.push { cls:=.type "range",data:=.fields #[.int lo t,.int hi u,.int (-1) v] }:=⟨_,rfl⟩
 have J1:Inv X pins σ H { s with heap:=hp,toks:=tk }:=by rw[ehp];exact I.kept fun b o e=>Kn _ e
 dsimp only
 rw[<-ehp]
 refine⟨hp.objs.size,[hp.objs.size],_,_,H,rfl,J1.kept (t':=tk) fun b o e=>Kn _ e,uG _ lo (lo - hi).toNat,?_,fun b hb=>?_,q⟩
 ·have e1:lo + ((0:Nat):Int) * (-1)=lo:=by simp
  have e2:(((lo - hi).toNat:Nat):Int) - ((0:Nat):Int)=Mj lo hi (-1):=by rw[mh];lia
  show NZ _ _ (lo + ((0:Nat):Int) * (-1)) ((((lo - hi).toNat:Nat):Int) - ((0:Nat):Int)) (-1)
  rw[e1,e2]
  exact Kt _ rfl
 have e:b=hp.objs.size:=by simpa using hb
 subst e
 exact J1.uq (e_ _) (J1.hok.fresh (e_ _))
noncomputable def DS(ta:TA):TI:=fun σ H R=>ta σ H fun vs H1=>∃ i j:Int,vs=[.int i,.int j,.int (-1)]/\(-(2 ^ 60)<=i/\i < 2 ^ 60/\-(2 ^ 60)<=j/\j < 2 ^ 60)/\R (Idn i (i - j).toNat) H1
theorem uj{tg a b c:KC}{ta:TA}{p pos:Pos}(hg:Gl X "range")(hm:X.mg "range"=none)(ha:PA X [a,b,c] ta)(hs:KG [a,b,c] X.env=[(false,KR a X.env),(false,KR b X.env),(false,KR c X.env)]:=by rfl)(hs2:KG [b,c] X.env=[(false,KR b X.env),(false,KR c X.env)]:=by rfl) :
  PI X tg (.Call (.Name "range" p) [a,b,c] [] pos) (DS ta):=by
 intro pins s σ H R I h
 refine RW (bQ I hg hm PK (callWith_type1 (thn (ha pos pins s σ H _ I h) fun us s1 ⟨vs,H1,I1,r1,q1⟩=>?_) (by rw[hs,hs2]) (by rw[hs2];rfl)))
 obtain⟨i,j,e,⟨q1,q2,q3,q4⟩,q⟩:=q1
 subst e
 cases r1 with
 | cons r rr=>
  cases rr with
  | cons r' rr=>
   cases rr with
   | cons r'' rr=>
    cases rr
    obtain⟨t,rfl⟩:=r
    obtain⟨t',rfl⟩:=r'
    obtain⟨t'',rfl⟩:=r''
    refine call_range_3 (by decide) ?_ (.inl ?_)
    ·exact Ao I1 q1 q2 q3 q4 q
    unfold Builtin.divisionGoesByPylong
    rfl
theorem tf{K:Kk}{H:Hp}:∀ {ds:List Dt} {xs:List V} {us:List Kj},au K H ds xs->Vals xs us->∀ p∈us.zip ds,∃ x,RelV x p.1/\Has K H p.2 x
 | [],_,_,_,_=>fun p hp=>by simp at hp
 | d::ds,_,_,h,v=>fun p hp=>by
  rw[au]at h
  obtain⟨x,t,rfl,h1,h2⟩:=h
  cases v with
  | cons r v'=>
   rw[GH]at hp
   rcases t_.mp hp with rfl | hp
   ·exact⟨x,r,h1⟩
   exact tf h2 v' p hp
theorem ko{pins:List (Kl × Obj)}{σ:St}{H:Hp}{s:Km}(I:Inv X pins σ H s){A:KN}{n:Nat}(hA:A.units + n < cLine){d:Dt}{x:V}{v:Kj}(hd:Has X.K H d x)(rx:RelV x v) :
  ∀ {ds:List Dt} {xs:List V} {us:List Kj},b7 ds<=n->au X.K H ds xs->Vals xs us->∃ e:Kj->Bool,(∀ u∈us,My A s u v (e u))/\(∀ p∈us.zip ds,e p.1=eqD p.2 d)/\us.any e=ds.any fun d'=>eqD d' d
 | [],_,_,_,h,r=>by
  rw[au]at h
  subst h
  cases r
  exact⟨fun _=>false,fun u hu=>(by cases hu),fun p hp=>(by simp at hp),rfl⟩
 | d'::ds,_,_,hn,h,r=>by
  rw[au]at h
  obtain⟨x',t,rfl,h1,h2⟩:=h
  rw[b7]at hn
  cases r with
  | @cons _ u' _ us r1 r2=>
   obtain⟨e0,a1,a2,a3⟩:=ko I hA hd rx (by lia) h2 r2
   have q1:My A s u' v (eqD d' d):=(mX I n A d' d x' x u' v (by lia) hA h1 hd r1 rx).2.2
   have same:∀ p∈us.zip ds,p.1=u'->p.2=d':=fun p hp z=>by
    obtain⟨y,ry,hy⟩:=tf h2 r2 p hp
    rw[z]at ry
    have:=RelV.inj ry r1
    subst this
    exact Has.inj I hy h1
   have ev:∀ p∈us.zip ds,(if p.1=u' then eqD d' d else e0 p.1)=eqD p.2 d:=fun p hp=>by
    split
    ·rename_i z
     rw[same p hp z]
    exact a2 p hp
   have len:us.length=ds.length:=by
    have m1:=h2.len
    have m2:=r2.length
    lia
   have Ck:∀(f:Kj->Bool) (us:List Kj) (ds:List Dt),us.length=ds.length->(∀ p∈us.zip ds,f p.1=eqD p.2 d)->us.any f=ds.any fun d'=>eqD d' d:=fun f us=>by
    induction us with
    | nil=>intro ds z _;cases ds with
     | nil=>rfl
     | cons _ _=>cases z
    | cons u us ih=>intro ds z h;cases ds with
     | nil=>cases z
     | cons c cs=>
      rw[GC,GC,ih cs (GJ z) fun p hp=>h p (by rw[GH];exact o_ _ hp),h (u,c) (by rw[GH];exact y_ ..)]
   refine⟨fun y=>if y=u' then eqD d' d else e0 y,fun u hu=>?_,fun p hp=>?_,?_⟩
   ·show My A s u v (if u=u' then eqD d' d else e0 u)
    split
    ·rename_i z
     rw[z]
     exact q1
    rename_i z
    rcases t_.mp hu with rfl | hu
    ·exact absurd rfl z
    exact a1 u hu
   ·rw[GH]at hp
    rcases t_.mp hp with rfl | hp
    ·exact if_pos rfl
    exact ev p hp
   rw[GC,GC,Ck _ us ds len ev,if_pos rfl]
noncomputable def EX(K:Kk)(A:KN)(neg:Bool):R2:=fun x y H Q=>∃ p xs d ds,y=.ref p/\SqL K H p xs/\Has K H d x/\au K H ds xs/\A.in1.units + b7 ds < cLine/\Q (.bl (if neg then !(ds.any fun e=>eqD e d)else ds.any fun e=>eqD e d)) H
theorem Cq:OpR X (K4 .In) (EX X.K X.A false):=by
 intro pins s σ H x y v u Q I rx ry h
 obtain⟨p,xs,d,ds,rfl,hq,hd,hl,hA,q⟩:=h
 cases ry
 obtain⟨its,r,pl,hz⟩:=I.list hq
 obtain⟨e,e1,_,e3⟩:=ko I (A:=X.A.in1) hA hd rx (e_ _) hl r
 refine SeqAt.in_listAt e pl.isList (fun w hw=>e1 w (by simpa using hw)) ⟨.bl _,H,I,rfl,?_⟩
 rw[show its.toArray.any e=its.any e by simp,e3]
 exact q
theorem uU:OpR X (K4 .NotIn) (EX X.K X.A true):=by
 intro pins s σ H x y v u Q I rx ry h
 obtain⟨p,xs,d,ds,rfl,hq,hd,hl,hA,q⟩:=h
 cases ry
 obtain⟨its,r,pl,hz⟩:=I.list hq
 obtain⟨e,e1,_,e3⟩:=ko I (A:=X.A.in1) hA hd rx (e_ _) hl r
 refine SeqAt.notIn_listAt e pl.isList (fun w hw=>e1 w (by simpa using hw)) ⟨.bl _,H,I,rfl,?_⟩
 rw[show its.toArray.any e=its.any e by simp,e3]
 exact q
end
end L2
namespace ZM
open PySem
section
variable{prog:Kz}{w:KD}{A:KN}{E:Kj->Km->Prop}{s:Km}
theorem A1{Q:Bool->Km->Prop}{n m:Int}{t u:Tok}(q:Q (decide (n=m)) s):Kr (Kw prog w) A (eqBool (.int n t) (.int m u)) Q E s:=NJ (by
 have:(n == m)=decide (n=m):=by by_cases z:n=m <;> simp[z]
 rw[this];exact q)
noncomputable def lx:List Int->List Int->Bool
 | [],[]=>false
 | [],_::_=>true
 | _::_,[]=>false
 | a::x,b::y=>if a=b then lx x y else decide (a < b)
end
section
variable{prog:Kz}{w:KD}{A:KN}{E:Kj->Km->Prop}{s:Km}
def IntsAre:List Kj->List Int->Prop
 | [],[]=>True
 | v::l,n::r=>(∃ t,v=.int n t)/\IntsAre l r
 | _,_=>False
theorem Dk:∀ {l:List Kj} {n:List Int},IntsAre l n->l.length=n.length:=by
 intro l
 induction l with
 | nil=>
  intro n h
  cases n with
  | nil=>rfl
  | cons a n=>exact h.elim
 | cons v l ih=>
  intro n h
  cases n with
  | nil=>exact h.elim
  | cons a n=>rw[k_,k_,ih h.2]
end
theorem wu:∀ {x y z:List Int},lx x y=true->lx y z=true->lx x z=true:=by
 intro x
 induction x with
 | nil=>
  intro y z h1 h2
  cases y with
  | nil=>cases h1
  | cons b y=>
   cases z with
   | nil=>cases h2
   | cons c z=>rfl
 | cons a x ih=>
  intro y z h1 h2
  cases y with
  | nil=>cases h1
  | cons b y=>
   cases z with
   | nil=>cases h2
   | cons c z=>
    rw[lx]at h1 h2 ⊢
    by_cases e1:a=b
    ·rw[if_pos e1]at h1
     subst e1
     by_cases e2:a=c
     ·rw[if_pos e2]at h2 ⊢
      exact ih h1 h2
     rw[if_neg e2]at h2 ⊢
     exact h2
    rw[if_neg e1,decide_eq_true_eq]at h1
    by_cases e2:b=c
    ·subst e2
     rw[if_neg e1,decide_eq_true_eq]
     exact h1
    rw[if_neg e2,decide_eq_true_eq]at h2
    rw[if_neg (by omega),decide_eq_true_eq]
    omega
theorem wH:∀(x:List Int),lx x x=false:=by
 intro x
 induction x with
 | nil=>rfl
 | cons a x ih=>rw[lx,if_pos rfl,ih]
theorem sC{bt:Nat->Nat->Bool}(tr:∀ i j k,bt i j=true->bt j k=true->bt i k=true)(ir:∀ i,bt i i=false):∀ n,Lw bt n<=n/\∀ j,j<=n->bt j (Lw bt n)=false:=by
 intro n
 induction n with
 | zero=>exact⟨e_ _,fun j hj=>by rw[Kd.mp hj];exact ir _⟩
 | succ n ih=>
  cases hb:bt (n + 1) (Lw bt n)with
  | true=>
   have e:Lw bt (n + 1)=n + 1:=by rw[Lw,hb];rfl
   rw[e]
   refine⟨e_ _,fun j hj=>?_⟩
   rcases J7 n j with h | h
   ·rw[show j=n + 1 by omega];exact ir _
   ·rw[GV]
    intro z
    have:=tr _ _ _ z hb
    rw[ih.2 j h]at this
    cases this
  | false=>
   have e:Lw bt (n + 1)=Lw bt n:=by rw[Lw,hb];rfl
   rw[e]
   refine⟨JE ih.1,fun j hj=>?_⟩
   rcases J7 n j with h | h
   ·rw[show j=n + 1 by omega];exact hb
   exact ih.2 j h
end ZM
namespace L2
open PySem PySem.Spec PyProof.Rows
section
variable{X:Cx}
theorem qK:∀ {ps:List Kl} {us:List Kj},Vals (ps.map V.ref) us->us=ps.map KO:=by
 intro ps
 induction ps with
 | nil=>intro us h;cases h;rfl
 | cons p ps ih=>
  intro us h
  cases h with
  | cons r t=>rw[g_,<-ih t];cases r;rfl
theorem gD:∀ {ns:List Int} {us:List Kj},Vals (ns.map V.int) us->ZM.IntsAre us ns:=by
 intro ns
 induction ns with
 | nil=>intro us h;cases h;exact trivial
 | cons n ns ih=>
  intro us h
  cases h with
  | cons r t=>exact⟨r,ih t⟩
end
end L2
namespace ZS
open PySem PyProof.Rows
def gal:Bool->Keyed->Array Keyed->Nat->Nat->Nat->StateT SortSt Sem (Option Nat):=sortPriv% PySem.Builtin.gallop
def mLo:Array Keyed->Array Keyed->StateT SortSt Sem (Array Keyed):=sortPriv% PySem.Builtin.mergeLo
def mHi:Array Keyed->Array Keyed->StateT SortSt Sem (Array Keyed):=sortPriv% PySem.Builtin.mergeHi
noncomputable def bey(lf:Bool)(ky:Kq)(ar:Array Kq)(b0 i:Nat):StateT Kv Sem (Option Bool):=do
 let xx <-Lb ar (b0 + i)
 if lf then lt' xx ky else return (<-lt' ky xx).map (!·)
noncomputable def eF(lf:Bool)(ky:Kq)(ar:Array Kq)(b0 n l0 h0:Nat):StateT Kv Sem (Option Nat):=do
 let mut l:=l0
 let mut h:=h0
 for _ in [0:n]do
  if l>=h then break
  let m:=l + (h - l) / 2
  let some mo <-bey lf ky ar b0 m | return none
  if mo then l:=m + 1 else h:=m
 return some h
noncomputable def AW(lf:Bool)(ky:Kq)(ar:Array Kq)(b0 n h0:Nat):StateT Kv Sem (Option Nat):=do
 let mut la:=0
 let mut of:=1
 for _ in [0:n]do
  if of>=n - h0 then break
  let some mo <-bey lf ky ar b0 (h0 + of) | return none
  if !mo then break
  la:=of
  of:=2 * of + 1
 eF lf ky ar b0 n (h0 + la + 1) (h0 + min of (n - h0))
noncomputable def sj(lf:Bool)(ky:Kq)(ar:Array Kq)(b0 n h0:Nat):StateT Kv Sem (Option Nat):=do
 let mut la:=0
 let mut of:=1
 for _ in [0:n]do
  if of>=h0 + 1 then break
  let some fo <-bey lf ky ar b0 (h0 - of) | return none
  if fo then break
  la:=of
  of:=2 * of + 1
 eF lf ky ar b0 n (h0 + 1 - min of (h0 + 1)) (h0 - la)
theorem BY(lf:Bool)(ky:Kq)(ar:Array Kq)(b0 n h0:Nat):gal lf ky ar b0 n h0=(do
 let some rt <-bey lf ky ar b0 h0 | return none
 if rt then AW lf ky ar b0 n h0 else sj lf ky ar b0 n h0):=rfl
section
variable{M:Mv}{A:KN}{E:Kj->Km->Prop}{s:Km}
theorem Bt{lf:Bool}{ky:Kq}{ar:Array Kq}{b0 n h0:Nat}{st:Kv}{Q:Option Nat->Kv->Prop}{bd:Nat->Bool}(hh:h0 < n)(hb:∀(i:Nat) (R:Option Bool->Kv->Prop),i < n->R (some (bd i)) st->wpS M A E s (bey lf ky ar b0 i) R st)
  (mono:∀ i j,i<=j->j < n->bd j=true->bd i=true) (h:∀ k,k<=n->(∀ i,i < k->bd i=true)->(∀ i,k<=i->i < n->bd i=false)->Q (some k) st):wpS M A E s (gal lf ky ar b0 n h0) Q st:=by
 rw[BY]
 have last:∀(l hi:Nat),l<=hi->hi<=n->(∀ i,i < l->bd i=true)->(∀ i,hi<=i->i < n->bd i=false)->wpS M A E s (eF lf ky ar b0 n l hi) Q st:=fun l hi h1 h2 h3 h4=>by
  unfold eF
  dsimp only
  refine Ku (La (I:=fun x c st'=>st'=st/\∃ l hi,c=(none,l,hi)/\l<=hi/\hi<=n/\hi - l<=n - x/\(∀ i,i < l->bd i=true)/\(∀ i,hi<=i->i < n->bd i=false)) ?_ ?_ ⟨rfl,l,hi,rfl,h1,h2,by lia,h3,h4⟩)
  ·rintro x c st' _ hx ⟨rfl,l,hi,rfl,g1,g2,g3,g4,g5⟩
   dsimp only
   by_cases z:l>=hi
   ·rw[if_pos z]
    have e:l=hi:=by lia
    subst e
    exact KA (KA (h l g2 g4 g5))
   rw[if_neg z]
   have m1:l<=l + (hi - l) / 2:=Ia ..
   have m2:l + (hi - l) / 2 < hi:=by omega
   generalize l + (hi - l) / 2=m at m1 m2 ⊢
   have m3:=u_ m2 g2
   refine Ku (hb _ _ m3 ?_)
   dsimp only
   cases e:bd m with
   | true=>
    simp only[if_true]
    exact KA ⟨rfl,_,_,rfl,m2,g2,by lia,fun i hi'=>mono i _ (HW hi') m3 e,g5⟩
   | false=>
    simp only[Ga,if_false]
    refine KA ⟨rfl,_,_,rfl,m1,FK m3,by lia,g4,fun i h1 h2=>?_⟩
    cases e2:bd i with
    | false=>rfl
    | true=>rw[mono _ i h1 h2 e2]at e;cases e
  rintro c st' ⟨rfl,l,hi,rfl,g1,g2,g3,g4,g5⟩
  have e:l=hi:=by lia
  subst e
  exact KA (h l g2 g4 g5)
 have up:∀ la of,la < of->h0 + la < n->bd (h0 + la)=true->(n - h0<=of\/bd (h0 + of)=false)->wpS M A E s (eF lf ky ar b0 n (h0 + la + 1) (h0 + min of (n - h0))) Q st:=fun la of g1 g3 g4 g5=>by
  have k1:h0 + min of (n - h0)<=n:=by lia
  refine last _ _ (by lia) k1 (fun i hi=>mono i _ (HW hi) g3 g4) (fun i h1 h2=>?_)
  rcases g5 with g5 | g5
  ·rw[JM g5]at h1
   lia
  cases e2:bd i with
  | false=>rfl
  | true=>rw[mono (h0 + of) i (by lia) h2 e2]at g5;cases g5
 have dwn:∀ la of,la < of->la<=h0->bd (h0 - la)=false->(h0 + 1<=of\/of<=h0/\bd (h0 - of)=true)->wpS M A E s (eF lf ky ar b0 n (h0 + 1 - min of (h0 + 1)) (h0 - la)) Q st:=fun la of g1 g3 g4 g5=>by
  refine last _ _ (by omega) (n_ (Gu ..) (FK hh)) (fun i hi=>?_) (fun i h1 h2=>?_)
  ·rcases g5 with g5 | ⟨g5,g6⟩
   ·rw[JM g5,Il]at hi
    exact absurd hi (Im _)
   rw[JS (JE g5)]at hi
   exact mono i _ (by lia) (FW (Gu ..) hh) g6
  cases e2:bd i with
  | false=>rfl
  | true=>rw[mono (h0 - la) i h1 h2 e2]at g4;cases g4
 refine Ku (hb _ _ hh ?_)
 dsimp only
 cases e0:bd h0 with
 | true=>
  simp only[if_true]
  unfold AW
  dsimp only
  refine Ku (La (I:=fun x c st'=>st'=st/\∃ la of,c=(none,la,of)/\la < of/\x + 1<=of/\h0 + la < n/\bd (h0 + la)=true) ?_ ?_ ⟨rfl,0,1,rfl,G_,e_ _,hh,e0⟩)
  ·rintro x c st' _ hx ⟨rfl,la,of,rfl,g1,g2,g3,g4⟩
   dsimp only
   by_cases z:of>=n - h0
   ·rw[if_pos z]
    exact KA (up la of g1 g3 g4 (.inl z))
   rw[if_neg z]
   refine Ku (hb _ _ (by lia) ?_)
   dsimp only
   cases e:bd (h0 + of)with
   | false=>
    simp only[Jk,if_true]
    exact KA (up la of g1 g3 g4 (.inr e))
   | true=>
    simp only[Jt,Ga,if_false]
    exact KA ⟨rfl,_,_,rfl,by lia,by lia,by lia,e⟩
  ·rintro c st' ⟨rfl,la,of,rfl,g1,g2,g3,g4⟩
   exact up la of g1 g3 g4 (.inl (by lia))
 | false=>
  simp only[Ga,if_false]
  unfold sj
  dsimp only
  refine Ku (La (I:=fun x c st'=>st'=st/\∃ la of,c=(none,la,of)/\la < of/\x + 1<=of/\la<=h0/\bd (h0 - la)=false) ?_ ?_ ⟨rfl,0,1,rfl,G_,e_ _,B' _,e0⟩)
  ·rintro x c st' _ hx ⟨rfl,la,of,rfl,g1,g2,g3,g4⟩
   dsimp only
   by_cases z:of>=h0 + 1
   ·rw[if_pos z]
    exact KA (dwn la of g1 g3 g4 (.inl z))
   rw[if_neg z]
   have z:=Nat.lt_succ_iff.mp (IT z)
   refine Ku (hb _ _ (FW (Gu ..) hh) ?_)
   dsimp only
   cases e:bd (h0 - of)with
   | true=>
    simp only[if_true]
    exact KA (dwn la of g1 g3 g4 (.inr ⟨z,e⟩))
   | false=>
    simp only[Ga,if_false]
    exact KA ⟨rfl,_,_,rfl,by lia,by lia,z,e⟩
  rintro c st' ⟨rfl,la,of,rfl,g1,g2,g3,g4⟩
  exact dwn la of g1 g3 g4 (.inl (by lia))
end
def setG(g:Nat):StateT Kv Sem Unit:=modify fun s=>L_ (kindOf s) (Ks s) (KI s) g (Lc s)
def dn(a b out:Array Kq)(i j:Nat):Array Kq:=out++a.extract i a.size++b.extract j b.size
def eX(a b out:Array Kq)(i j:Nat):Array Kq:=out++b.extract j b.size++a.extract i a.size
theorem D7(a b:Array Kq):mLo a b=(do
 rule "list.sort.merge-lo"
 let mut out:Array Kq:=#[<-Lb b 0]
 let mut i:=0
 let mut j:=1
 if j == b.size then return dn a b out i j
 if i + 1 == a.size then return eX a b out i j
 let mut mg:=NO (<-get)
 for _ in [0:a.size + b.size]do
  let mut ca:=0
  let mut cb:=0
  for _ in [0:a.size + b.size]do
   let some bw <-lt' (<-Lb b j) (<-Lb a i) | return dn a b out i j
   if bw then
    out:=out.push (<-Lb b j);j:=j + 1;cb:=cb + 1;ca:=0
    if j == b.size then return dn a b out i j
    if cb>=mg then break
   else
    out:=out.push (<-Lb a i);i:=i + 1;ca:=ca + 1;cb:=0
    if i + 1 == a.size then return eX a b out i j
    if ca>=mg then break
  rule "list.sort.gallop"
  mg:=mg + 1
  for _ in [0:a.size + b.size]do
   if mg > 1 then mg:=mg - 1
   setG mg
   let some k <-gal false (<-Lb b j) a i (a.size - i) 0 | return dn a b out i j
   ca:=k
   if k > 0 then
    out:=out++a.extract i (i + k);i:=i + k
    if i + 1 == a.size then return eX a b out i j
    if i == a.size then return dn a b out i j
   out:=out.push (<-Lb b j);j:=j + 1
   if j == b.size then return dn a b out i j
   let some k <-gal true (<-Lb a i) b j (b.size - j) 0 | return dn a b out i j
   cb:=k
   if k > 0 then
    out:=out++b.extract j (j + k);j:=j + k
    if j == b.size then return dn a b out i j
   out:=out.push (<-Lb a i);i:=i + 1
   if i + 1 == a.size then return eX a b out i j
   if ca < 7 && cb < 7 then break
  mg:=mg + 1
  setG mg
 unsupported "internal:list.sort.merge-bound"):=rfl
abbrev GS:=Option (Array Kq) × Array Kq × Nat × Nat × Nat × Nat × Nat
abbrev FS:=Option (Array Kq) × Array Kq × Nat × Nat × Nat × Nat
abbrev OS:=Option (Array Kq) × Array Kq × Nat × Nat × Nat
noncomputable def g3(a b out:Array Kq)(i j mg ca cb:Nat):StateT Kv Sem (ForInStep GS):=do
 let y <-Lb a i
 if(i + 1 + 1 == a.size)=true then pure (Kx (some (eX a b (out.push y) (i + 1) j),out.push y,i + 1,j,mg,ca,cb))
 else if(decide (ca < 7) && decide (cb < 7))=true then pure (Kx (none,out.push y,i + 1,j,mg,ca,cb))
 else pure (KL (none,out.push y,i + 1,j,mg,ca,cb))
noncomputable def g2(a b out:Array Kq)(i j mg ca cb:Nat):StateT Kv Sem (ForInStep GS):=do
 let y <-Lb b j
 if(j + 1 == b.size)=true then pure (Kx (some (dn a b (out.push y) i (j + 1)),out.push y,i,j + 1,mg,ca,cb))
 else do
  let z <-Lb a i
  let some k <-gal true z b (j + 1) (b.size - (j + 1)) 0 | pure (Kx (some (dn a b (out.push y) i (j + 1)),out.push y,i,j + 1,mg,ca,cb))
  if k > 0 then
    if(j + 1 + k == b.size)=true then pure (Kx (some (dn a b (out.push y++b.extract (j + 1) (j + 1 + k)) i (j + 1 + k)),out.push y++b.extract (j + 1) (j + 1 + k),i,j + 1 + k,mg,ca,k))
    else g3 a b (out.push y++b.extract (j + 1) (j + 1 + k)) i (j + 1 + k) mg ca k
  else g3 a b (out.push y) i (j + 1) mg ca k
noncomputable def g1(a b out:Array Kq)(i j mg ca cb:Nat):StateT Kv Sem (ForInStep GS):=do
 setG mg
 let y <-Lb b j
 let some k <-gal false y a i (a.size - i) 0 | pure (Kx (some (dn a b out i j),out,i,j,mg,ca,cb))
 if k > 0 then
   if(i + k + 1 == a.size)=true then pure (Kx (some (eX a b (out++a.extract i (i + k)) (i + k) j),out++a.extract i (i + k),i + k,j,mg,k,cb))
   else if(i + k == a.size)=true then pure (Kx (some (dn a b (out++a.extract i (i + k)) (i + k) j),out++a.extract i (i + k),i + k,j,mg,k,cb))
   else g2 a b (out++a.extract i (i + k)) (i + k) j mg k cb
 else g2 a b out i j mg k cb
noncomputable def f1(a b out:Array Kq)(i j ca cb mg:Nat):StateT Kv Sem (ForInStep FS):=do
 let y <-Lb b j
 let z <-Lb a i
 let some bw <-lt' y z | pure (Kx (some (dn a b out i j),out,i,j,ca,cb))
 if bw=true then do
   let y <-Lb b j
   if(j + 1 == b.size)=true then pure (Kx (some (dn a b (out.push y) i (j + 1)),out.push y,i,j + 1,0,cb + 1))
   else if cb + 1>=mg then pure (Kx (none,out.push y,i,j + 1,0,cb + 1))else pure (KL (none,out.push y,i,j + 1,0,cb + 1))
 else do
   let z <-Lb a i
   if(i + 1 + 1 == a.size)=true then pure (Kx (some (eX a b (out.push z) (i + 1) j),out.push z,i + 1,j,ca + 1,0))
   else if ca + 1>=mg then pure (Kx (none,out.push z,i + 1,j,ca + 1,0))else pure (KL (none,out.push z,i + 1,j,ca + 1,0))
noncomputable def oLo(a b:Array Kq)(c:OS):StateT Kv Sem (ForInStep OS):=do
 let r <-forIn [0:a.size + b.size] ((none,c.2.1,c.2.2.1,c.2.2.2.1,0,0):FS) fun _ d=>f1 a b d.2.1 d.2.2.1 d.2.2.2.1 d.2.2.2.2.1 d.2.2.2.2.2 c.2.2.2.2
 match r.1 with
 | some q=>pure (Kx (some q,r.2.1,r.2.2.1,r.2.2.2.1,c.2.2.2.2))
 | none=>do
  liftM (rule "list.sort.gallop")
  let e <-forIn [0:a.size + b.size] ((none,r.2.1,r.2.2.1,r.2.2.2.1,c.2.2.2.2 + 1,r.2.2.2.2.1,r.2.2.2.2.2):GS) fun _ d=>
   if d.2.2.2.2.1 > 1 then g1 a b d.2.1 d.2.2.1 d.2.2.2.1 (d.2.2.2.2.1 - 1) d.2.2.2.2.2.1 d.2.2.2.2.2.2 else g1 a b d.2.1 d.2.2.1 d.2.2.2.1 d.2.2.2.2.1 d.2.2.2.2.2.1 d.2.2.2.2.2.2
  match e.1 with
  | some q=>pure (Kx (some q,e.2.1,e.2.2.1,e.2.2.2.1,e.2.2.2.2.1))
  | none=>do
   setG (e.2.2.2.2.1 + 1)
   pure (KL (none,e.2.1,e.2.2.1,e.2.2.2.1,e.2.2.2.2.1 + 1))
set_option maxHeartbeats 2000000 in
theorem yZ(a b:Array Kq):mLo a b=(do
  liftM (rule "list.sort.merge-lo")
  let y <-Lb b 0
  if(1 == b.size)=true then pure (dn a b #[y] 0 1)
  else if(0 + 1 == a.size)=true then pure (eX a b #[y] 0 1)
  else do
   let st <-get
   let r <-forIn [0:a.size + b.size] ((none,#[y],0,1,NO st):OS) fun _ c=>oLo a b c
   match r.1 with
   | some q=>pure q
   | none=>liftM (unsupported "internal:list.sort.merge-bound":Sem (Array Kq))):=by
 rw[D7]
 unfold oLo
 refine congrArg (bind _) (funext fun _=>?_)
 refine congrArg (bind _) (funext fun y=>?_)
 refine ite_congr rfl (fun _=>rfl) (fun _=>?_)
 refine ite_congr rfl (fun _=>rfl) (fun _=>?_)
 refine congrArg (bind _) (funext fun st=>?_)
 refine congr (congrArg bind (congrArg (forIn _ _) (funext fun _=>funext fun c=>?_))) ?_
 ·refine congr (congrArg bind (congrArg (forIn _ _) (funext fun _=>funext fun d=>?_))) ?_
  ·unfold f1
   rfl
  funext r
  obtain⟨r1,r2⟩:=r
  cases r1 with
  | some q=>rfl
  | none=>
   refine congrArg (bind _) (funext fun _=>?_)
   refine congr (congrArg bind (congrArg (forIn _ _) (funext fun _=>funext fun d=>?_))) ?_
   ·
    unfold g1
    refine ite_congr rfl (fun _=>?_) (fun _=>?_)
    all_goals
     refine congrArg (bind _) (funext fun _=>?_)
     refine congrArg (bind _) (funext fun y=>?_)
     refine congrArg (bind _) (funext fun r=>?_)
     cases r with
     | none=>rfl
     | some k=>
      refine ite_congr rfl (fun _=>?_) (fun _=>?_)
      ·refine ite_congr rfl (fun _=>rfl) (fun _=>?_)
       refine ite_congr rfl (fun _=>rfl) (fun _=>?_)
       unfold g2
       rfl
      unfold g2
      rfl
   funext e;obtain⟨e1,e2⟩:=e;cases e1 <;> rfl
 funext e;obtain⟨e1,e2⟩:=e;cases e1 <;> rfl
noncomputable def bW(M:Mv)(A:KN)(E:Kj->Km->Prop)(s:Km)(kd:Mh)(rk:Kq->Nat)(S:Kq->Prop):Prop:=
 ∀(x y:Kq) (st:Kv) (Q:Option Bool->Kv->Prop),S x->S y->kindOf st=kd->Q (some (decide (rk x < rk y))) st->wpS M A E s (lt' x y) Q st
structure Keep (st st':Kv):Prop where
 k:kindOf st'=kindOf st
 a:Ks st'=Ks st
 p:KI st'=KI st
 f:Lc st'=Lc st
theorem Keep.bh {st:Kv}:Keep st st:=⟨rfl,rfl,rfl,rfl⟩
theorem Keep.g {st st':Kv}(h:Keep st st')(g:Nat):Keep st (L_ (kindOf st') (Ks st') (KI st') g (Lc st')):=⟨h.k,h.a,h.p,h.f⟩
section
variable{rk:Kq->Nat}
abbrev Srt(rk:Kq->Nat)(l:List Kq):Prop:=l.Pairwise fun x y=>rk x<=rk y
structure MS (rk:Kq->Nat) (a b out:List Kq) (i j:Nat):Prop where
 perm:out.Perm (a.take i++b.take j)
 srt:Srt rk out
 le:∀ x∈out,(∀ y∈a.drop i,rk x<=rk y)/\∀ y∈b.drop j,rk x<=rk y
def Res(rk:Kq->Nat)(a b r:List Kq):Prop:=r.Perm (a++b)/\Srt rk r
theorem MS.mU {a b out:List Kq}{i j k:Nat}(h:MS rk a b out i j)(sa:Srt rk a)(hc:∀ y∈(a.drop i).take k,∀ z∈b.drop j,rk y<=rk z):MS rk a b (out++(a.drop i).take k) (i + k) j:=by
 have sd:Srt rk (a.drop i):=F' (He _ _) sa
 have split:a.drop i=(a.drop i).take k++a.drop (i + k):=by rw[<-HR];exact(FL k (a.drop i)).symm
 refine⟨?_,?_,fun x hx=>?_⟩
 ·rw[IH]
  refine(h.perm.append_right _).trans ?_
  rw[i_,i_]
  exact FQ _ Gm
 ·refine C'.mpr ⟨h.srt,F' (Hb _ _) sd,fun x hx y hy=>(h.le x hx).1 y (Gi hy)⟩
 rcases FF.mp hx with hx | hx
 ·refine⟨fun y hy=>(h.le x hx).1 y ?_,(h.le x hx).2⟩
  rw[split]
  exact q_ _ hy
 refine⟨fun y hy=>?_,hc x hx⟩
 rw[split]at sd
 exact(C'.mp sd).2.2 x hx y hy
theorem MS.mP {a b out:List Kq}{i j k:Nat}(h:MS rk a b out i j)(sb:Srt rk b)(hc:∀ y∈(b.drop j).take k,∀ z∈a.drop i,rk y<=rk z):MS rk a b (out++(b.drop j).take k) i (j + k):=by
 have sd:Srt rk (b.drop j):=F' (He _ _) sb
 have split:b.drop j=(b.drop j).take k++b.drop (j + k):=by rw[<-HR];exact(FL k (b.drop j)).symm
 refine⟨?_,?_,fun x hx=>?_⟩
 ·rw[IH,<-i_]
  exact h.perm.append_right _
 ·refine C'.mpr ⟨h.srt,F' (Hb _ _) sd,fun x hx y hy=>(h.le x hx).2 y (Gi hy)⟩
 rcases FF.mp hx with hx | hx
 ·refine⟨(h.le x hx).1,fun y hy=>(h.le x hx).2 y ?_⟩
  rw[split]
  exact q_ _ hy
 refine⟨hc x hx,fun y hy=>?_⟩
 rw[split]at sd
 exact(C'.mp sd).2.2 x hx y hy
theorem MS.all {a b out:List Kq}{i j:Nat}(h:MS rk a b out i j)(h1:a.length<=i)(h2:b.length<=j):Res rk a b out:=by
 have:=h.perm
 rw[Gj h1,Gj h2]at this
 exact⟨this,h.srt⟩
theorem gY{l:List Kq}(i:Nat):(l.drop i).take l.length=l.drop i:=Gj (by rw[FU];lia)
theorem MS.done {a b out:List Kq}{i j:Nat}(h:MS rk a b out i j)(sa:Srt rk a)(sb:Srt rk b)(e:a.length<=i\/b.length<=j):Res rk a b (out++a.drop i++b.drop j):=by
 have h1:=h.mU (k:=a.length) sa fun y hy z hz=>by
  rcases e with e | e
  ·rw[Gk e]at hy;simp at hy
  rw[Gk e]at hz;simp at hz
 have h2:=h1.mP (k:=b.length) sb fun y hy z hz=>by
  rw[Gk (by lia)]at hz;simp at hz
 rw[gY,gY]at h2
 exact h2.all (by lia) (by lia)
theorem MS.last {a b out:List Kq}{i j:Nat}(h:MS rk a b out i j)(sa:Srt rk a)(sb:Srt rk b)(e:∀ y∈b.drop j,∀ z∈a.drop i,rk y<=rk z):Res rk a b (out++b.drop j++a.drop i):=by
 have h1:=h.mP (k:=b.length) sb fun y hy z hz=>e y (Gi hy) z hz
 have h2:=h1.mU (k:=a.length) sa fun y hy z hz=>by
  rw[Gk (by lia)]at hz;simp at hz
 rw[gY,gY]at h2
 exact h2.all (by lia) (by lia)
theorem jj(a:Array Kq)(i:Nat):(a.extract i a.size).toList=a.toList.drop i:=by
 rw[Hm,GX]
 exact Gj (by rw[FU,f_];exact e_ _)
theorem gK(a:Array Kq)(i k:Nat):(a.extract i (i + k)).toList=(a.toList.drop i).take k:=by
 rw[Hm,GX,HU]
theorem drop_one{l:List Kq}{i:Nat}{y:Kq}(h:l[i]?=some y):(l.drop i).take 1=[y]:=by
 obtain⟨hl,e⟩:=c_.mp h
 rw[GY hl,List.take_succ_cons,List.take_zero,e]
theorem p8{l:List Kq}{i:Nat}{y:Kq}(h:l[i]?=some y)(s:Srt rk l):∀ z∈l.drop i,rk y<=rk z:=by
 obtain⟨hl,e⟩:=c_.mp h
 intro z hz
 have sd:Srt rk (l.drop i):=F' (He _ _) s
 rw[GY hl,e]at sd hz
 rcases t_.mp hz with rfl | hz
 ·exact e_ _
 exact(IA.mp sd).1 z hz
theorem jV{l:List Kq}(s:Srt rk l){i j:Nat}{x y:Kq}(hij:i<=j)(hx:l[i]?=some x)(hy:l[j]?=some y):rk x<=rk y:=by
 refine p8 hx s y ?_
 rw[Gn]
 exact⟨j - i,by rw[G6,show i + (j - i)=j by lia];exact hy⟩
theorem bM{l:List Kq}{i k:Nat}{y:Kq}(h:y∈(l.drop i).take k):∃ j,j < k/\l[i + j]?=some y:=by
 obtain⟨j,hj⟩:=Gn.mp h
 rw[G7]at hj
 split at hj
 ·next hlt=>exact⟨j,hlt,by rw[G6]at hj;exact hj⟩
 cases hj
theorem eC{l:List Kq}{i:Nat}{y:Kq}(h:y∈l.drop i):∃ j,l[i + j]?=some y:=by
 obtain⟨j,hj⟩:=Gn.mp h
 exact⟨j,by rw[G6]at hj;exact hj⟩
end
section
variable{M:Mv}{A:KN}{E:Kj->Km->Prop}{s:Km}{kd:Mh}{rk:Kq->Nat}{S:Kq->Prop}
theorem aG{ar:Array Kq}{i:Nat}{p:Kq}{st:Kv}{Q:Kq->Kv->Prop}(h:ar[i]?=some p)(q:Q p st):wpS M A E s (Lb ar i) Q st:=by
 rw[elem'_eq,h]
 exact KA q
theorem D3{lf:Bool}{ky p:Kq}{ar:Array Kq}{b0 i:Nat}{st:Kv}{Q:Option Bool->Kv->Prop}(L:bW M A E s kd rk S)(hk:kindOf st=kd)(hp:ar[b0 + i]?=some p)(Sp:S p)(Sk:S ky)
  (q:Q (some (if lf=true then decide (rk p < rk ky)else !decide (rk ky < rk p))) st):wpS M A E s (bey lf ky ar b0 i) Q st:=by
 unfold bey
 refine Ku (aG hp ?_)
 cases lf with
 | true=>exact L p ky st _ Sp Sk hk q
 | false=>exact Ku (L ky p st _ Sk Sp hk (KA q))
theorem eK{lf:Bool}{ky:Kq}{ar:Array Kq}{b0 n h0:Nat}{st:Kv}{Q:Option Nat->Kv->Prop}(L:bW M A E s kd rk S)(hk:kindOf st=kd)(hh:h0 < n)(hsz:b0 + n<=ar.size)(Sa:∀(i:Nat) p,ar[i]?=some p->S p)(Sk:S ky)
  (srt:∀(i j:Nat) p q,i<=j->j < n->ar[b0 + i]?=some p->ar[b0 + j]?=some q->rk p<=rk q)
  (h:∀ k,k<=n->(∀(i:Nat) p,i < k->ar[b0 + i]?=some p->if lf=true then rk p < rk ky else rk p<=rk ky)->(∀(i:Nat) p,k<=i->i < n->ar[b0 + i]?=some p->if lf=true then rk ky<=rk p else rk ky < rk p)->Q (some k) st) :
  wpS M A E s (gal lf ky ar b0 n h0) Q st:=by
 have get:∀ i,i < n->ar[b0 + i]?=some (ar.getD (b0 + i) (K',K')):=fun i hi=>by
  rw[GK,gV (by lia)]
  rfl
 refine Bt (bd:=fun i=>if lf=true then decide (rk (ar.getD (b0 + i) (K',K')) < rk ky)else !decide (rk ky < rk (ar.getD (b0 + i) (K',K')))) hh (fun i R hi r=>D3 L hk (get i hi) (Sa _ _ (get i hi)) Sk r) ?_ ?_
 ·intro i j hij hj hb
  have:=srt i j _ _ hij hj (get i (by lia)) (get j hj)
  cases lf with
  | true=>
   simp only[if_true,decide_eq_true_eq]at hb ⊢
   lia
  | false=>
   simp only[Ga,if_false,IM,decide_eq_false_iff_not]at hb ⊢
   lia
 intro k hk' h1 h2
 refine h k hk' (fun i p hi hp=>?_) (fun i p h3 h4 hp=>?_)
 ·have e:=get i (by lia)
  rw[hp]at e
  cases e
  have:=h1 i hi
  cases lf with
  | true=>simpa using this
  | false=>simpa using this
 have e:=get i h4
 rw[hp]at e
 cases e
 have:=h2 i h3 h4
 cases lf with
 | true=>simpa using this
 | false=>simpa using this
theorem jC{g:Nat}{st:Kv}{Q:Unit->Kv->Prop}(q:Q () (L_ (kindOf st) (Ks st) (KI st) g (Lc st))):wpS M A E s (setG g) Q st:=Nd q
end
section
variable{M:Mv}{A:KN}{E:Kj->Km->Prop}{s:Km}{kd:Mh}{rk:Kq->Nat}{S:Kq->Prop}{a b:Array Kq}
structure LoOk (rk:Kq->Nat) (S:Kq->Prop) (a b:Array Kq):Prop where
 sa:Srt rk a.toList
 sb:Srt rk b.toList
 Sa:∀(i:Nat) p,a[i]?=some p->S p
 Sb:∀(i:Nat) p,b[i]?=some p->S p
 pa:0 < a.size
 pb:0 < b.size
 first:∀ p,b[0]?=some p->∀ z∈a.toList,rk p<=rk z
 last:∀ p,a[a.size - 1]?=some p->∀ z∈b.toList,rk z<=rk p
theorem LoOk.jq (h:LoOk rk S a b){out:Array Kq}{i j:Nat}(m:MS rk a.toList b.toList out.toList i j)(e:i + 1=a.size):Res rk a.toList b.toList (eX a b out i j).toList:=by
 unfold eX
 rw[FR,FR,jj,jj]
 refine m.last h.sa h.sb fun y hy z hz=>?_
 obtain⟨k,hk⟩:=eC hz
 have hk':i + k < a.toList.length:=(c_.mp hk).1
 rw[f_]at hk'
 have k0:k=0:=by lia
 subst k0
 refine h.last z ?_ y (Hl hy)
 rw[<-fk,show a.size - 1=i + 0 by lia]
 exact hk
theorem LoOk.gW (h:LoOk rk S a b){out:Array Kq}{i j:Nat}(m:MS rk a.toList b.toList out.toList i j)(e:a.size<=i\/b.size<=j):Res rk a.toList b.toList (dn a b out i j).toList:=by
 unfold dn
 rw[FR,FR,jj,jj]
 exact m.done h.sa h.sb (by rw[f_,f_];exact e)
structure LI (rk:Kq->Nat) (a b out:Array Kq) (i j:Nat):Prop where
 m:MS rk a.toList b.toList out.toList i j
 i:i + 1 < a.size
 j:j < b.size
theorem MS.iH {out:Array Kq}{i j:Nat}(m:MS rk a.toList b.toList out.toList i j)(H:LoOk rk S a b){y:Kq}(hy:b[j]?=some y)(hc:∀ z∈a.toList.drop i,rk y<=rk z):MS rk a.toList b.toList (out.push y).toList i (j + 1):=by
 have hy':b.toList[j]?=some y:=by rw[fk];exact hy
 have:=m.mP (k:=1) H.sb (by rw[drop_one hy'];intro w hw;rw[A_.mp hw];exact hc)
 rw[drop_one hy']at this
 rw[Gx]
 exact this
theorem MS.iJ {out:Array Kq}{i j:Nat}(m:MS rk a.toList b.toList out.toList i j)(H:LoOk rk S a b){y:Kq}(hy:a[i]?=some y)(hc:∀ z∈b.toList.drop j,rk y<=rk z):MS rk a.toList b.toList (out.push y).toList (i + 1) j:=by
 have hy':a.toList[i]?=some y:=by rw[fk];exact hy
 have:=m.mU (k:=1) H.sa (by rw[drop_one hy'];intro w hw;rw[A_.mp hw];exact hc)
 rw[drop_one hy']at this
 rw[Gx]
 exact this
theorem gM{l:Array Kq}{i:Nat}{y:Kq}(srt:Srt rk l.toList)(hy:l[i]?=some y):∀ z∈l.toList.drop i,rk y<=rk z:=p8 (by rw[fk];exact hy) srt
noncomputable def d5(rk:Kq->Nat)(a b:Array Kq)(lo:Nat)(st:Kv)(r:Option (Array Kq))(out:Array Kq)(i j:Nat)(st':Kv):Prop:=
 Keep st st'/\match r with
 | some q=>Res rk a.toList b.toList q.toList
 | none=>LI rk a b out i j/\lo < i + j
theorem DT{out:Array Kq}{i j ca cb mg:Nat}{st st':Kv}{Q:ForInStep FS->Kv->Prop}(L:bW M A E s kd rk S)(H:LoOk rk S a b)(hk:kindOf st=kd)(K:Keep st st')(I:LI rk a b out i j)
  (h:∀(d:Bool) (c:FS),d5 rk a b (i + j) st c.1 c.2.1 c.2.2.1 c.2.2.2.1 st'->(d=false->c.1=none)->Q (if d=true then Kx c else KL c) st'):wpS M A E s (f1 a b out i j ca cb mg) Q st':=by
 have hi:i < a.size:=by have:=I.i;lia
 obtain⟨y,hy⟩:∃ y,b[j]?=some y:=⟨_,gV I.j⟩
 obtain⟨z,hz⟩:∃ z,a[i]?=some z:=⟨_,gV hi⟩
 unfold f1
 refine Ku (aG hy (Ku (aG hz (Ku (L y z st' _ (H.Sb _ _ hy) (H.Sa _ _ hz) (K.k.trans hk) ?_)))))
 dsimp only
 by_cases w:rk y < rk z
 ·rw[decide_eq_true w,if_pos rfl]
  have m:=I.m.iH H hy fun u hu=>n_ (FK w) (gM H.sa hz u hu)
  refine Ku (aG hy ?_)
  by_cases e:j + 1=b.size
  ·rw[if_pos (by rw[e];exact beq_self_eq_true _)]
   exact KA (h true _ ⟨K,H.gW m (.inr (by lia))⟩ (fun z=>nomatch z))
  rw[if_neg (by simpa using e)]
  have I2:LI rk a b (out.push y) i (j + 1):=⟨m,I.i,by have:=I.j;lia⟩
  split
  ·exact KA (h true _ ⟨K,I2,by dsimp only;lia⟩ (fun z=>nomatch z))
  exact KA (h false _ ⟨K,I2,by dsimp only;lia⟩ (fun _=>rfl))
 rw[decide_eq_false w,if_neg (by simp)]
 have m:=I.m.iJ H hz fun u hu=>n_ (by lia) (gM H.sb hy u hu)
 refine Ku (aG hz ?_)
 by_cases e:i + 1 + 1=a.size
 ·rw[if_pos (by rw[e];exact beq_self_eq_true _)]
  exact KA (h true _ ⟨K,H.jq m e⟩ (fun z=>nomatch z))
 rw[if_neg (by simpa using e)]
 have I2:LI rk a b (out.push z) (i + 1) j:=⟨m,by have:=I.i;lia,I.j⟩
 split
 ·exact KA (h true _ ⟨K,I2,by dsimp only;lia⟩ (fun z=>nomatch z))
 exact KA (h false _ ⟨K,I2,by dsimp only;lia⟩ (fun _=>rfl))
theorem AY{out:Array Kq}{i j mg ca cb lo:Nat}{st st':Kv}{Q:ForInStep GS->Kv->Prop}(H:LoOk rk S a b)(K:Keep st st')(I:LI rk a b out i j)(hc:∀ z,a[i]?=some z->∀ u∈b.toList.drop j,rk z<=rk u)(hl:lo<=i + j)
  (h:∀(d:Bool) (c:GS),d5 rk a b lo st c.1 c.2.1 c.2.2.1 c.2.2.2.1 st'->(d=false->c.1=none)->Q (if d=true then Kx c else KL c) st'):wpS M A E s (g3 a b out i j mg ca cb) Q st':=by
 have hi:i < a.size:=by have:=I.i;lia
 obtain⟨z,hz⟩:∃ z,a[i]?=some z:=⟨_,gV hi⟩
 unfold g3
 have m:=I.m.iJ H hz (hc z hz)
 refine Ku (aG hz ?_)
 by_cases e:i + 1 + 1=a.size
 ·rw[if_pos (by rw[e];exact beq_self_eq_true _)]
  exact KA (h true _ ⟨K,H.jq m e⟩ (fun z=>nomatch z))
 rw[if_neg (by simpa using e)]
 have I2:LI rk a b (out.push z) (i + 1) j:=⟨m,by have:=I.i;lia,I.j⟩
 split
 ·exact KA (h true _ ⟨K,I2,by dsimp only;lia⟩ (fun z=>nomatch z))
 exact KA (h false _ ⟨K,I2,by dsimp only;lia⟩ (fun _=>rfl))
theorem AO{out:Array Kq}{i j mg ca cb lo:Nat}{st st':Kv}{Q:ForInStep GS->Kv->Prop}(L:bW M A E s kd rk S)(H:LoOk rk S a b)(hk:kindOf st=kd)(K:Keep st st')(I:LI rk a b out i j)(hc:∀ y,b[j]?=some y->∀ u∈a.toList.drop i,rk y<=rk u)(hl:lo<=i + j)
  (h:∀(d:Bool) (c:GS),d5 rk a b lo st c.1 c.2.1 c.2.2.1 c.2.2.2.1 st'->(d=false->c.1=none)->Q (if d=true then Kx c else KL c) st'):wpS M A E s (g2 a b out i j mg ca cb) Q st':=by
 have hi:i < a.size:=by have:=I.i;lia
 obtain⟨y,hy⟩:∃ y,b[j]?=some y:=⟨_,gV I.j⟩
 obtain⟨z,hz⟩:∃ z,a[i]?=some z:=⟨_,gV hi⟩
 unfold g2
 have m:=I.m.iH H hy (hc y hy)
 refine Ku (aG hy ?_)
 by_cases e:j + 1=b.size
 ·rw[if_pos (by rw[e];exact beq_self_eq_true _)]
  exact KA (h true _ ⟨K,H.gW m (.inr (by lia))⟩ (fun z=>nomatch z))
 rw[if_neg (by simpa using e)]
 have hj:j + 1 < b.size:=by have:=I.j;lia
 refine Ku (aG hz (Ku (eK L (K.k.trans hk) (by lia) (by lia) H.Sb (H.Sa _ _ hz) (fun p q x w h1 h2 h3 h4=>jV H.sb (i:=j + 1 + p) (j:=j + 1 + q) (by(clear h4 h3 h2 hj e m hz hy hi h hl hc I K hk H L;lia)) (by rw[fk];exact h3) (by rw[fk];exact h4)) fun k k1 k2 k3=>?_)))
 dsimp only
 have after:∀ u∈b.toList.drop (j + 1 + k),rk z<=rk u:=fun u hu=>by
  obtain⟨p,hp⟩:=eC hu
  rw[fk]at hp
  have hlt:j + 1 + k + p < b.size:=(Ht.mp hp).1
  have:=k3 (k + p) u (by lia) (by(clear hp hu k3 k2 k1 hj e m hz hy hi h hl hc I K hk H L;lia)) (by rw[show j + 1 + (k + p)=j + 1 + k + p by(clear hlt hp hu k3 k2 k1 hj e m hz hy hi h hl hc I K hk H L;lia)];exact hp)
  simpa using this
 by_cases pk:k > 0
 ·rw[if_pos pk]
  have m2:MS rk a.toList b.toList (out.push y++b.extract (j + 1) (j + 1 + k)).toList i (j + 1 + k):=by
   rw[FR,gK]
   refine m.mP H.sb fun u hu w hw=>?_
   obtain⟨p,hp1,hp⟩:=bM hu
   rw[fk]at hp
   have:=k2 p u hp1 hp
   simp only[if_true]at this
   exact n_ (FK this) (gM H.sa hz w hw)
  by_cases e2:j + 1 + k=b.size
  ·rw[if_pos (by rw[e2];exact beq_self_eq_true _)]
   exact KA (h true _ ⟨K,H.gW m2 (.inr (by(clear m2 pk after k3 k2 k1 hj e m hz hy hi h hl hc I K hk H L;lia)))⟩ (fun z=>nomatch z))
  rw[if_neg (by simpa using e2)]
  refine AY H K ⟨m2,I.i,by(clear m2 after k3 k2 hj e m hz hy hi h hl hc I K hk H L;lia)⟩ (fun z' hz'=>?_) (by(clear e2 m2 pk after k3 k2 k1 hj e m hz hy hi h hc I K hk H L;lia)) h
  rw[hz]at hz'
  cases hz'
  exact after
 rw[if_neg pk]
 have k0:k=0:=by lia
 subst k0
 refine AY H K ⟨m,I.i,by(clear pk after k3 k2 k1 e m hz hy hi h hl hc I K hk H L;omega)⟩ (fun z' hz'=>?_) (by lia) h
 rw[hz]at hz'
 cases hz'
 exact after
theorem EU{out:Array Kq}{i j mg ca cb:Nat}{st st':Kv}{Q:ForInStep GS->Kv->Prop}(L:bW M A E s kd rk S)(H:LoOk rk S a b)(hk:kindOf st=kd)(K:Keep st st')(I:LI rk a b out i j)
  (h:∀(d:Bool) (c:GS) (st2:Kv),d5 rk a b (i + j) st c.1 c.2.1 c.2.2.1 c.2.2.2.1 st2->(d=false->c.1=none)->Q (if d=true then Kx c else KL c) st2):wpS M A E s (g1 a b out i j mg ca cb) Q st':=by
 have hi:i < a.size:=by have:=I.i;lia
 obtain⟨y,hy⟩:∃ y,b[j]?=some y:=⟨_,gV I.j⟩
 unfold g1
 refine Ku (jC (Ku (aG hy ?_)))
 have K2:=K.g mg
 revert K2
 generalize L_ (kindOf st') (Ks st') (KI st') mg (Lc st')=st2
 intro K2
 refine Ku (eK L (K2.k.trans hk) (by lia) (by lia) H.Sa (H.Sb _ _ hy) (fun p q x w h1 h2 h3 h4=>jV H.sa (i:=i + p) (j:=i + q) (by lia) (by rw[fk];exact h3) (by rw[fk];exact h4)) fun k k1 k2 k3=>?_)
 dsimp only
 have after:∀ u∈a.toList.drop (i + k),rk y<=rk u:=fun u hu=>by
  obtain⟨p,hp⟩:=eC hu
  rw[fk]at hp
  have hlt:i + k + p < a.size:=(Ht.mp hp).1
  have:=k3 (k + p) u (by lia) (by lia) (by rw[show i + (k + p)=i + k + p by lia];exact hp)
  simp at this
  lia
 by_cases pk:k > 0
 ·rw[if_pos pk]
  have m2:MS rk a.toList b.toList (out++a.extract i (i + k)).toList (i + k) j:=by
   rw[FR,gK]
   refine I.m.mU H.sa fun u hu w hw=>?_
   obtain⟨p,hp1,hp⟩:=bM hu
   rw[fk]at hp
   have:=k2 p u hp1 hp
   simp at this
   exact n_ this (gM H.sb hy w hw)
  by_cases e1:i + k + 1=a.size
  ·rw[if_pos (by rw[e1];exact beq_self_eq_true _)]
   exact KA (h true _ _ ⟨K2,H.jq m2 e1⟩ (fun z=>nomatch z))
  rw[if_neg (by simpa using e1)]
  by_cases e2:i + k=a.size
  ·rw[if_pos (by rw[e2];exact beq_self_eq_true _)]
   exact KA (h true _ _ ⟨K2,H.gW m2 (.inl (by lia))⟩ (fun z=>nomatch z))
  rw[if_neg (by simpa using e2)]
  refine AO L H hk K2 ⟨m2,by(clear m2 after k3 k2 K2 hy hi h I K hk H L;lia),I.j⟩ (fun y' hy'=>?_) (by lia) fun d c x1 x2=>h d c _ x1 x2
  rw[hy]at hy'
  cases hy'
  exact after
 rw[if_neg pk]
 have k0:k=0:=by lia
 subst k0
 refine AO L H hk K2 I (fun y' hy'=>?_) (e_ _) fun d c x1 x2=>h d c _ x1 x2
 rw[hy]at hy'
 cases hy'
 exact after
theorem D6{st:Kv}{Q:Array Kq->Kv->Prop}(L:bW M A E s kd rk S)(H:LoOk rk S a b)(hk:kindOf st=kd)(h:∀ r st',Keep st st'->Res rk a.toList b.toList r.toList->Q r st')(hr:∀ x,Kr M A (rule x) (fun _ s'=>s'=s) E s):wpS M A E s (mLo a b) Q st:=by
 rw[yZ]
 obtain⟨y,hy⟩:∃ y,b[0]?=some y:=⟨_,gV H.pb⟩
 have rl:∀ {x:String} {R:Unit->Kv->Prop} {st':Kv},R () st'->wpS M A E s (liftM (rule x):StateT Kv Sem Unit) R st':=fun{x R st'} q=>Ov (KW (hr x) (fun _ _ z=>⟨z,q⟩) fun _ _ z=>z)
 refine Ku (rl (Ku (aG hy ?_)))
 have m0:MS rk a.toList b.toList (#[]:Array Kq).toList 0 0:=⟨by simp,IL,fun x hx=>by simp at hx⟩
 have m1:MS rk a.toList b.toList (#[y]:Array Kq).toList 0 1:=m0.iH H hy fun z hz=>H.first y hy z (by simpa using hz)
 by_cases e1:1=b.size
 ·rw[if_pos (by rw[<-e1];rfl)]
  exact KA (h _ _ .bh (H.gW m1 (.inr (by lia))))
 rw[if_neg (by simpa using e1)]
 by_cases e2:0 + 1=a.size
 ·rw[if_pos (by rw[<-e2];rfl)]
  exact KA (h _ _ .bh (H.jq m1 e2))
 rw[if_neg (by simpa using e2)]
 refine Ku (MP ?_)
 have pa:=H.pa
 have pb:=H.pb
 refine Ku (LA (La (I:=fun x (c:OS) st'=>c.1=none/\Keep st st'/\LI rk a b c.2.1 c.2.2.1 c.2.2.2.1/\x < c.2.2.1 + c.2.2.2.1) (Q:=fun(c:OS) st'=>∃ q,c.1=some q/\Keep st st'/\Res rk a.toList b.toList q.toList) ?_ ?_ ⟨rfl,.bh,⟨m1,by dsimp only;lia,by dsimp only;lia⟩,by show 0 < 0 + 1;lia⟩) ?_)
 ·rintro x ⟨c1,out,i,j,mg⟩ st1 _ hx ⟨rfl,K1,I1,px⟩
  unfold oLo
  dsimp only at I1 px ⊢
  refine Ku (LA (La (I:=fun x (c:FS) st'=>c.1=none/\Keep st st'/\LI rk a b c.2.1 c.2.2.1 c.2.2.2.1/\i + j + x<=c.2.2.1 + c.2.2.2.1) (Q:=fun(c:FS) st'=>d5 rk a b (i + j) st c.1 c.2.1 c.2.2.1 c.2.2.2.1 st') ?_ ?_ ⟨rfl,K1,I1,e_ _⟩) ?_)
  ·rintro x2 ⟨d1,out2,i2,j2,ca,cb⟩ st2 _ hx2 ⟨rfl,K2,I2,p2⟩
   dsimp only at I2 p2 ⊢
   refine DT L H hk K2 I2 fun d c hs hn=>?_
   cases d with
   | true=>
    show d5 _ _ _ _ _ _ _ _ _ _
    refine⟨hs.1,?_⟩
    have h2:=hs.2
    cases e:c.1 with
    | some q=>rw[e]at h2;exact h2
    | none=>rw[e]at h2;exact⟨h2.1,by have:=h2.2;(clear e h2 hn hs I2 K2 hx2 px I1 K1 hx pb pa e2 e1 m1 m0 rl hy hr h hk H L;lia)⟩
   | false=>
    have h2:=hs.2
    rw[hn rfl]at h2
    exact⟨hn rfl,hs.1,h2.1,by have:=h2.2;(clear h2 hn hs I2 K2 hx2 px I1 K1 hx pb pa e2 e1 m1 m0 rl hy hr h hk H L;lia)⟩
  ·rintro⟨c1,out2,i2,j2,ca,cb⟩ st2 ⟨rfl,K2,I2,p2⟩
   dsimp only at I2 p2 ⊢
   have:=I2.i
   have:=I2.j
   (clear I2 K2 px I1 K1 hx pb pa e2 e1 m1 m0 rl hy hr h hk H L;lia)
  rintro⟨c1,out2,i2,j2,ca,cb⟩ st2 ⟨K2,h2⟩
  cases c1 with
  | some q=>exact KA ⟨q,rfl,K2,h2⟩
  | none=>
   obtain⟨I2,p2⟩:=h2
   dsimp only at I2 p2 ⊢
   refine Ku (rl ?_)
   refine Ku (LA (La (I:=fun _ (c:GS) st'=>c.1=none/\Keep st st'/\LI rk a b c.2.1 c.2.2.1 c.2.2.2.1/\i + j < c.2.2.1 + c.2.2.2.1) (Q:=fun(c:GS) st'=>d5 rk a b (i + j) st c.1 c.2.1 c.2.2.1 c.2.2.2.1 st') ?_ ?_ ⟨rfl,K2,I2,p2⟩) ?_)
   ·rintro x3 ⟨d1,out3,i3,j3,mg3,ca3,cb3⟩ st3 _ hx3 ⟨rfl,K3,I3,p3⟩
    dsimp only at I3 p3 ⊢
    have go:∀ mg',wpS M A E s (g1 a b out3 i3 j3 mg' ca3 cb3) (fun r st'=>match r with | .done c'=>d5 rk a b (i + j) st c'.1 c'.2.1 c'.2.2.1 c'.2.2.2.1 st' | .yield c'=>c'.1=none/\Keep st st'/\LI rk a b c'.2.1 c'.2.2.1 c'.2.2.2.1/\i + j < c'.2.2.1 + c'.2.2.2.1) st3:=fun mg'=>by
     refine EU L H hk K3 I3 fun d c st4 hs hn=>?_
     cases d with
     | true=>
      show d5 _ _ _ _ _ _ _ _ _ _
      refine⟨hs.1,?_⟩
      have h2:=hs.2
      cases e:c.1 with
      | some q=>rw[e]at h2;exact h2
      | none=>rw[e]at h2;exact⟨h2.1,by have:=h2.2;(clear e h2 hn hs I3 K3 hx3 p2 I2 K2 px I1 K1 hx pb pa e2 e1 m1 m0 rl hy hr h hk H L;lia)⟩
     | false=>
      have h2:=hs.2
      rw[hn rfl]at h2
      exact⟨hn rfl,hs.1,h2.1,by have:=h2.2;(clear h2 hn hs I3 K3 hx3 p2 I2 K2 px I1 K1 hx pb pa e2 e1 m1 m0 rl hy hr h hk H L;lia)⟩
    split
    ·exact LA (go _) fun r st' h=>by cases r <;> exact h
    exact LA (go _) fun r st' h=>by cases r <;> exact h
   ·rintro⟨c1,out3,i3,j3,mg3,ca3,cb3⟩ st3 ⟨rfl,K3,I3,p3⟩
    exact⟨K3,I3,p3⟩
   rintro⟨c1,out3,i3,j3,mg3,ca3,cb3⟩ st3 ⟨K3,h3⟩
   cases c1 with
   | some q=>exact KA ⟨q,rfl,K3,h3⟩
   | none=>
    obtain⟨I3,p3⟩:=h3
    refine Ku (jC (KA ⟨rfl,K3.g _,I3,?_⟩))
    dsimp only at p3 ⊢
    lia
 ·rintro⟨c1,out,i,j,mg⟩ st1 ⟨rfl,K1,I1,px⟩
  have h1:=I1.i
  have h2:=I1.j
  dsimp only at h1 h2 px
  (clear I1 K1 pb pa e2 e1 m1 m0 rl hy hr h hk H L;lia)
 rintro⟨c1,out,i,j,mg⟩ st1 ⟨q,e,K1,r⟩
 dsimp only at e
 subst e
 exact KA (h q st1 K1 r)
end
def dnH(a b out:Array Kq)(i j:Nat):Array Kq:=a.extract 0 i++b.extract 0 j++out.reverse
def cD(a b out:Array Kq)(i j:Nat):Array Kq:=b.extract 0 j++a.extract 0 i++out.reverse
theorem BV(a b:Array Kq):mHi a b=(do
 rule "list.sort.merge-hi"
 let mut i:=a.size - 1
 let mut j:=b.size
 let mut out:Array Kq:=#[<-Lb a i]
 if i == 0 then return dnH a b out i j
 if j == 1 then return cD a b out i j
 let mut mg:=NO (<-get)
 for _ in [0:a.size + b.size]do
  let mut ca:=0
  let mut cb:=0
  for _ in [0:a.size + b.size]do
   let some aw <-lt' (<-Lb b (j - 1)) (<-Lb a (i - 1)) | return dnH a b out i j
   if aw then
    i:=i - 1;out:=out.push (<-Lb a i);ca:=ca + 1;cb:=0
    if i == 0 then return dnH a b out i j
    if ca>=mg then break
   else
    j:=j - 1;out:=out.push (<-Lb b j);cb:=cb + 1;ca:=0
    if j == 1 then return cD a b out i j
    if cb>=mg then break
  rule "list.sort.gallop"
  mg:=mg + 1
  for _ in [0:a.size + b.size]do
   if mg > 1 then mg:=mg - 1
   setG mg
   let some at' <-gal false (<-Lb b (j - 1)) a 0 i (i - 1) | return dnH a b out i j
   let k:=i - at'
   ca:=k
   if k > 0 then
    out:=out++(a.extract at' i).reverse;i:=at'
    if i == 0 then return dnH a b out i j
   j:=j - 1;out:=out.push (<-Lb b j)
   if j == 1 then return cD a b out i j
   let some at' <-gal true (<-Lb a (i - 1)) b 0 j (j - 1) | return dnH a b out i j
   let k:=j - at'
   cb:=k
   if k > 0 then
    out:=out++(b.extract at' j).reverse;j:=at'
    if j == 1 then return cD a b out i j
    if j == 0 then return dnH a b out i j
   i:=i - 1;out:=out.push (<-Lb a i)
   if i == 0 then return dnH a b out i j
   if ca < 7 && cb < 7 then break
  mg:=mg + 1
  setG mg
 unsupported "internal:list.sort.merge-bound"):=rfl
abbrev GT:=Option (Array Kq) × Nat × Nat × Array Kq × Nat × Nat × Nat
abbrev FT:=Option (Array Kq) × Nat × Nat × Array Kq × Nat × Nat
abbrev OT:=Option (Array Kq) × Nat × Nat × Array Kq × Nat
noncomputable def k3(a b out:Array Kq)(i j mg ca cb:Nat):StateT Kv Sem (ForInStep GT):=do
 let y <-Lb a (i - 1)
 if(i - 1 == 0)=true then pure (Kx (some (dnH a b (out.push y) (i - 1) j),i - 1,j,out.push y,mg,ca,cb))
 else if(decide (ca < 7) && decide (cb < 7))=true then pure (Kx (none,i - 1,j,out.push y,mg,ca,cb))
 else pure (KL (none,i - 1,j,out.push y,mg,ca,cb))
noncomputable def k2(a b out:Array Kq)(i j mg ca cb:Nat):StateT Kv Sem (ForInStep GT):=do
 let y <-Lb b (j - 1)
 if(j - 1 == 1)=true then pure (Kx (some (cD a b (out.push y) i (j - 1)),i,j - 1,out.push y,mg,ca,cb))
 else do
  let z <-Lb a (i - 1)
  let some at' <-gal true z b 0 (j - 1) (j - 1 - 1) | pure (Kx (some (dnH a b (out.push y) i (j - 1)),i,j - 1,out.push y,mg,ca,cb))
  if j - 1 - at' > 0 then
    if(at' == 1)=true then pure (Kx (some (cD a b (out.push y++(b.extract at' (j - 1)).reverse) i at'),i,at',out.push y++(b.extract at' (j - 1)).reverse,mg,ca,j - 1 - at'))
    else if(at' == 0)=true then pure (Kx (some (dnH a b (out.push y++(b.extract at' (j - 1)).reverse) i at'),i,at',out.push y++(b.extract at' (j - 1)).reverse,mg,ca,j - 1 - at'))
    else k3 a b (out.push y++(b.extract at' (j - 1)).reverse) i at' mg ca (j - 1 - at')
  else k3 a b (out.push y) i (j - 1) mg ca (j - 1 - at')
noncomputable def k1(a b out:Array Kq)(i j mg ca cb:Nat):StateT Kv Sem (ForInStep GT):=do
 setG mg
 let y <-Lb b (j - 1)
 let some at' <-gal false y a 0 i (i - 1) | pure (Kx (some (dnH a b out i j),i,j,out,mg,ca,cb))
 if i - at' > 0 then
   if(at' == 0)=true then pure (Kx (some (dnH a b (out++(a.extract at' i).reverse) at' j),at',j,out++(a.extract at' i).reverse,mg,i - at',cb))
   else k2 a b (out++(a.extract at' i).reverse) at' j mg (i - at') cb
 else k2 a b out i j mg (i - at') cb
noncomputable def e1(a b out:Array Kq)(i j ca cb mg:Nat):StateT Kv Sem (ForInStep FT):=do
 let y <-Lb b (j - 1)
 let z <-Lb a (i - 1)
 let some aw <-lt' y z | pure (Kx (some (dnH a b out i j),i,j,out,ca,cb))
 if aw=true then do
   let z <-Lb a (i - 1)
   if(i - 1 == 0)=true then pure (Kx (some (dnH a b (out.push z) (i - 1) j),i - 1,j,out.push z,ca + 1,0))
   else if ca + 1>=mg then pure (Kx (none,i - 1,j,out.push z,ca + 1,0))else pure (KL (none,i - 1,j,out.push z,ca + 1,0))
 else do
   let y <-Lb b (j - 1)
   if(j - 1 == 1)=true then pure (Kx (some (cD a b (out.push y) i (j - 1)),i,j - 1,out.push y,0,cb + 1))
   else if cb + 1>=mg then pure (Kx (none,i,j - 1,out.push y,0,cb + 1))else pure (KL (none,i,j - 1,out.push y,0,cb + 1))
noncomputable def oHi(a b:Array Kq)(c:OT):StateT Kv Sem (ForInStep OT):=do
 let r <-forIn [0:a.size + b.size] ((none,c.2.1,c.2.2.1,c.2.2.2.1,0,0):FT) fun _ d=>e1 a b d.2.2.2.1 d.2.1 d.2.2.1 d.2.2.2.2.1 d.2.2.2.2.2 c.2.2.2.2
 match r.1 with
 | some q=>pure (Kx (some q,r.2.1,r.2.2.1,r.2.2.2.1,c.2.2.2.2))
 | none=>do
  liftM (rule "list.sort.gallop")
  let e <-forIn [0:a.size + b.size] ((none,r.2.1,r.2.2.1,r.2.2.2.1,c.2.2.2.2 + 1,r.2.2.2.2.1,r.2.2.2.2.2):GT) fun _ d=>
   if d.2.2.2.2.1 > 1 then k1 a b d.2.2.2.1 d.2.1 d.2.2.1 (d.2.2.2.2.1 - 1) d.2.2.2.2.2.1 d.2.2.2.2.2.2 else k1 a b d.2.2.2.1 d.2.1 d.2.2.1 d.2.2.2.2.1 d.2.2.2.2.2.1 d.2.2.2.2.2.2
  match e.1 with
  | some q=>pure (Kx (some q,e.2.1,e.2.2.1,e.2.2.2.1,e.2.2.2.2.1))
  | none=>do
   setG (e.2.2.2.2.1 + 1)
   pure (KL (none,e.2.1,e.2.2.1,e.2.2.2.1,e.2.2.2.2.1 + 1))
set_option maxHeartbeats 2000000 in
theorem zM(a b:Array Kq):mHi a b=(do
  liftM (rule "list.sort.merge-hi")
  let y <-Lb a (a.size - 1)
  if(a.size - 1 == 0)=true then pure (dnH a b #[y] (a.size - 1) b.size)
  else if(b.size == 1)=true then pure (cD a b #[y] (a.size - 1) b.size)
  else do
   let st <-get
   let r <-forIn [0:a.size + b.size] ((none,a.size - 1,b.size,#[y],NO st):OT) fun _ c=>oHi a b c
   match r.1 with
   | some q=>pure q
   | none=>liftM (unsupported "internal:list.sort.merge-bound":Sem (Array Kq))):=by
 rw[BV]
 unfold oHi
 refine congrArg (bind _) (funext fun _=>?_)
 refine congrArg (bind _) (funext fun y=>?_)
 refine ite_congr rfl (fun _=>rfl) (fun _=>?_)
 refine ite_congr rfl (fun _=>rfl) (fun _=>?_)
 refine congrArg (bind _) (funext fun st=>?_)
 refine congr (congrArg bind (congrArg (forIn _ _) (funext fun _=>funext fun c=>?_))) ?_
 ·refine congr (congrArg bind (congrArg (forIn _ _) (funext fun _=>funext fun d=>?_))) ?_
  ·unfold e1
   rfl
  funext r
  obtain⟨r1,r2⟩:=r
  cases r1 with
  | some q=>rfl
  | none=>
   refine congrArg (bind _) (funext fun _=>?_)
   refine congr (congrArg bind (congrArg (forIn _ _) (funext fun _=>funext fun d=>?_))) ?_
   ·unfold k1
    refine ite_congr rfl (fun _=>?_) (fun _=>?_)
    all_goals
     refine congrArg (bind _) (funext fun _=>?_)
     refine congrArg (bind _) (funext fun y=>?_)
     refine congrArg (bind _) (funext fun r=>?_)
     cases r with
     | none=>rfl
     | some k=>
      refine ite_congr rfl (fun _=>?_) (fun _=>?_)
      ·refine ite_congr rfl (fun _=>rfl) (fun _=>?_)
       unfold k2
       rfl
      unfold k2
      rfl
   funext e;obtain⟨e1,e2⟩:=e;cases e1 <;> rfl
 funext e;obtain⟨e1,e2⟩:=e;cases e1 <;> rfl
section
variable{rk:Kq->Nat}
structure MH (rk:Kq->Nat) (a b o:List Kq) (i j:Nat):Prop where
 perm:o.Perm (a.drop i++b.drop j)
 srt:Srt rk o
 le:∀ x∈o,(∀ y∈a.take i,rk y<=rk x)/\∀ y∈b.take j,rk y<=rk x
theorem pH{l:List Kq}{i t:Nat}(h:t<=i):l.drop t=(l.take i).drop t++l.drop i:=by
 by_cases hi:i<=l.length
 ·have e:=FL i l
  have h2:(l.take i++l.drop i).drop t=(l.take i).drop t++l.drop i:=Ir (by rw[FO];lia)
  rw[e]at h2
  exact h2
 rw[Gj (by lia),Gk (by lia:l.length<=i),FX]
theorem fG{l:List Kq}{i t:Nat}(h:t<=i):l.take i=l.take t++(l.take i).drop t:=by
 have:=FL t (l.take i)
 rw[List.take_take,JS h]at this
 exact this.symm
theorem MH.mU {a b o:List Kq}{i j t:Nat}(h:MH rk a b o i j)(sa:Srt rk a)(ht:t<=i)(hc:∀ y∈(a.take i).drop t,∀ z∈b.take j,rk z<=rk y):MH rk a b ((a.take i).drop t++o) t j:=by
 have st:Srt rk (a.take i):=F' (Hb _ _) sa
 refine⟨?_,?_,fun x hx=>?_⟩
 ·rw[pH (l:=a) ht,i_]
  exact FQ _ h.perm
 ·exact C'.mpr ⟨F' (He _ _) st,h.srt,fun x hx y hy=>(h.le y hy).1 x (Hl hx)⟩
 rcases FF.mp hx with hx | hx
 ·refine⟨fun y hy=>?_,hc x hx⟩
  rw[fG ht]at st
  exact(C'.mp st).2.2 y hy x hx
 refine⟨fun y hy=>(h.le x hx).1 y ?_,(h.le x hx).2⟩
 rw[fG ht]
 exact FN _ hy
theorem MH.mP {a b o:List Kq}{i j t:Nat}(h:MH rk a b o i j)(sb:Srt rk b)(ht:t<=j)(hc:∀ y∈(b.take j).drop t,∀ z∈a.take i,rk z<=rk y):MH rk a b ((b.take j).drop t++o) i t:=by
 have st:Srt rk (b.take j):=F' (Hb _ _) sb
 refine⟨?_,?_,fun x hx=>?_⟩
 ·rw[pH (l:=b) ht]
  refine(FQ _ h.perm).trans ?_
  rw[<-i_,<-i_]
  exact Jh _ Gm
 ·exact C'.mpr ⟨F' (He _ _) st,h.srt,fun x hx y hy=>(h.le y hy).2 x (Hl hx)⟩
 rcases FF.mp hx with hx | hx
 ·refine⟨hc x hx,fun y hy=>?_⟩
  rw[fG ht]at st
  exact(C'.mp st).2.2 y hy x hx
 refine⟨(h.le x hx).1,fun y hy=>(h.le x hx).2 y ?_⟩
 rw[fG ht]
 exact FN _ hy
theorem MH.done {a b o:List Kq}{i j:Nat}(h:MH rk a b o i j)(sa:Srt rk a)(sb:Srt rk b)(e:i=0\/j=0):Res rk a b (a.take i++b.take j++o):=by
 have h1:=h.mP (t:=0) sb (B' _) fun y hy z hz=>by
  rcases e with e | e
  ·rw[e]at hz;simp at hz
  rw[e]at hy;simp at hy
 have h2:=h1.mU (t:=0) sa (B' _) fun y hy z hz=>by simp at hz
 have p:=h2.perm
 have q:=h2.srt
 simp only[HS]at p q
 rw[i_]
 exact⟨p,q⟩
theorem MH.first {a b o:List Kq}{i j:Nat}(h:MH rk a b o i j)(sa:Srt rk a)(sb:Srt rk b)(e:∀ y∈a.take i,∀ z∈b.take j,rk z<=rk y):Res rk a b (b.take j++a.take i++o):=by
 have h1:=h.mU (t:=0) sa (B' _) fun y hy z hz=>e y (by rw[HS]at hy;exact hy) z hz
 have h2:=h1.mP (t:=0) sb (B' _) fun y hy z hz=>by simp at hz
 have p:=h2.perm
 have q:=h2.srt
 simp only[HS]at p q
 rw[i_]
 exact⟨p,q⟩
theorem jk(a:Array Kq)(i:Nat):(a.extract 0 i).toList=a.toList.take i:=by
 rw[Hm,GX,HS,Nat.sub_zero]
theorem rX(a:Array Kq)(t i:Nat):(a.extract t i).toList=(a.toList.take i).drop t:=by
 rw[Hm,GX,List.drop_take]
theorem take_one{l:List Kq}{i:Nat}{y:Kq}(h0:0 < i)(h:l[i - 1]?=some y):(l.take i).drop (i - 1)=[y]:=by
 obtain⟨hl,e⟩:=c_.mp h
 have:l.take i=l.take (i - 1)++[y]:=by
  conv=>lhs;rw[show i=i - 1 + 1 by lia,Gy,h]
  rfl
 rw[this,Ir (by rw[FO];omega),Gk (by rw[FO];omega)]
 rfl
theorem eR{l:List Kq}{i:Nat}{y:Kq}(h:y∈l.take i):∃ j,j < i/\l[j]?=some y:=by
 obtain⟨j,hj⟩:=Gn.mp h
 rw[G7]at hj
 split at hj
 ·next hlt=>exact⟨j,hlt,hj⟩
 cases hj
theorem pg{l:List Kq}{t i:Nat}{y:Kq}(h:y∈(l.take i).drop t):∃ j,t<=j/\j < i/\l[j]?=some y:=by
 obtain⟨j,hj⟩:=eC h
 rw[G7]at hj
 split at hj
 ·next hlt=>exact⟨t + j,by lia,hlt,hj⟩
 cases hj
end
section
variable{M:Mv}{A:KN}{E:Kj->Km->Prop}{s:Km}{kd:Mh}{rk:Kq->Nat}{S:Kq->Prop}{a b:Array Kq}
abbrev MHo(rk:Kq->Nat)(a b out:Array Kq)(i j:Nat):Prop:=MH rk a.toList b.toList out.toList.reverse i j
theorem LoOk.qd (h:LoOk rk S a b){out:Array Kq}{i j:Nat}(m:MHo rk a b out i j)(e:i=0\/j=0):Res rk a.toList b.toList (dnH a b out i j).toList:=by
 unfold dnH
 rw[FR,FR,jk,jk,Hn]
 exact m.done h.sa h.sb e
theorem LoOk.nF (h:LoOk rk S a b){out:Array Kq}{i j:Nat}(m:MHo rk a b out i j)(e:j=1):Res rk a.toList b.toList (cD a b out i j).toList:=by
 unfold cD
 rw[FR,FR,jk,jk,Hn]
 refine m.first h.sa h.sb fun y hy z hz=>?_
 subst e
 obtain⟨k,hk,hz'⟩:=eR hz
 have k0:k=0:=by lia
 subst k0
 exact h.first z (by rw[<-fk];exact hz') y (Gi hy)
structure HI (rk:Kq->Nat) (a b out:Array Kq) (i j:Nat):Prop where
 m:MHo rk a b out i j
 i0:0 < i
 j1:1 < j
 ia:i<=a.size
 jb:j<=b.size
theorem MH.iJ {out:Array Kq}{i j:Nat}(m:MHo rk a b out i j)(H:LoOk rk S a b)(h0:0 < i){y:Kq}(hy:a[i - 1]?=some y)(hc:∀ z∈b.toList.take j,rk z<=rk y):MHo rk a b (out.push y) (i - 1) j:=by
 have hy':a.toList[i - 1]?=some y:=by rw[fk];exact hy
 have:=m.mU (t:=i - 1) H.sa (by lia) (by rw[take_one h0 hy'];intro w hw;rw[A_.mp hw];exact hc)
 rw[take_one h0 hy']at this
 show MH _ _ _ (out.push y).toList.reverse _ _
 rw[Gx,Hx]
 exact this
theorem MH.iH {out:Array Kq}{i j:Nat}(m:MHo rk a b out i j)(H:LoOk rk S a b)(h0:0 < j){y:Kq}(hy:b[j - 1]?=some y)(hc:∀ z∈a.toList.take i,rk z<=rk y):MHo rk a b (out.push y) i (j - 1):=by
 have hy':b.toList[j - 1]?=some y:=by rw[fk];exact hy
 have:=m.mP (t:=j - 1) H.sb (by lia) (by rw[take_one h0 hy'];intro w hw;rw[A_.mp hw];exact hc)
 rw[take_one h0 hy']at this
 show MH _ _ _ (out.push y).toList.reverse _ _
 rw[Gx,Hx]
 exact this
theorem i4{l:Array Kq}{i:Nat}{y:Kq}(srt:Srt rk l.toList)(hy:l[i - 1]?=some y):∀ z∈l.toList.take i,rk z<=rk y:=fun z hz=>by
 obtain⟨k,hk,hz'⟩:=eR hz
 exact jV srt (i:=k) (j:=i - 1) (by lia) hz' (by rw[fk];exact hy)
noncomputable def hC(rk:Kq->Nat)(a b:Array Kq)(lo:Nat)(st:Kv)(r:Option (Array Kq))(out:Array Kq)(i j:Nat)(st':Kv):Prop:=
 Keep st st'/\match r with
 | some q=>Res rk a.toList b.toList q.toList
 | none=>HI rk a b out i j/\i + j < lo
theorem HI.get (I:HI rk a b out i j):(∃ y,b[j - 1]?=some y)/\∃ z,a[i - 1]?=some z:=
 ⟨⟨_,gV (u_ (IQ (Ik G_ I.j1) G_) I.jb)⟩,⟨_,gV (u_ (IQ I.i0 G_) I.ia)⟩⟩
theorem Ef{out:Array Kq}{i j ca cb mg:Nat}{st st':Kv}{Q:ForInStep FT->Kv->Prop}(L:bW M A E s kd rk S)(H:LoOk rk S a b)(hk:kindOf st=kd)(K:Keep st st')(I:HI rk a b out i j)
  (h:∀(d:Bool) (c:FT),hC rk a b (i + j) st c.1 c.2.2.2.1 c.2.1 c.2.2.1 st'->(d=false->c.1=none)->Q (if d=true then Kx c else KL c) st'):wpS M A E s (e1 a b out i j ca cb mg) Q st':=by
 obtain⟨⟨y,hy⟩,⟨z,hz⟩⟩:=I.get
 have i0:=I.i0
 have j1:=I.j1
 have ia:=I.ia
 have jb:=I.jb
 unfold e1
 refine Ku (aG hy (Ku (aG hz (Ku (L y z st' _ (H.Sb _ _ hy) (H.Sa _ _ hz) (K.k.trans hk) ?_)))))
 dsimp only
 by_cases w:rk y < rk z
 ·rw[decide_eq_true w,if_pos rfl]
  have m:=I.m.iJ H i0 hz fun u hu=>n_ (i4 H.sb hy u hu) (FK w)
  refine Ku (aG hz ?_)
  by_cases e:i - 1=0
  ·rw[if_pos (by rw[e];rfl)]
   exact KA (h true _ ⟨K,H.qd m (.inl e)⟩ (fun z=>nomatch z))
  rw[if_neg (by simpa using e)]
  have I2:HI rk a b (out.push z) (i - 1) j:=⟨m,GL e,j1,n_ (Gu ..) ia,jb⟩
  split
  ·exact KA (h true _ ⟨K,I2,by dsimp only;lia⟩ (fun z=>nomatch z))
  exact KA (h false _ ⟨K,I2,by dsimp only;lia⟩ (fun _=>rfl))
 rw[decide_eq_false w,if_neg (by simp)]
 have m:=I.m.iH H (by lia) hy fun u hu=>n_ (i4 H.sa hz u hu) (by lia)
 refine Ku (aG hy ?_)
 by_cases e:j - 1=1
 ·rw[if_pos (by rw[e];rfl)]
  exact KA (h true _ ⟨K,H.nF m e⟩ (fun z=>nomatch z))
 rw[if_neg (by simpa using e)]
 have I2:HI rk a b (out.push y) i (j - 1):=⟨m,i0,by lia,ia,n_ (Gu ..) jb⟩
 split
 ·exact KA (h true _ ⟨K,I2,by dsimp only;lia⟩ (fun z=>nomatch z))
 exact KA (h false _ ⟨K,I2,by dsimp only;lia⟩ (fun _=>rfl))
theorem AK{out:Array Kq}{i j mg ca cb lo:Nat}{st st':Kv}{Q:ForInStep GT->Kv->Prop}(H:LoOk rk S a b)(K:Keep st st')(I:HI rk a b out i j)(hc:∀ z,a[i - 1]?=some z->∀ u∈b.toList.take j,rk u<=rk z)(hl:i + j<=lo)
  (h:∀(d:Bool) (c:GT),hC rk a b lo st c.1 c.2.2.2.1 c.2.1 c.2.2.1 st'->(d=false->c.1=none)->Q (if d=true then Kx c else KL c) st'):wpS M A E s (k3 a b out i j mg ca cb) Q st':=by
 obtain⟨⟨y,hy⟩,⟨z,hz⟩⟩:=I.get
 have i0:=I.i0
 have j1:=I.j1
 have ia:=I.ia
 have jb:=I.jb
 unfold k3
 have m:=I.m.iJ H i0 hz (hc z hz)
 refine Ku (aG hz ?_)
 by_cases e:i - 1=0
 ·rw[if_pos (by rw[e];rfl)]
  exact KA (h true _ ⟨K,H.qd m (.inl e)⟩ (fun z=>nomatch z))
 rw[if_neg (by simpa using e)]
 have I2:HI rk a b (out.push z) (i - 1) j:=⟨m,GL e,j1,n_ (Gu ..) ia,jb⟩
 split
 ·exact KA (h true _ ⟨K,I2,by dsimp only;lia⟩ (fun z=>nomatch z))
 exact KA (h false _ ⟨K,I2,by dsimp only;lia⟩ (fun _=>rfl))
theorem MHo.block {out:Array Kq}{i j t:Nat}(m:MHo rk a b out i j)(H:LoOk rk S a b)(ht:t<=j)(hc:∀ y∈(b.toList.take j).drop t,∀ z∈a.toList.take i,rk z<=rk y):MHo rk a b (out++(b.extract t j).reverse) i t:=by
 have:=m.mP H.sb ht hc
 show MH _ _ _ (out++(b.extract t j).reverse).toList.reverse _ _
 rw[FR,Hx,Hn,Jo,rX]
 exact this
theorem MHo.C3 {out:Array Kq}{i j t:Nat}(m:MHo rk a b out i j)(H:LoOk rk S a b)(ht:t<=i)(hc:∀ y∈(a.toList.take i).drop t,∀ z∈b.toList.take j,rk z<=rk y):MHo rk a b (out++(a.extract t i).reverse) t j:=by
 have:=m.mU H.sa ht hc
 show MH _ _ _ (out++(a.extract t i).reverse).toList.reverse _ _
 rw[FR,Hx,Hn,Jo,rX]
 exact this
theorem B2{out:Array Kq}{i j mg ca cb lo:Nat}{st st':Kv}{Q:ForInStep GT->Kv->Prop}(L:bW M A E s kd rk S)(H:LoOk rk S a b)(hk:kindOf st=kd)(K:Keep st st')(I:HI rk a b out i j)(hc:∀ y,b[j - 1]?=some y->∀ u∈a.toList.take i,rk u<=rk y)(hl:i + j<=lo)
  (h:∀(d:Bool) (c:GT),hC rk a b lo st c.1 c.2.2.2.1 c.2.1 c.2.2.1 st'->(d=false->c.1=none)->Q (if d=true then Kx c else KL c) st'):wpS M A E s (k2 a b out i j mg ca cb) Q st':=by
 obtain⟨⟨y,hy⟩,⟨z,hz⟩⟩:=I.get
 have i0:=I.i0
 have j1:=I.j1
 have ia:=I.ia
 have jb:=I.jb
 unfold k2
 have m:=I.m.iH H (by lia) hy (hc y hy)
 refine Ku (aG hy ?_)
 by_cases e:j - 1=1
 ·rw[if_pos (by rw[e];rfl)]
  exact KA (h true _ ⟨K,H.nF m e⟩ (fun z=>nomatch z))
 rw[if_neg (by simpa using e)]
 refine Ku (aG hz (Ku (eK L (K.k.trans hk) (by lia) (by lia) H.Sb (H.Sa _ _ hz) (fun p q x w h1 h2 h3 h4=>jV H.sb (i:=0 + p) (j:=0 + q) (by lia) (by rw[fk];exact h3) (by rw[fk];exact h4)) fun t t1 t2 t3=>?_)))
 dsimp only
 have before:∀ u∈b.toList.take t,rk u<=rk z:=fun u hu=>by
  obtain⟨p,hp1,hp⟩:=eR hu
  rw[fk]at hp
  have:=t2 p u hp1 (by rw[HN];exact hp)
  simp at this
  lia
 by_cases pk:j - 1 - t > 0
 ·rw[if_pos pk]
  have m2:MHo rk a b (out.push y++(b.extract t (j - 1)).reverse) i t:=by
   refine MHo.block m H (by omega) fun u hu w hw=>?_
   obtain⟨p,hp0,hp1,hp⟩:=pg hu
   rw[fk]at hp
   have:=t3 p u hp0 hp1 (by rw[HN];exact hp)
   simp at this
   exact n_ (i4 H.sa hz w hw) this
  by_cases e1:t=1
  ·rw[if_pos (by rw[e1];rfl)]
   exact KA (h true _ ⟨K,H.nF m2 e1⟩ (fun z=>nomatch z))
  rw[if_neg (by simpa using e1)]
  by_cases e2:t=0
  ·rw[if_pos (by rw[e2];rfl)]
   exact KA (h true _ ⟨K,H.qd m2 (.inr e2)⟩ (fun z=>nomatch z))
  rw[if_neg (by simpa using e2)]
  refine AK H K ⟨m2,i0,Gp (GL e2) (LJ e1),ia,n_ t1 (n_ (Gu ..) jb)⟩ (fun z' hz'=>?_) (by lia) h
  rw[hz]at hz'
  cases hz'
  exact before
 rw[if_neg pk]
 have k0:t=j - 1:=by lia
 refine AK H K ⟨m,i0,by lia,ia,n_ (Gu ..) jb⟩ (fun z' hz'=>?_) (by lia) h
 rw[hz]at hz'
 cases hz'
 rw[k0]at before
 exact before
theorem ES{out:Array Kq}{i j mg ca cb:Nat}{st st':Kv}{Q:ForInStep GT->Kv->Prop}(L:bW M A E s kd rk S)(H:LoOk rk S a b)(hk:kindOf st=kd)(K:Keep st st')(I:HI rk a b out i j)
  (h:∀(d:Bool) (c:GT) (st2:Kv),hC rk a b (i + j) st c.1 c.2.2.2.1 c.2.1 c.2.2.1 st2->(d=false->c.1=none)->Q (if d=true then Kx c else KL c) st2):wpS M A E s (k1 a b out i j mg ca cb) Q st':=by
 obtain⟨⟨y,hy⟩,⟨z,hz⟩⟩:=I.get
 have i0:=I.i0
 have j1:=I.j1
 have ia:=I.ia
 have jb:=I.jb
 unfold k1
 refine Ku (jC (Ku (aG hy ?_)))
 have K2:=K.g mg
 revert K2
 generalize L_ (kindOf st') (Ks st') (KI st') mg (Lc st')=st2
 intro K2
 refine Ku (eK L (K2.k.trans hk) (by lia) (by lia) H.Sa (H.Sb _ _ hy) (fun p q x w h1 h2 h3 h4=>jV H.sa (i:=0 + p) (j:=0 + q) (by lia) (by rw[fk];exact h3) (by rw[fk];exact h4)) fun t t1 t2 t3=>?_)
 dsimp only
 have before:∀ u∈a.toList.take t,rk u<=rk y:=fun u hu=>by
  obtain⟨p,hp1,hp⟩:=eR hu
  rw[fk]at hp
  have:=t2 p u hp1 (by rw[HN];exact hp)
  simpa using this
 by_cases pk:i - t > 0
 ·rw[if_pos pk]
  have m2:MHo rk a b (out++(a.extract t i).reverse) t j:=by
   refine MHo.C3 I.m H (by omega) fun u hu w hw=>?_
   obtain⟨p,hp0,hp1,hp⟩:=pg hu
   rw[fk]at hp
   have:=t3 p u hp0 hp1 (by rw[HN];exact hp)
   simp at this
   exact n_ (i4 H.sb hy w hw) (FK this)
  by_cases e2:t=0
  ·rw[if_pos (by rw[e2];rfl)]
   exact KA (h true _ _ ⟨K2,H.qd m2 (.inl e2)⟩ (fun z=>nomatch z))
  rw[if_neg (by simpa using e2)]
  refine B2 L H hk K2 ⟨m2,by lia,j1,by lia,jb⟩ (fun y' hy'=>?_) (by lia) fun d c x1 x2=>h d c _ x1 x2
  rw[hy]at hy'
  cases hy'
  exact before
 rw[if_neg pk]
 have k0:t=i:=by lia
 rw[k0]at before
 refine B2 L H hk K2 I (fun y' hy'=>?_) (e_ _) fun d c x1 x2=>h d c _ x1 x2
 rw[hy]at hy'
 cases hy'
 exact before
theorem BS{st:Kv}{Q:Array Kq->Kv->Prop}(L:bW M A E s kd rk S)(H:LoOk rk S a b)(hk:kindOf st=kd)(h:∀ r st',Keep st st'->Res rk a.toList b.toList r.toList->Q r st')(hr:∀ x,Kr M A (rule x) (fun _ s'=>s'=s) E s):wpS M A E s (mHi a b) Q st:=by
 rw[zM]
 have pa:=H.pa
 have pb:=H.pb
 obtain⟨y,hy⟩:∃ y,a[a.size - 1]?=some y:=⟨_,gV (by lia)⟩
 have rl:∀ {x:String} {R:Unit->Kv->Prop} {st':Kv},R () st'->wpS M A E s (liftM (rule x):StateT Kv Sem Unit) R st':=fun{x R st'} q=>Ov (KW (hr x) (fun _ _ z=>⟨z,q⟩) fun _ _ z=>z)
 refine Ku (rl (Ku (aG hy ?_)))
 have m0:MHo rk a b #[] a.size b.size:=⟨by simp,IL,fun x hx=>by simp at hx⟩
 have m1:MHo rk a b #[y] (a.size - 1) b.size:=m0.iJ H pa hy fun z hz=>H.last y hy z (Gi hz)
 by_cases e1:a.size - 1=0
 ·rw[if_pos (by rw[e1];rfl)]
  exact KA (h _ _ .bh (H.qd m1 (.inl e1)))
 rw[if_neg (by simpa using e1)]
 by_cases e2:b.size=1
 ·rw[if_pos (by rw[e2];rfl)]
  exact KA (h _ _ .bh (H.nF m1 e2))
 rw[if_neg (by simpa using e2)]
 refine Ku (MP ?_)
 refine Ku (LA (La (I:=fun x (c:OT) st'=>c.1=none/\Keep st st'/\HI rk a b c.2.2.2.1 c.2.1 c.2.2.1/\c.2.1 + c.2.2.1 + x < a.size + b.size) (Q:=fun(c:OT) st'=>∃ q,c.1=some q/\Keep st st'/\Res rk a.toList b.toList q.toList) ?_ ?_ ⟨rfl,.bh,⟨m1,by dsimp only;lia,by dsimp only;lia,by dsimp only;lia,by dsimp only;lia⟩,by dsimp only;lia⟩) ?_)
 ·rintro x ⟨c1,i,j,out,mg⟩ st1 _ hx ⟨rfl,K1,I1,px⟩
  unfold oHi
  dsimp only at I1 px ⊢
  refine Ku (LA (La (I:=fun x (c:FT) st'=>c.1=none/\Keep st st'/\HI rk a b c.2.2.2.1 c.2.1 c.2.2.1/\c.2.1 + c.2.2.1 + x<=i + j) (Q:=fun(c:FT) st'=>hC rk a b (i + j) st c.1 c.2.2.2.1 c.2.1 c.2.2.1 st') ?_ ?_ ⟨rfl,K1,I1,e_ _⟩) ?_)
  ·rintro x2 ⟨d1,i2,j2,out2,ca,cb⟩ st2 _ hx2 ⟨rfl,K2,I2,p2⟩
   dsimp only at I2 p2 ⊢
   refine Ef L H hk K2 I2 fun d c hs hn=>?_
   cases d with
   | true=>
    show hC _ _ _ _ _ _ _ _ _ _
    refine⟨hs.1,?_⟩
    have h2:=hs.2
    cases e:c.1 with
    | some q=>rw[e]at h2;exact h2
    | none=>rw[e]at h2;exact⟨h2.1,by have:=h2.2;lia⟩
   | false=>
    have h2:=hs.2
    rw[hn rfl]at h2
    exact⟨hn rfl,hs.1,h2.1,by have:=h2.2;lia⟩
  ·rintro⟨c1,i2,j2,out2,ca,cb⟩ st2 ⟨rfl,K2,I2,p2⟩
   dsimp only at I2 p2 ⊢
   have:=I2.i0
   have:=I2.j1
   lia
  rintro⟨c1,i2,j2,out2,ca,cb⟩ st2 ⟨K2,h2⟩
  cases c1 with
  | some q=>exact KA ⟨q,rfl,K2,h2⟩
  | none=>
   obtain⟨I2,p2⟩:=h2
   dsimp only at I2 p2 ⊢
   refine Ku (rl ?_)
   refine Ku (LA (La (I:=fun _ (c:GT) st'=>c.1=none/\Keep st st'/\HI rk a b c.2.2.2.1 c.2.1 c.2.2.1/\c.2.1 + c.2.2.1 < i + j) (Q:=fun(c:GT) st'=>hC rk a b (i + j) st c.1 c.2.2.2.1 c.2.1 c.2.2.1 st') ?_ ?_ ⟨rfl,K2,I2,p2⟩) ?_)
   ·rintro x3 ⟨d1,i3,j3,out3,mg3,ca3,cb3⟩ st3 _ hx3 ⟨rfl,K3,I3,p3⟩
    dsimp only at I3 p3 ⊢
    have go:∀ mg',wpS M A E s (k1 a b out3 i3 j3 mg' ca3 cb3) (fun r st'=>match r with | .done c'=>hC rk a b (i + j) st c'.1 c'.2.2.2.1 c'.2.1 c'.2.2.1 st' | .yield c'=>c'.1=none/\Keep st st'/\HI rk a b c'.2.2.2.1 c'.2.1 c'.2.2.1/\c'.2.1 + c'.2.2.1 < i + j) st3:=fun mg'=>by
     refine ES L H hk K3 I3 fun d c st4 hs hn=>?_
     cases d with
     | true=>
      show hC _ _ _ _ _ _ _ _ _ _
      refine⟨hs.1,?_⟩
      have h2:=hs.2
      cases e:c.1 with
      | some q=>rw[e]at h2;exact h2
      | none=>rw[e]at h2;exact⟨h2.1,by have:=h2.2;lia⟩
     | false=>
      have h2:=hs.2
      rw[hn rfl]at h2
      exact⟨hn rfl,hs.1,h2.1,by have:=h2.2;lia⟩
    split
    ·exact LA (go _) fun r st' h=>by cases r <;> exact h
    exact LA (go _) fun r st' h=>by cases r <;> exact h
   ·rintro⟨c1,i3,j3,out3,mg3,ca3,cb3⟩ st3 ⟨rfl,K3,I3,p3⟩
    exact⟨K3,I3,p3⟩
   rintro⟨c1,i3,j3,out3,mg3,ca3,cb3⟩ st3 ⟨K3,h3⟩
   cases c1 with
   | some q=>exact KA ⟨q,rfl,K3,h3⟩
   | none=>
    obtain⟨I3,p3⟩:=h3
    refine Ku (jC (KA ⟨rfl,K3.g _,I3,?_⟩))
    dsimp only at p3 ⊢
    lia
 ·rintro⟨c1,i,j,out,mg⟩ st1 ⟨rfl,K1,I1,px⟩
  dsimp only at px
  lia
 rintro⟨c1,i,j,out,mg⟩ st1 ⟨q,e,K1,r⟩
 dsimp only at e
 subst e
 exact KA (h q st1 K1 r)
end
def R(rk:Kq->Nat)(xs:Array Kq)(i:Nat):Nat:=match xs[i]? with
 | some p=>rk p
 | none=>0
structure Kp2 (st st':Kv):Prop where
 k:kindOf st'=kindOf st
 p:KI st'=KI st
 f:Lc st'=Lc st
 a:(Ks st').Perm (Ks st)
theorem Kp2.bh {st:Kv}:Kp2 st st:=⟨rfl,rfl,rfl,Je _⟩
theorem Kp2.trans {s1 s2 s3:Kv}(h:Kp2 s1 s2)(g:Kp2 s2 s3):Kp2 s1 s3:=⟨g.k.trans h.k,g.p.trans h.p,g.f.trans h.f,g.a.trans h.a⟩
theorem Kp2.size {st st':Kv}(h:Kp2 st st'):(Ks st').size=(Ks st).size:=h.a.size_eq
section
variable{rk:Kq->Nat}
theorem bZ{xs ys:Array Kq}{i j:Nat}(h:xs[i]?=ys[j]?):R rk xs i=R rk ys j:=by unfold R;rw[h]
theorem vF{xs:Array Kq}{i j:Nat}(hj:j<=xs.size)(k:Nat):R rk (mirror xs i j ((j - i) / 2)) k=if i<=k/\k < j then R rk xs (i + j - 1 - k)else R rk xs k:=by
 have:=OH (i:=i) hj k
 split at this <;> rename_i h
 ·rw[if_pos h];exact bZ this
 rw[if_neg h];exact bZ this
theorem vB{xs:Array Kq}{src d:Nat}(hs:src < xs.size)(hd:d<=src)(k:Nat):R rk (P5 xs src d) k=if k=src - d then R rk xs src else if src - d < k/\k<=src then R rk xs (k - 1)else R rk xs k:=by
 have:=P6 hs d hd k
 split at this
 ·rename_i h;rw[if_pos h];exact bZ this
 rename_i h
 rw[if_neg h]
 split at this
 ·rename_i h2;rw[if_pos h2];exact bZ this
 rename_i h2;rw[if_neg h2];exact bZ this
def bp(rk:Kq->Nat)(xs:Array Kq)(lo n:Nat):Prop:=∀ i j,i<=j->j < n->R rk xs (lo + i)<=R rk xs (lo + j)
def ox(rk:Kq->Nat)(xs:Array Kq)(lo n:Nat):Prop:=∀ i j,i<=j->j < n->R rk xs (lo + j)<=R rk xs (lo + i)
end
structure Within (st st':Kv) (lo n:Nat):Prop where
 kp:Kp2 st st'
 out:∀ k,(k < lo\/lo + n<=k)->(Ks st')[k]?=(Ks st)[k]?
theorem Within.bh {st:Kv}{lo n:Nat}:Within st st lo n:=⟨.bh,fun _ _=>rfl⟩
theorem Within.trans {s1 s2 s3:Kv}{lo n:Nat}(h:Within s1 s2 lo n)(g:Within s2 s3 lo n):Within s1 s3 lo n:=⟨h.kp.trans g.kp,fun k hk=>(g.out k hk).trans (h.out k hk)⟩
section
variable{M:Mv}{A:KN}{E:Kj->Km->Prop}{s:Km}{kd:Mh}{rk:Kq->Nat}{S:Kq->Prop}
def iK(S:Kq->Prop)(st:Kv):Prop:=∀ p∈(Ks st).toList,S p
theorem iK.at {st:Kv}(h:iK S st){i:Nat}{p:Kq}(e:(Ks st)[i]?=some p):S p:=h p (by rw[<-fk]at e;exact C_ e)
theorem iK.kp {st st':Kv}(h:iK S st)(k:Kp2 st st'):iK S st':=fun p hp=>h p ((GU.mp k.a).mem_iff.mp hp)
theorem eL{i j:Nat}{st:Kv}{Q:Option Bool->Kv->Prop}(L:bW M A E s kd rk S)(hk:kindOf st=kd)(hS:iK S st)(hi:i < (Ks st).size)(hj:j < (Ks st).size)(q:Q (some (decide (R rk (Ks st) i < R rk (Ks st) j))) st):wpS M A E s (P7 i j) Q st:=by
 rw[ltAt'_eq]
 refine Ku (MP ?_)
 have e1:(Ks st)[i]?=some (Ks st)[i]:=gV hi
 have e2:(Ks st)[j]?=some (Ks st)[j]:=gV hj
 refine Ku (aG e1 (Ku (aG e2 (L _ _ st _ (hS.at e1) (hS.at e2) hk ?_))))
 unfold R at q
 rw[e1,e2]at q
 exact q
theorem xb{i j lo n:Nat}{st:Kv}{Q:Unit->Kv->Prop}(hl:lo<=i)(hj:j<=lo + n)(hsz:j<=(Ks st).size)(h:∀ st',Within st st' lo n->(∀ k,R rk (Ks st') k=if i<=k/\k < j then R rk (Ks st) (i + j - 1 - k)else R rk (Ks st) k)->Q () st'):wpS M A E s (Mz i j) Q st:=by
 rw[reverseSlice'_eq]
 refine Nd (h _ ⟨⟨rfl,rfl,rfl,mirror_perm _ _ _ _⟩,fun k hk=>?_⟩ fun k=>vF hsz k)
 show(mirror (Ks st) i j ((j - i) / 2))[k]?=_
 rw[OH hsz,if_neg (by lia)]
theorem yx{lo n ok:Nat}{st:Kv}{Q:Bool->Kv->Prop}(L:bW M A E s kd rk S)(hk:kindOf st=kd)(hS:iK S st)(hn:lo + n<=(Ks st).size)(hok:ok<=n)(hs:bp rk (Ks st) lo ok)
  (h:∀ st',Within st st' lo n->bp rk (Ks st') lo n->Q true st'):wpS M A E s (RO lo n ok) Q st:=by
 rw[binarySort'_eq]
 refine Ku (LA (La (I:=fun k c st'=>c=(none,())/\Within st st' lo n/\bp rk (Ks st') lo k) (Q:=fun c st'=>c=(none,())/\Within st st' lo n/\bp rk (Ks st') lo (max (max ok 1) n)) ?_ (fun c st' z=>z) ⟨rfl,.bh,fun i j h1 h2=>?_⟩) ?_)
 ·rintro k c st1 hk1 hk2 ⟨rfl,W,s1⟩
  have sz1:=W.kp.size
  have hS1:=hS.kp W.kp
  refine Ku (LA (La (I:=fun x c st'=>st'=st1/\∃ l r,c=(none,l,r)/\l<=r/\r<=k/\r - l<=k - x/\(∀ i,i < l->R rk (Ks st1) (lo + i)<=R rk (Ks st1) (lo + k))/\(∀ i,r<=i->i < k->R rk (Ks st1) (lo + k) < R rk (Ks st1) (lo + i)))
   (Q:=fun c st'=>st'=st1/\∃ l,c=(none,l,l)/\l<=k/\(∀ i,i < l->R rk (Ks st1) (lo + i)<=R rk (Ks st1) (lo + k))/\(∀ i,l<=i->i < k->R rk (Ks st1) (lo + k) < R rk (Ks st1) (lo + i))) ?_ ?_ ⟨rfl,0,k,rfl,B' _,e_ _,by lia,fun i hi=>by lia,fun i h1 h2=>by lia⟩) ?_)
  ·rintro x c st2 _ hx ⟨rfl,l,r,rfl,g1,g2,g3,g4,g5⟩
   dsimp only
   by_cases z:l>=r
   ·rw[if_pos z]
    have e:l=r:=by lia
    subst e
    exact KA ⟨rfl,l,rfl,g2,g4,g5⟩
   rw[if_neg z]
   have m1:l<=(l + r) / 2:=by omega
   have m2:(l + r) / 2 < r:=by omega
   generalize (l + r) / 2=m at m1 m2 ⊢
   have m3:=u_ m2 g2
   have sz:∀ {y},y<=k->lo + y < (Ks st2).size:=fun h=>by lia
   refine Ku (eL L (W.kp.k.trans hk) hS1 (sz (e_ _)) (sz (FK m3)) ?_)
   dsimp only
   by_cases w:R rk (Ks st2) (lo + k) < R rk (Ks st2) (lo + m)
   ·rw[decide_eq_true w,if_pos rfl]
    exact KA ⟨rfl,l,m,rfl,m1,FK m3,by lia,g4,fun i h1 h2=>u_ w (s1 m i h1 h2)⟩
   rw[decide_eq_false w,if_neg (by simp)]
   exact KA ⟨rfl,m + 1,r,rfl,m2,g2,by lia,fun i hi=>n_ (s1 i m (HW hi) m3) (FV w),g5⟩
  ·rintro c st2 ⟨rfl,l,r,rfl,g1,g2,g3,g4,g5⟩
   have e:l=r:=by lia
   subst e
   exact⟨rfl,l,rfl,g2,g4,g5⟩
  rintro c st2 ⟨rfl,l,rfl,g2,g4,g5⟩
  dsimp only
  rw[moveDown'_eq]
  have hk1:lo + k < (Ks st2).size:=by lia
  have e0:lo + k - (lo + k - (lo + l))=lo + l:=Nat.sub_sub_self (Hw g2 lo)
  have hb:∀ j,R rk (P5 (Ks st2) (lo + k) (lo + k - (lo + l))) (lo + j)=if j=l then R rk (Ks st2) (lo + k)else if l < j/\j<=k then R rk (Ks st2) (lo + (j - 1))else R rk (Ks st2) (lo + j):=fun j=>by
   rw[vB hk1 (Gu ..),e0]
   by_cases c1:j=l
   ·rw[if_pos c1,if_pos (congrArg (lo + ·) c1)]
   rw[if_neg c1,if_neg (fun z=>c1 (Nat.add_left_cancel z))]
   by_cases c2:l < j/\j<=k
   ·rw[if_pos c2,if_pos ⟨Iw c2.1 lo,Hw c2.2 lo⟩,JF (Nat.one_le_of_lt c2.1)]
   rw[if_neg c2,if_neg (fun z=>c2 ⟨Nat.lt_of_add_lt_add_left z.1,Nat.le_of_add_le_add_left z.2⟩)]
  refine Ku (Nd (KA ⟨rfl,W.trans ⟨⟨rfl,rfl,rfl,bubble_perm _ _ _⟩,fun j hj=>?_⟩,fun i j hij hj=>?_⟩))
  ·show(P5 (Ks st2) (lo + k) (lo + k - (lo + l)))[j]?=_
   rw[P6 hk1 _ (Gu ..),e0,if_neg (by lia),if_neg (by lia)]
  show R rk (P5 (Ks st2) (lo + k) (lo + k - (lo + l))) (lo + i)<=R rk (P5 (Ks st2) (lo + k) (lo + k - (lo + l))) (lo + j)
  rw[hb,hb]
  have ss:∀ p q,p<=q->q < k->R rk (Ks st2) (lo + p)<=R rk (Ks st2) (lo + q):=s1
  have hj:j<=k:=HW hj
  have dn:∀ {x},l < x->x<=k->x - 1 < k:=fun a b=>u_ (Nat.sub_one_lt_of_lt a) b
  by_cases i1:i < l
  ·rw[if_neg (w_ i1),if_neg (fun z=>Nat.lt_asymm z.1 i1)]
   by_cases j2:j=l
   ·rw[if_pos j2]
    exact g4 i i1
   rw[if_neg j2]
   by_cases j1:l < j
   ·rw[if_pos ⟨j1,hj⟩]
    exact ss i (j - 1) (Io (Ik i1 j1)) (dn j1 hj)
   rw[if_neg (fun z=>j1 z.1)]
   exact ss i j hij (u_ (Gp (FV j1) j2) g2)
  by_cases i2:i=l
  ·rw[if_pos i2]
   by_cases j2:j=l
   ·rw[if_pos j2]
    exact e_ _
   have j1:l < j:=Gp (i2 ▸ hij) (fun z=>j2 z.symm)
   rw[if_neg j2,if_pos ⟨j1,hj⟩]
   exact FK (g5 (j - 1) (Io j1) (dn j1 hj))
  have i3:l < i:=Gp (FV i1) (fun z=>i2 z.symm)
  have j1:=u_ i3 hij
  rw[if_neg i2,if_pos ⟨i3,n_ hij hj⟩,if_neg (fun z=>GB _ (z ▸ j1)),if_pos ⟨j1,hj⟩]
  exact ss (i - 1) (j - 1) (Jp hij 1) (dn j1 hj)
 ·by_cases z:1<=ok
  ·rw[Nat.max_eq_left z]at h2
   exact hs i j h1 h2
  have:i=j:=by lia
  subst this
  exact e_ _
 rintro c st1 ⟨rfl,W,s1⟩
 exact KA (h st1 W fun i j h1 h2=>s1 i j h1 (by lia))
end
theorem tZ{l x:Nat}(h:1<=x):l + (x - 1)=l + x - 1:=(JF h l).symm
theorem CP{l k:Nat}(h:l<=k):l + (k - l)=k:=HA h
theorem E6{l a i:Nat}(h:i < a):l + (l + a) - 1 - (l + i)=l + (a - 1 - i):=by lia
theorem BN{l x k:Nat}(h0:l<=k)(h:k < l + x):k - l < x:=HF h0 h
noncomputable def ya(l0 a0 q0:Nat):StateT Kv Sem (Option Nat):=do
 let mut n:=a0
 for _ in [a0:q0]do
  let some sm <-P7 (l0 + n) (l0 + n - 1) | return none
  if sm then break
  n:=n + 1
 return some n
def nU(l0 a0 q0:Nat):StateT Kv Sem (Option Nat):=do
 Mz l0 (l0 + a0)
 ya l0 a0 q0
noncomputable def nQ(l0 a0 q0:Nat):StateT Kv Sem (Option Nat):=do
 rule "list.sort.descending-run"
 let mut n:=a0 + 1
 let mut eq:=0
 for _ in [n:q0]do
  let some sm <-P7 (l0 + n) (l0 + n - 1) | return none
  if sm then
   if eq > 0 then Mz (l0 + n - (eq + 1)) (l0 + n)
   eq:=0
  else
   let some la <-P7 (l0 + n - 1) (l0 + n) | return none
   if la then break
   eq:=eq + 1
  n:=n + 1
 if eq > 0 then
  Mz (l0 + n - (eq + 1)) (l0 + n)
  nU l0 n q0
 else nU l0 n q0
theorem DH(l0 q0:Nat):Qx l0 q0=(do
 let mut n:=1
 for _ in [1:q0]do
  let some sm <-P7 (l0 + n) (l0 + n - 1) | return none
  if sm then break
  n:=n + 1
 if n == q0 then return some n
 if n > 1 then
  let some ro <-P7 l0 (l0 + n - 1) | return none
  if ro then return some n
  Mz l0 (l0 + n)
  nQ l0 n q0
 else nQ l0 n q0):=rfl
section
variable{M:Mv}{A:KN}{E:Kj->Km->Prop}{s:Km}{kd:Mh}{rk:Kq->Nat}{S:Kq->Prop}
theorem bp.snoc {xs:Array Kq}{lo n:Nat}(h:bp rk xs lo n)(h1:1<=n)(k:R rk xs (lo + n - 1)<=R rk xs (lo + n)):bp rk xs lo (n + 1):=fun i j hij hj=>by
 by_cases z:j < n
 ·exact h i j hij z
 have e:j=n:=by lia
 subst e
 by_cases w:i=j
 ·subst w;exact e_ _
 have:=h i (j - 1) (by lia) (by lia)
 rw[tZ h1]at this
 exact n_ this k
theorem vT{l0 a0 q0:Nat}{st:Kv}{Q:Option Nat->Kv->Prop}(L:bW M A E s kd rk S)(hk:kindOf st=kd)(hS:iK S st)(hsz:l0 + q0<=(Ks st).size)(h1:1<=a0)(h2:a0<=q0)(hs:bp rk (Ks st) l0 a0)
  (h:∀ n,a0<=n->n<=q0->bp rk (Ks st) l0 n->Q (some n) st):wpS M A E s (ya l0 a0 q0) Q st:=by
 unfold ya
 dsimp only
 refine Ku (LA (La (I:=fun x c st'=>st'=st/\c=(none,x)/\bp rk (Ks st) l0 x) (Q:=fun c st'=>st'=st/\∃ n,c=(none,n)/\a0<=n/\n<=q0/\bp rk (Ks st) l0 n) ?_ ?_ ⟨rfl,rfl,hs⟩) ?_)
 ·rintro x c st1 hx1 hx2 ⟨rfl,rfl,s1⟩
  dsimp only
  refine Ku (eL L hk hS (by lia) (by lia) ?_)
  dsimp only
  by_cases w:R rk (Ks st1) (l0 + x) < R rk (Ks st1) (l0 + x - 1)
  ·rw[decide_eq_true w,if_pos rfl]
   exact KA ⟨rfl,x,rfl,hx1,by lia,s1⟩
  rw[decide_eq_false w,if_neg (by simp)]
  exact KA ⟨rfl,rfl,s1.snoc (by lia) (by lia)⟩
 ·rintro c st1 ⟨rfl,rfl,s1⟩
  rw[IU h2]at s1 ⊢
  exact⟨rfl,q0,rfl,h2,e_ _,s1⟩
 rintro c st1 ⟨rfl,n,rfl,g1,g2,g3⟩
 exact KA (h n g1 g2 g3)
theorem m9{l0 a0 q0:Nat}{st:Kv}{Q:Option Nat->Kv->Prop}(L:bW M A E s kd rk S)(hk:kindOf st=kd)(hS:iK S st)(hsz:l0 + q0<=(Ks st).size)(h1:1<=a0)(h2:a0<=q0)(hs:ox rk (Ks st) l0 a0)
  (h:∀ n st',a0<=n->n<=q0->Within st st' l0 q0->bp rk (Ks st') l0 n->Q (some n) st'):wpS M A E s (nU l0 a0 q0) Q st:=by
 unfold nU
 refine Ku (xb (rk:=rk) (lo:=l0) (n:=q0) (e_ _) (by lia) (by lia) fun st1 W1 r1=>?_)
 refine vT L (W1.kp.k.trans hk) (hS.kp W1.kp) (by rw[W1.kp.size];exact hsz) h1 h2 (fun i j hij hj=>?_) fun n g1 g2 g3=>h n st1 g1 g2 W1 g3
 have hi:=FW hij hj
 rw[r1,r1,if_pos ⟨Ia ..,Iw hi l0⟩,if_pos ⟨Ia ..,Iw hj l0⟩,E6 hi,E6 hj]
 exact hs (a0 - 1 - j) (a0 - 1 - i) (Nat.sub_le_sub_left hij _) (FW (Gu _ _) (IQ h1 G_))
theorem jP{i j lo n:Nat}{st:Kv}{Q:Unit->Kv->Prop}(hl:lo<=i)(hj:j<=lo + n)(hsz:j<=(Ks st).size)(heq:∀ k,i<=k->k < j->R rk (Ks st) k=R rk (Ks st) (j - 1))(h:∀ st',Within st st' lo n->(∀ k,R rk (Ks st') k=R rk (Ks st) k)->Q () st'):wpS M A E s (Mz i j) Q st:=by
 refine xb (rk:=rk) hl hj hsz fun st1 W r1=>h st1 W fun k=>?_
 rw[r1]
 split
 ·rename_i z
  rw[heq k z.1 z.2,heq (i + j - 1 - k) (by(clear r1 W h heq hsz hj hl;lia)) (by(clear r1 W h heq hsz hj hl;lia))]
 rfl
theorem ox.snoc {xs:Array Kq}{lo n:Nat}(h:ox rk xs lo n)(h1:1<=n)(k:R rk xs (lo + n)<=R rk xs (lo + n - 1)):ox rk xs lo (n + 1):=fun i j hij hj=>by
 by_cases z:j < n
 ·exact h i j hij z
 have e:j=n:=by lia
 subst e
 by_cases w:i=j
 ·subst w;exact e_ _
 have:=h i (j - 1) (by lia) (by lia)
 rw[show lo + (j - 1)=lo + j - 1 by lia]at this
 exact n_ k this
theorem lV{l0 a0 q0:Nat}{st:Kv}{Q:Option Nat->Kv->Prop}(L:bW M A E s kd rk S)(hk:kindOf st=kd)(hS:iK S st)(hsz:l0 + q0<=(Ks st).size)(h2:a0 + 1<=q0)(hs:ox rk (Ks st) l0 (a0 + 1))(hr:∀ x,Kr M A (rule x) (fun _ s'=>s'=s) E s)
  (h:∀ n st',1<=n->n<=q0->Within st st' l0 q0->bp rk (Ks st') l0 n->Q (some n) st'):wpS M A E s (nQ l0 a0 q0) Q st:=by
 unfold nQ
 refine Ku (Ov (KW (hr _) (fun _ _ z=>⟨z,?_⟩) fun _ _ z=>z))
 dsimp only
 refine Ku (LA (La (I:=fun x c st'=>∃ eq,c=(none,x,eq)/\Within st st' l0 q0/\ox rk (Ks st') l0 x/\eq + 1<=x/\∀ k,x - 1 - eq<=k->k < x->R rk (Ks st') (l0 + k)=R rk (Ks st') (l0 + (x - 1)))
  (Q:=fun c st'=>∃ n eq,c=(none,n,eq)/\a0 + 1<=n/\n<=q0/\Within st st' l0 q0/\ox rk (Ks st') l0 n/\eq + 1<=n/\∀ k,n - 1 - eq<=k->k < n->R rk (Ks st') (l0 + k)=R rk (Ks st') (l0 + (n - 1))) ?_ ?_ ⟨0,rfl,.bh,hs,by lia,fun k h1 h2=>by rw[show k=a0 + 1 - 1 by lia]⟩) ?_)
 ·rintro x c st1 hx1 hx2 ⟨eq,rfl,W,d1,e1,ev⟩
  dsimp only
  have hk1:=W.kp.k.trans hk
  have hS1:=hS.kp W.kp
  have sz1:=W.kp.size
  have x1:1<=x:=n_ (JT 1 eq) e1
  have b1:l0 + x < (Ks st1).size:=by lia
  have b2:l0 + x - 1 < (Ks st1).size:=FW (Gu ..) b1
  refine Ku (eL L hk1 hS1 b1 b2 ?_)
  dsimp only
  by_cases w:R rk (Ks st1) (l0 + x) < R rk (Ks st1) (l0 + x - 1)
  ·rw[decide_eq_true w,if_pos rfl]
   have fin:∀ st2,Within st st2 l0 q0->(∀ k,R rk (Ks st2) k=R rk (Ks st1) k)->∃ eq',((none,x + 1,0):Option (Option Nat) × Nat × Nat)=(none,x + 1,eq')/\Within st st2 l0 q0/\ox rk (Ks st2) l0 (x + 1)/\eq' + 1<=x + 1/\∀ k,x + 1 - 1 - eq'<=k->k < x + 1->R rk (Ks st2) (l0 + k)=R rk (Ks st2) (l0 + (x + 1 - 1)):=fun st2 W2 r2=>by
    refine⟨0,rfl,W2,fun i j hij hj=>?_,by lia,fun k h1 h2=>by rw[show k=x + 1 - 1 by lia]⟩
    rw[r2,r2]
    exact d1.snoc x1 (FK w) i j hij hj
   by_cases z:eq > 0
   ·rw[if_pos z]
    refine Ku (jP (rk:=rk) (lo:=l0) (n:=q0) (by lia) (by lia) (by lia) (fun k h1 h2=>?_) fun st2 W2 r2=>KA (fin st2 (W.trans W2) r2))
    have k0:l0<=k:=by lia
    have:=ev (k - l0) (by lia) (BN k0 h2)
    rw[CP k0,tZ x1]at this
    exact this
   rw[if_neg z]
   exact KA (fin st1 W fun _=>rfl)
  rw[decide_eq_false w,if_neg (by simp)]
  refine Ku (eL L hk1 hS1 b2 b1 ?_)
  dsimp only
  by_cases v:R rk (Ks st1) (l0 + x - 1) < R rk (Ks st1) (l0 + x)
  ·rw[decide_eq_true v,if_pos rfl]
   exact KA ⟨x,eq,rfl,hx1,by lia,W,d1,e1,ev⟩
  rw[decide_eq_false v,if_neg (by simp)]
  have ee:R rk (Ks st1) (l0 + x)=R rk (Ks st1) (l0 + x - 1):=JU (FV v) (FV w)
  refine KA ⟨eq + 1,rfl,W,d1.snoc x1 (HK ee),by lia,fun k h1 h2=>?_⟩
  rw[show l0 + (x + 1 - 1)=l0 + x by lia]
  by_cases y:k=x
  ·rw[y]
  have:=ev k (by lia) (by lia)
  rw[tZ x1]at this
  exact this.trans ee.symm
 ·rintro c st1 ⟨eq,rfl,W,d1,e1,ev⟩
  rw[IU h2]at d1 e1 ev ⊢
  exact⟨q0,eq,rfl,h2,e_ _,W,d1,e1,ev⟩
 rintro c st1 ⟨n,eq,rfl,g1,g2,W,d1,e1,ev⟩
 have sz1:=W.kp.size
 dsimp only
 by_cases z:eq > 0
 ·rw[if_pos z]
  refine Ku (jP (rk:=rk) (lo:=l0) (n:=q0) (by lia) (by lia) (by lia) (fun k h1 h2=>?_) fun st2 W2 r2=>?_)
  ·have k0:l0<=k:=by lia
   have:=ev (k - l0) (by lia) (BN k0 h2)
   rw[CP k0,tZ (n_ (JT 1 eq) e1)]at this
   exact this
  refine m9 L ((W.trans W2).kp.k.trans hk) (hS.kp (W.trans W2).kp) (by rw[(W.trans W2).kp.size];exact hsz) (by lia) g2 (fun i j hij hj=>by rw[r2,r2];exact d1 i j hij hj) fun m st3 k1 k2 W3 s3=>h m st3 (by lia) k2 ((W.trans W2).trans W3) s3
 rw[if_neg z]
 exact m9 L (W.kp.k.trans hk) (hS.kp W.kp) (by rw[sz1];exact hsz) (by lia) g2 d1 fun m st3 k1 k2 W3 s3=>h m st3 (by lia) k2 (W.trans W3) s3
theorem oJ{l0 q0:Nat}{st:Kv}{Q:Option Nat->Kv->Prop}(L:bW M A E s kd rk S)(hk:kindOf st=kd)(hS:iK S st)(hsz:l0 + q0<=(Ks st).size)(h1:1<=q0)(hr:∀ x,Kr M A (rule x) (fun _ s'=>s'=s) E s)
  (h:∀ n st',1<=n->n<=q0->Within st st' l0 q0->bp rk (Ks st') l0 n->Q (some n) st'):wpS M A E s (Qx l0 q0) Q st:=by
 rw[DH]
 dsimp only
 refine Ku (LA (La (I:=fun x c st'=>st'=st/\c=(none,x)/\bp rk (Ks st) l0 x) (Q:=fun c st'=>st'=st/\∃ n,c=(none,n)/\1<=n/\n<=q0/\bp rk (Ks st) l0 n/\(n=q0\/R rk (Ks st) (l0 + n) < R rk (Ks st) (l0 + n - 1))) ?_ ?_ ⟨rfl,rfl,fun i j h1 h2=>by rw[show i=j by lia];exact e_ _⟩) ?_)
 ·rintro x c st1 hx1 hx2 ⟨rfl,rfl,s1⟩
  dsimp only
  refine Ku (eL L hk hS (by lia) (by lia) ?_)
  dsimp only
  by_cases w:R rk (Ks st1) (l0 + x) < R rk (Ks st1) (l0 + x - 1)
  ·rw[decide_eq_true w,if_pos rfl]
   exact KA ⟨rfl,x,rfl,hx1,by lia,s1,.inr w⟩
  rw[decide_eq_false w,if_neg (by simp)]
  exact KA ⟨rfl,rfl,s1.snoc (by(clear w s1 h hsz hS hk hx2 hr h1 L;omega)) (by lia)⟩
 ·rintro c st1 ⟨rfl,rfl,s1⟩
  rw[IU h1]at s1 ⊢
  exact⟨rfl,q0,rfl,h1,e_ _,s1,.inl rfl⟩
 rintro c st1 ⟨rfl,n,rfl,g1,g2,g3,g4⟩
 dsimp only
 by_cases e:n=q0
 ·rw[if_pos (by rw[e];exact beq_self_eq_true _)]
  exact KA (h n st1 g1 g2 .bh g3)
 rw[if_neg (by simpa using e)]
 have lt:=g4.resolve_left e
 by_cases z:n > 1
 ·rw[if_pos z]
  refine Ku (eL L hk hS (by lia) (by(clear lt e g4 g3 g1 h hS hk hr h1 L;lia)) ?_)
  dsimp only
  by_cases w:R rk (Ks st1) l0 < R rk (Ks st1) (l0 + n - 1)
  ·rw[decide_eq_true w,if_pos rfl]
   exact KA (h n st1 g1 g2 .bh g3)
  rw[decide_eq_false w,if_neg (by simp)]
  have all:∀ k,l0<=k->k < l0 + n->R rk (Ks st1) k=R rk (Ks st1) (l0 + n - 1):=fun k h1 h2=>by
   have kn:=BN h1 h2
   have a:=g3 0 (k - l0) (B' _) kn
   have b:=g3 (k - l0) (n - 1) (Io kn) (IQ g1 G_)
   rw[CP h1]at a b
   rw[tZ g1]at b
   rw[IV]at a
   exact JU b (n_ (FV w) a)
  refine Ku (jP (rk:=rk) (lo:=l0) (n:=q0) (e_ _) (by(clear all w z lt e g4 g3 g1 h hsz hS hk hr h1 L;lia)) (by(clear all w z lt e g4 g3 g1 h hS hk hr h1 L;lia)) all fun st2 W2 r2=>?_)
  refine lV L (W2.kp.k.trans hk) (hS.kp W2.kp) (by rw[W2.kp.size];exact hsz) (by lia) (fun i j hij hj=>?_) hr fun m st3 k1 k2 W3 s3=>h m st3 k1 k2 (W2.trans W3) s3
  rw[r2,r2]
  by_cases y:j < n
  ·rw[all (l0 + i) (by lia) (by lia),all (l0 + j) (by lia) (by(clear hj hij r2 W2 all w z lt e g4 g3 g2 g1 h hsz hS hk hr h1 L;lia))]
   exact e_ _
  rw[show j=n by lia]
  by_cases y2:i < n
  ·rw[all (l0 + i) (by lia) (by(clear y hj hij r2 W2 all w z lt e g4 g3 g2 g1 h hsz hS hk hr h1 L;lia))];exact FK lt
  rw[show i=n by(clear y r2 W2 all w z lt e g4 g3 g2 g1 h hsz hS hk hr h1 L;lia)];exact e_ _
 rw[if_neg z]
 have n1:n=1:=by lia
 subst n1
 refine lV L hk hS hsz (by lia) (fun i j hij hj=>?_) hr fun m st3 k1 k2 W3 s3=>h m st3 k1 k2 W3 s3
 by_cases y:i=j
 ·rw[y];exact e_ _
 rw[show i=0 by lia,show j=1 by lia]
 exact FK lt
end
noncomputable def wrote(xs:Array Kq)(q:Nat)(ys:Array Kq):Array Kq:=ys.toList.zipIdx.foldl (fun u (p,j)=>u.setIfInBounds (q + j) p) xs
theorem CH(i:Nat):Ow i=(do
 let st <-get
 let (some (s1,n1,pw),some (s2,n2,_)):=((KI st)[i]?,(KI st)[i + 1]?) | unsupported "internal:list.sort.pending"
 set (L_ (kindOf st) (Ks st) (((KI st).setIfInBounds i (s1,n1 + n2,pw)).eraseIdxIfInBounds (i + 1)) (NO st) (Lc st))
 let some k <-gal false (<-Lb (Ks st) s2) (Ks st) s1 n1 0 | return false
 let (s1,n1):=(s1 + k,n1 - k)
 if n1 == 0 then return true
 let some n2 <-gal true (<-Lb (Ks st) (s1 + n1 - 1)) (Ks st) s2 n2 (n2 - 1) | return false
 if n2 == 0 then return true
 let x:=(Ks st).extract s1 s2
 let y:=(Ks st).extract s2 (s2 + n2)
 let mm <-if n1<=n2 then mLo x y else mHi x y
 modify fun z=>setArr z (wrote (Ks z) s1 mm)
 return (Lc (<-get)).isNone):=rfl
theorem lA(q:Nat):∀(l:List Kq) (n:Nat) (xs:Array Kq),q + n + l.length<=xs.size->((l.zipIdx n).foldl (fun u (p,j)=>u.setIfInBounds (q + j) p) xs).toList=xs.toList.take (q + n)++(l++xs.toList.drop (q + n + l.length))
 | [],n,xs,_=>by
  simp
 | p::t,n,xs,h=>by
  rw[k_]at h
  rw[IS,Ij,lA q t (n + 1) _ (by rw[IW];lia),II]
  have hl:q + n < xs.toList.length:=by rw[f_];lia
  rw[show q + (n + 1)=q + n + 1 by lia,Gy,List.take_set_of_le (e_ _),G9 hl,List.drop_set_of_lt (by lia),k_,show q + n + 1 + t.length=q + n + (t.length + 1) by lia]
  simp
theorem rM{xs ys:Array Kq}{q:Nat}(h:q + ys.size<=xs.size):(wrote xs q ys).toList=xs.toList.take q++(ys.toList++xs.toList.drop (q + ys.size)):=by
 have:=lA q ys.toList 0 xs (by rw[f_];exact h)
 rw[f_]at this
 exact this
theorem vL{a b c:List Kq}{i:Nat}(h:a.length=b.length)(hi:a.length<=i):(a++c)[i]?=(b++c)[i]?:=by rw[Gf hi,Gf (by lia),h]
section
variable{rk:Kq->Nat}
theorem sF{xs:Array Kq}{i:Nat}{p:Kq}(h:xs.toList[i]?=some p):R rk xs i=rk p:=by
 unfold R
 rw[<-fk,h]
theorem dF{xs:Array Kq}{lo n:Nat}(h:bp rk xs lo n):Srt rk ((xs.toList.drop lo).take n):=by
 refine HG.mpr fun i j hi hj hij=>?_
 have hj':j < n:=by rw[FO]at hj;lia
 have ei:=b_ hi
 have ej:=b_ hj
 rw[G7,if_pos (by lia),G6]at ei ej
 have:=h i j (by lia) hj'
 rw[sF ei,sF ej]at this
 exact this
theorem nv{l k n:Nat}(h:k<=n):l + k + (n - k)=l + n:=by rw[H0,HA h]
theorem xB{xs:Array Kq}{lo n:Nat}(hn:lo + n<=xs.size)(h:Srt rk ((xs.toList.drop lo).take n)):bp rk xs lo n:=by
 intro i j hij hj
 by_cases e:i=j
 ·rw[e];exact e_ _
 have len:((xs.toList.drop lo).take n).length=n:=by rw[FO,FU,f_];lia
 have hi':i < ((xs.toList.drop lo).take n).length:=by lia
 have hj':j < ((xs.toList.drop lo).take n).length:=by lia
 have:=HG.mp h i j hi' hj' (by lia)
 have ei:=b_ hi'
 have ej:=b_ hj'
 rw[G7,if_pos (by lia),G6]at ei ej
 rw[sF ei,sF ej]
 exact this
theorem qh{xs:Array Kq}{lo n m:Nat}(h1:bp rk xs lo n)(h2:bp rk xs (lo + n) m)(h:∀ i j,i < n->j < m->R rk xs (lo + i)<=R rk xs (lo + n + j)):bp rk xs lo (n + m):=by
 intro i j hij hj
 by_cases z:j < n
 ·exact h1 i j hij z
 by_cases w:i < n
 ·have:=h i (j - n) w (HF (FV z) hj)
  rw[nv (FV z)]at this
  exact this
 have:=h2 (i - n) (j - n) (Jp hij n) (HF (FV z) hj)
 rw[nv (FV z),nv (FV w)]at this
 exact this
theorem gG{T:List Kq}{lo k n:Nat}(h:k<=n):(T.drop lo).take n=(T.drop lo).take k++(T.drop (lo + k)).take (n - k):=by
 conv=>lhs;rw[show n=k + (n - k)from(HA h).symm,IH,HR]
theorem merged{xs r:Array Kq}{lo k n m c:Nat}(hk:k<=n)(hc:c<=m)(hsz:lo + n + m<=xs.size)(o1:bp rk xs lo n)(o2:bp rk xs (lo + n) m)
  (a1:∀ p∈(xs.toList.drop lo).take k,∀ q∈(xs.toList.drop (lo + n)).take m,rk p<=rk q) (a2:∀ p∈(xs.toList.drop lo).take n,∀ q∈(xs.toList.drop (lo + n + c)).take (m - c),rk p<=rk q)
  (hr:Res rk ((xs.toList.drop (lo + k)).take (n - k)) ((xs.toList.drop (lo + n)).take c) r.toList) :
  (wrote xs (lo + k) r).Perm xs/\(∀ i,(i < lo\/lo + n + m<=i)->(wrote xs (lo + k) r)[i]?=xs[i]?)/\bp rk (wrote xs (lo + k) r) lo (n + m):=by
 have lr:r.size=n - k + c:=by
  have:=hr.1.length_eq
  rw[h_,FO,FO,FU,FU,f_,f_]at this
  lia
 have wl:(wrote xs (lo + k) r).toList=xs.toList.take lo++((xs.toList.drop lo).take k++(r.toList++((xs.toList.drop (lo + n + c)).take (m - c)++xs.toList.drop (lo + n + m)))):=by
  rw[rM (by lia),IH,i_,lr,<-H0,nv hk]
  congr 3
  have:=(FL (m - c) (xs.toList.drop (lo + n + c))).symm
  rw[HR,nv hc]at this
  exact this
 have xl:xs.toList=xs.toList.take lo++((xs.toList.drop lo).take k++((xs.toList.drop (lo + k)).take (n - k)++(xs.toList.drop (lo + n)).take c++((xs.toList.drop (lo + n + c)).take (m - c)++xs.toList.drop (lo + n + m)))):=by
  have e1:=(FL lo xs.toList).symm
  have e2:=(FL k (xs.toList.drop lo)).symm
  have e3:=(FL (n - k) (xs.toList.drop (lo + k))).symm
  have e4:=(FL c (xs.toList.drop (lo + n))).symm
  have e5:=(FL (m - c) (xs.toList.drop (lo + n + c))).symm
  rw[HR]at e2 e3 e4 e5
  rw[nv hk]at e3
  rw[nv hc]at e5
  rw[i_,<-e5,<-e4,<-e3,<-e2,<-e1]
 have sz:(wrote xs (lo + k) r).size=xs.size:=by
  have:=congrArg Hu wl
  have h2:=congrArg Hu xl
  have h3:=hr.1.length_eq
  simp only[h_]at this h2 h3
  have e1:=@f_ _ (wrote xs (lo + k) r)
  have e2:=@f_ _ xs
  lia
 have X:(xs.toList.drop lo).take n=(xs.toList.drop lo).take k++(xs.toList.drop (lo + k)).take (n - k):=gG hk
 have Y:(xs.toList.drop (lo + n)).take m=(xs.toList.drop (lo + n)).take c++(xs.toList.drop (lo + n + c)).take (m - c):=gG hc
 have sX:=dF o1
 have sY:=dF o2
 rw[X]at sX
 rw[Y]at sY
 obtain⟨sx1,sx2,sx⟩:=C'.mp sX
 obtain⟨sy1,sy2,sy⟩:=C'.mp sY
 refine⟨GU.mpr ?_,fun i hi=>?_,xB (by lia) ?_⟩
 ·rw[wl]
  conv=>rhs;rw[xl]
  exact FQ _ (FQ _ (Jh _ hr.1))
 ·rw[<-fk,<-fk,wl]
  conv=>rhs;rw[xl]
  have hl1:(xs.toList.take lo).length=lo:=by rw[FO,f_];lia
  rcases hi with hi | hi
  ·rw[Gq (by lia),Gq (by lia)]
  have hl2:((xs.toList.drop lo).take k).length=k:=by rw[FO,FU,f_];lia
  have hl3:r.toList.length=n - k + c:=by rw[f_];exact lr
  have hl4:=hr.1.length_eq
  rw[<-i_,<-i_]
  conv=>rhs;rw[<-i_,<-i_]
  refine vL ?_ ?_
  ·rw[h_,h_,h_,h_,hl4]
  rw[h_,h_,hl1,hl2,hl3];lia
 have hl1:(xs.toList.take lo).length=lo:=by rw[FO,f_];lia
 have e:((wrote xs (lo + k) r).toList.drop lo).take (n + m)=(xs.toList.drop lo).take k++(r.toList++(xs.toList.drop (lo + n + c)).take (m - c)):=by
  rw[wl,List.drop_left' hl1,<-i_,<-i_,List.take_left',i_]
  rw[h_,h_,FO,FO,FU,FU,f_,f_]
  lia
 rw[e]
 have mr:∀ q∈r.toList,q∈(xs.toList.drop (lo + k)).take (n - k)\/q∈(xs.toList.drop (lo + n)).take c:=fun q hq=>FF.mp (hr.1.mem_iff.mp hq)
 refine C'.mpr ⟨sx1,C'.mpr ⟨hr.2,sy2,fun p hp q hq=>?_⟩,fun p hp q hq=>?_⟩
 ·rcases mr p hp with hp | hp
  ·exact a2 p (by rw[X];exact q_ _ hp) q hq
  exact sy p hp q hq
 rcases FF.mp hq with hq | hq
 ·rcases mr q hq with hq | hq
  ·exact sx p hp q hq
  exact a1 p hp q (by rw[Y];exact FN _ hq)
 exact a1 p hp q (by rw[Y];exact q_ _ hq)
end
theorem yV{α:Type}{ps:Array α}{pre post:List α}{x y:α}(h:ps.toList=pre++x::y::post):ps[pre.length]?=some x/\ps[pre.length + 1]?=some y:=by
 rw[<-fk,<-fk,h]
 constructor
 ·rw[Gf (e_ _),Il];rfl
 rw[Gf (by lia),HU];rfl
theorem tX{α:Type}{ps:Array α}{pre post:List α}{x y z:α}(h:ps.toList=pre++x::y::post):((ps.setIfInBounds pre.length z).eraseIdxIfInBounds (pre.length + 1)).toList=pre++z::post:=by
 have hs:ps.size=pre.length + (post.length + 2):=by rw[<-f_,h,h_];rfl
 have hb:pre.length + 1 < (ps.setIfInBounds pre.length z).size:=by rw[IW];lia
 unfold Array.eraseIdxIfInBounds
 rw[dif_pos hb,Array.toList_eraseIdx,II,h]
 rw[List.set_append_right _ _ (e_ _),Il,JA,List.eraseIdx_append_of_length_le (by lia),HU]
 rfl
section
variable{M:Mv}{A:KN}{E:Kj->Km->Prop}{s:Km}{kd:Mh}{rk:Kq->Nat}{S:Kq->Prop}
theorem CF{σ:Type}{v st:σ}{Q:PUnit->σ->Prop}(q:Q ⟨⟩ v):wpS M A E s (set v:StateT σ Sem PUnit) Q st:=by
 unfold wpS
 rw[StateT.run_set]
 exact Ko ⟨rfl,q⟩
structure Mgd (rk:Kq->Nat) (st st':Kv) (lo n:Nat) (ps:List (Nat × Nat × Nat)):Prop where
 k:kindOf st'=kindOf st
 f:Lc st'=none
 p:(KI st').toList=ps
 a:(Ks st').Perm (Ks st)
 out:∀ i,(i < lo\/lo + n<=i)->(Ks st')[i]?=(Ks st)[i]?
 srt:bp rk (Ks st') lo n
theorem Cn{pre post:List (Nat × Nat × Nat)}{s1 n1 pw n2 p2:Nat}{st:Kv}{Q:Bool->Kv->Prop}(L:bW M A E s kd rk S)(hk:kindOf st=kd)(hS:iK S st)(hf:Lc st=none)(hr:∀ x,Kr M A (rule x) (fun _ s'=>s'=s) E s)
  (hp:(KI st).toList=pre++(s1,n1,pw)::(s1 + n1,n2,p2)::post) (h1:1<=n1) (h2:1<=n2) (hsz:s1 + n1 + n2<=(Ks st).size) (o1:bp rk (Ks st) s1 n1) (o2:bp rk (Ks st) (s1 + n1) n2)
  (h:∀ st',Mgd rk st st' s1 (n1 + n2) (pre++(s1,n1 + n2,pw)::post)->Q true st'):wpS M A E s (Ow pre.length) Q st:=by
 rw[CH]
 refine Ku (MP ?_)
 dsimp only
 obtain⟨e1,e2⟩:=yV hp
 rw[e1,e2]
 dsimp only
 refine Ku (CF ?_)
 generalize hst1:L_ (kindOf st) (Ks st) (((KI st).setIfInBounds pre.length (s1,n1 + n2,pw)).eraseIdxIfInBounds (pre.length + 1)) (NO st) (Lc st)=st1
 have k1:kindOf st1=kd:=by rw[<-hst1];exact hk
 have a1:Ks st1=Ks st:=by rw[<-hst1]
 have f1:Lc st1=none:=by rw[<-hst1];exact hf
 have p1:(KI st1).toList=pre++(s1,n1 + n2,pw)::post:=by rw[<-hst1];exact tX hp
 have SA:∀(i:Nat) p,(Ks st)[i]?=some p->S p:=fun i p e=>hS.at e
 have gt:∀ i,i < (Ks st).size->∃ p,(Ks st)[i]?=some p:=fun i hi=>⟨_,gV hi⟩
 have RR:∀ {i:Nat} {p:Kq},(Ks st)[i]?=some p->R rk (Ks st) i=rk p:=fun{i p} e=>by unfold R;rw[e]
 obtain⟨ky,hky⟩:=gt (s1 + n1) (by lia)
 have eB:bp rk (Ks st) s1 (n1 + n2)->Q true st1:=fun z=>h st1 ⟨k1.trans hk.symm,f1,p1,by rw[a1],fun i _=>by rw[a1],by rw[a1];exact z⟩
 refine Ku (aG hky (Ku (eK L k1 (by lia) (by lia) SA (SA _ _ hky) (fun i j p q hij hj hp hq=>?_) fun k hk1 g1 g2=>?_)))
 ·have:=o1 i j hij hj
  rw[RR hp,RR hq]at this
  exact this
 dsimp only
 have below:∀ i,i < k->∀ j,j < n2->R rk (Ks st) (s1 + i)<=R rk (Ks st) (s1 + n1 + j):=fun i hi j hj=>by
  obtain⟨p,hp⟩:=gt (s1 + i) (by lia)
  have a:=g1 i p hi hp
  rw[if_neg (by simp)]at a
  have b:=o2 0 j (B' _) hj
  rw[IV,RR hky]at b
  rw[RR hp]
  exact n_ a b
 by_cases z:n1 - k=0
 ·rw[if_pos (by rw[z];rfl)]
  exact KA (eB (qh o1 o2 fun i j hi hj=>below i (by lia) j hj))
 rw[if_neg (by simpa using z)]
 obtain⟨la,hla⟩:=gt (s1 + n1 - 1) (by lia)
 rw[nv hk1]
 refine Ku (aG hla (Ku (eK L k1 (by lia) (by omega) SA (SA _ _ hla) (fun i j p q hij hj hp hq=>?_) fun c hc1 d1 d2=>?_)))
 ·have:=o2 i j hij hj
  rw[RR hp,RR hq]at this
  exact this
 dsimp only
 have above:∀ i,i < n1->∀ j,c<=j->j < n2->R rk (Ks st) (s1 + i)<=R rk (Ks st) (s1 + n1 + j):=fun i hi j hj hj2=>by
  obtain⟨p,hp⟩:=gt (s1 + n1 + j) (by lia)
  have a:=d2 j p hj hj2 hp
  rw[if_pos rfl]at a
  have hn1:1<=n1:=by lia
  have b:=o1 i (n1 - 1) (by lia) (IQ hn1 G_)
  rw[tZ hn1,RR hla]at b
  rw[RR hp]
  exact n_ b a
 by_cases w:c=0
 ·rw[if_pos (by rw[w];rfl)]
  exact KA (eB (qh o1 o2 fun i j hi hj=>above i hi j (by lia) hj))
 rw[if_neg (by simpa using w)]
 have ex:((Ks st).extract (s1 + k) (s1 + n1)).toList=((Ks st).toList.drop (s1 + k)).take (n1 - k):=by
  have:=gK (Ks st) (s1 + k) (n1 - k)
  rw[nv hk1]at this
  exact this
 have ey:=gK (Ks st) (s1 + n1) c
 have zx:((Ks st).extract (s1 + k) (s1 + n1)).size=n1 - k:=by rw[JB];lia
 have zy:((Ks st).extract (s1 + n1) (s1 + n1 + c)).size=c:=by rw[JB];lia
 have T2:∀ {i:Nat} {p:Kq},(Ks st).toList[i]?=some p->(Ks st)[i]?=some p:=fun{i p} e=>by rw[fk]at e;exact e
 have sX:=dF o1
 have sY:=dF o2
 rw[gG hk1]at sX
 rw[gG hc1]at sY
 have H:LoOk rk S ((Ks st).extract (s1 + k) (s1 + n1)) ((Ks st).extract (s1 + n1) (s1 + n1 + c)):=by
  refine⟨by rw[ex];exact(C'.mp sX).2.1,by rw[ey];exact(C'.mp sY).1,fun i p e=>?_,fun i p e=>?_,by lia,by lia,fun p e u hu=>?_,fun p e u hu=>?_⟩
  ·rw[G']at e
   split at e
   ·exact SA _ _ e
   cases e
  ·rw[G']at e
   split at e
   ·exact SA _ _ e
   cases e
  ·rw[G',if_pos (by lia),IV,hky]at e
   cases e
   rw[ex]at hu
   obtain⟨j,hj,ej⟩:=bM hu
   have:=g2 (k + j) u (by lia) (by lia) (by rw[<-H0];exact T2 ej)
   rw[if_neg (by simp)]at this
   exact FK this
  rw[zx,G',if_pos (by lia),show s1 + k + (n1 - k - 1)=s1 + n1 - 1 by lia,hla]at e
  cases e
  rw[ey]at hu
  obtain⟨j,hj,ej⟩:=bM hu
  have:=d1 j u hj (T2 ej)
  rw[if_pos rfl]at this
  exact FK this
 have fin:∀ r st2,Keep st1 st2->Res rk ((Ks st).extract (s1 + k) (s1 + n1)).toList ((Ks st).extract (s1 + n1) (s1 + n1 + c)).toList r.toList->wpS M A E s (do
   modify fun z=>setArr z (wrote (Ks z) (s1 + k) r)
   let g <-get
   pure (Lc g).isNone:StateT Kv Sem Bool) Q st2:=fun r st2 K hres=>by
  rw[ex,ey]at hres
  refine Ku (Nd (Ku (MP (KA ?_))))
  have hf2:Lc st2=none:=K.f.trans f1
  have aa:Ks st2=Ks st:=K.a.trans a1
  have q1:∀ p∈((Ks st).toList.drop s1).take k,∀ q∈((Ks st).toList.drop (s1 + n1)).take n2,rk p<=rk q:=fun p hp q hq=>by
   obtain⟨i,hi,ei⟩:=bM hp
   obtain⟨j,hj,ej⟩:=bM hq
   have:=below i hi j hj
   rw[RR (T2 ei),RR (T2 ej)]at this
   exact this
  have q2:∀ p∈((Ks st).toList.drop s1).take n1,∀ q∈((Ks st).toList.drop (s1 + n1 + c)).take (n2 - c),rk p<=rk q:=fun p hp q hq=>by
   obtain⟨i,hi,ei⟩:=bM hp
   obtain⟨j,hj,ej⟩:=bM hq
   have:=above i hi (c + j) (by lia) (by lia)
   rw[<-H0,RR (T2 ei),RR (T2 ej)]at this
   exact this
  obtain⟨m1,m2,m3⟩:=merged (rk:=rk) (xs:=Ks st) (r:=r) (lo:=s1) (k:=k) (n:=n1) (m:=n2) (c:=c) hk1 hc1 (by omega) o1 o2 q1 q2 hres
  rw[show(Lc (setArr st2 (wrote (Ks st2) (s1 + k) r))).isNone=true by show(Lc st2).isNone=true;rw[hf2];rfl]
  refine h _ ⟨K.k.trans (k1.trans hk.symm),hf2,?_,?_,fun i hi=>?_,?_⟩
  ·show(KI st2).toList=_
   rw[K.p]
   exact p1
  ·show(wrote (Ks st2) (s1 + k) r).Perm _
   rw[aa]
   exact m1
  ·show(wrote (Ks st2) (s1 + k) r)[i]?=_
   rw[aa]
   exact m2 i (by lia)
  show bp rk (wrote (Ks st2) (s1 + k) r) _ _
  rw[aa]
  exact m3
 by_cases v:n1 - k<=c
 ·rw[if_pos v]
  exact Ku (D6 L H k1 fin hr)
 rw[if_neg v]
 exact Ku (BS L H k1 fin hr)
end
abbrev CS:=Option Unit × Unit
abbrev LS:=Option Unit × Nat
noncomputable def js(w0:Nat):StateT Kv Sem (ForInStep CS):=do
 let g <-get
 match(if(KI g).size > 1 then(KI g)[(KI g).size - 2]? else none)with
 | some (_,_,old)=>
  if old<=w0 then pure (Kx (none,()))
  else do
   let b <-Ow ((KI g).size - 2)
   if(!b)=true then pure (Kx (some (),()))else pure (KL (none,()))
 | _=>pure (Kx (none,()))
noncomputable def mO(q0 n:Nat):StateT Kv Sem (ForInStep LS):=do
 modify fun z=>setPending z ((KI z).push (q0,n,0))
 pure (KL (none,q0 + n))
noncomputable def tl(sz q0 n:Nat):StateT Kv Sem (ForInStep LS):=do
 let g <-get
 match(KI g).back? with
 | some (s1,n1,_)=>do
  let c <-forIn [0:sz] ((none,()):CS) fun _ _=>js (power' sz (2 * s1 + n1) (2 * s1 + n1 + n1 + n) sz)
  match c.1 with
  | some r=>pure (Kx (some r,q0))
  | none=>do
   modify fun z=>setPending z ((KI z).modify ((KI z).size - 1) fun x=>(x.1,x.2.1,power' sz (2 * s1 + n1) (2 * s1 + n1 + n1 + n) sz))
   mO q0 n
 | _=>mO q0 n
noncomputable def fV(sz q0:Nat):StateT Kv Sem (ForInStep LS):=
 if q0>=sz then pure (Kx (none,q0))else do
  let f <-Qx q0 (sz - q0)
  match f with
  | some n=>
   if n < O1 sz sz 0 then do
    rule "list.sort.binary-insertion"
    let b <-RO q0 (min (sz - q0) (O1 sz sz 0)) n
    if(!b)=true then pure (Kx (some (),q0))else tl sz q0 (min (sz - q0) (O1 sz sz 0))
   else tl sz q0 n
  | _=>pure (Kx (some (),q0))
noncomputable def pick(ps:Array (Nat × Nat × Nat)):Nat:=
 if Kf (fun x=>decide (x < ps[ps.size - 2 + 1]?.elim 0 fun y=>y.2.1)) (if ps.size - 2 > 0 then G8 (fun y=>y.2.1) ps[ps.size - 2 - 1]? else none)=true then ps.size - 2 - 1 else ps.size - 2
noncomputable def t6:StateT Kv Sem (ForInStep CS):=do
 let g <-get
 if(KI g).size<=1 then pure (Kx (none,()))
 else do
  let b <-Ow (pick (KI g))
  if(!b)=true then pure (Kx (some (),()))else pure (KL (none,()))
theorem Em:sortRuns'=(do
 let g <-get
 let c <-forIn [0:(Ks g).size] ((none,0):LS) fun _ c=>fV (Ks g).size c.2
 match c.1 with
 | some r=>pure r
 | none=>do
  let d <-forIn [0:(Ks g).size] ((none,()):CS) fun _ _=>t6
  match d.1 with
  | some r=>pure r
  | none=>pure ()):=by
 rw[sortRuns'_eq]
 dsimp only
 refine congrArg (bind get) (funext fun g=>?_)
 refine congr (congrArg bind ?_) (funext fun c=>?_)
 ·refine congrArg (forIn _ _) (funext fun _=>funext fun c=>?_)
  unfold fV
  refine ite_congr rfl (fun _=>rfl) (fun _=>?_)
  refine congrArg (bind _) (funext fun f=>?_)
  cases f with
  | none=>rfl
  | some n=>
   dsimp only
   refine ite_congr rfl (fun _=>congrArg (bind _) (funext fun _=>congrArg (bind _) (funext fun b=>ite_congr rfl (fun _=>rfl) (fun _=>?_)))) (fun _=>?_)
   all_goals
    unfold tl
    refine congrArg (bind _) (funext fun g=>?_)
    generalize (KI g).back?=bk
    rcases bk with _ | ⟨s1,n1,z⟩
    ·rfl
    dsimp only
    refine congr (congrArg bind ?_) (funext fun c=>?_)
    ·refine congrArg (forIn _ _) (funext fun _=>funext fun c=>?_)
     unfold js
     refine congrArg (bind _) (funext fun g=>?_)
     generalize (if(KI g).size > 1 then(KI g)[(KI g).size - 2]? else none)=o
     rcases o with _ | ⟨_,_,_⟩ <;> rfl
    rcases c with⟨_ | _,_⟩ <;> rfl
 rcases c with⟨_ | _,_⟩
 ·dsimp only
  refine congr (congrArg bind ?_) (funext fun c=>?_)
  ·rfl
  rcases c with⟨_ | _,_⟩ <;> rfl
 rfl
noncomputable def Pd(rk:Kq->Nat)(xs:Array Kq):List (Nat × Nat × Nat)->Nat->Nat->Prop
 | [],a,b=>a=b
 | (c,n,_)::t,a,b=>c=a/\1<=n/\bp rk xs c n/\Pd rk xs t (a + n) b
section
variable{rk:Kq->Nat}
theorem Pd.le {xs:Array Kq}:∀ {l:List (Nat × Nat × Nat)} {a b:Nat},Pd rk xs l a b->a + l.length<=b
 | [],_,_,h=>HK h
 | (c,n,_)::t,a,b,h=>by
  have:=h.2.2.2.le
  have:=h.2.1
  rw[k_]
  lia
theorem Pd.congr {xs ys:Array Kq}:∀ {l:List (Nat × Nat × Nat)} {a b:Nat},Pd rk xs l a b->(∀ i,a<=i->i < b->R rk ys i=R rk xs i)->Pd rk ys l a b
 | [],_,_,h,_=>h
 | (c,n,_)::t,a,b,h,e=>by
  have le:=h.2.2.2.le
  have ca:=h.1
  refine⟨h.1,h.2.1,fun i j hij hj=>?_,h.2.2.2.congr fun i h1 h2=>e i (by lia) h2⟩
  rw[e _ (by lia) (by lia),e _ (by lia) (by lia)]
  exact h.2.2.1 i j hij hj
theorem cV{xs:Array Kq}:∀ {l m:List (Nat × Nat × Nat)} {a b:Nat},Pd rk xs (l++m) a b↔∃ c,Pd rk xs l a c/\Pd rk xs m c b
 | [],m,a,b=>⟨fun h=>⟨a,rfl,h⟩,fun⟨c,e,h⟩=>by cases (show a=c from e);exact h⟩
 | (c,n,_)::t,m,a,b=>⟨fun h=>by
   obtain⟨d,h1,h2⟩:=cV.mp h.2.2.2
   exact⟨d,⟨h.1,h.2.1,h.2.2.1,h1⟩,h2⟩,fun⟨d,h,h2⟩=>⟨h.1,h.2.1,h.2.2.1,cV.mpr ⟨d,h.2.2.2,h2⟩⟩⟩
theorem Pd.modify {xs:Array Kq}{w0:Nat}:∀ {l:List (Nat × Nat × Nat)} {i a b:Nat},Pd rk xs l a b->Pd rk xs (l.modify i fun x=>(x.1,x.2.1,w0)) a b
 | [],i,_,_,h=>by cases i <;> exact h
 | (c,n,_)::t,0,a,b,h=>⟨h.1,h.2.1,h.2.2.1,h.2.2.2⟩
 | (c,n,_)::t,i + 1,a,b,h=>⟨h.1,h.2.1,h.2.2.1,h.2.2.2.modify⟩
theorem mG{α:Type}:∀ {l:List α} {i:Nat},i + 1 < l.length->∃ pre x y post,l=pre++x::y::post/\pre.length=i
 | x::y::t,0,_=>⟨[],x,y,t,rfl,rfl⟩
 | [_],0,h=>absurd h (by simp)
 | x::t,i + 1,h=>by
  obtain⟨p,a,b,q,e,f⟩:=mG (l:=t) (i:=i) (by rw[k_]at h;lia)
  exact⟨x::p,a,b,q,by rw[e];rfl,by rw[k_,f]⟩
 | [],_,h=>absurd h (by simp)
end
section
variable{M:Mv}{A:KN}{E:Kj->Km->Prop}{s:Km}{kd:Mh}{rk:Kq->Nat}{S:Kq->Prop}{a0:Array Kq}
structure Iv (kd:Mh) (rk:Kq->Nat) (a0:Array Kq) (q0:Nat) (st:Kv):Prop where
 k:kindOf st=kd
 f:Lc st=none
 a:(Ks st).Perm a0
 pd:Pd rk (Ks st) (KI st).toList 0 q0
theorem Iv.all {q0:Nat}{st:Kv}(h:Iv kd rk a0 q0 st)(hS:∀ p∈a0.toList,S p):iK S st:=fun p hp=>hS p ((GU.mp h.a).mem_iff.mp hp)
theorem pq{q0 i:Nat}{st:Kv}{Q:Bool->Kv->Prop}(L:bW M A E s kd rk S)(hS:∀ p∈a0.toList,S p)(hr:∀ x,Kr M A (rule x) (fun _ s'=>s'=s) E s)(I:Iv kd rk a0 q0 st)(hq:q0<=a0.size)(hi:i + 1 < (KI st).size)
  (h:∀ st',Iv kd rk a0 q0 st'->(KI st').size + 1=(KI st).size->(∀ j,q0<=j->(Ks st')[j]?=(Ks st)[j]?)->Q true st'):wpS M A E s (Ow i) Q st:=by
 obtain⟨pre,⟨s1,n1,pw⟩,⟨s2,n2,p2⟩,post,e,el⟩:=mG (l:=(KI st).toList) (i:=i) (by rw[f_];exact hi)
 subst el
 have P:=I.pd
 rw[e]at P
 obtain⟨c,P1,e1,k1,o1,e2,k2,o2,P3⟩:=cV.mp P
 subst e1
 subst e2
 have le:=P3.le
 have sz:=I.a.size_eq
 refine Cn L I.k (I.all hS) I.f hr e k1 k2 (by lia) o1 o2 fun st' m=>?_
 have same:∀ j,(j < s1\/s1 + n1 + n2<=j)->R rk (Ks st') j=R rk (Ks st) j:=fun j hj=>bZ (m.out j (by lia))
 refine h st' ⟨m.k.trans I.k,m.f,m.a.trans I.a,?_⟩ ?_ fun j hj=>m.out j (by lia)
 ·rw[m.p]
  refine cV.mpr ⟨s1,P1.congr fun j _ hj=>same j (by lia),rfl,by lia,m.srt,?_⟩
  rw[<-H0]
  exact P3.congr fun j hj _=>same j (by lia)
 rw[<-f_,<-f_,m.p,e]
 simp only[h_,k_]
 lia
theorem qY{q0 w0:Nat}{st:Kv}{Q:ForInStep CS->Kv->Prop}(L:bW M A E s kd rk S)(hS:∀ p∈a0.toList,S p)(hr:∀ x,Kr M A (rule x) (fun _ s'=>s'=s) E s)(I:Iv kd rk a0 q0 st)(hq:q0<=a0.size)
  (h:∀ st' (d:Bool),Iv kd rk a0 q0 st'->(∀ j,q0<=j->(Ks st')[j]?=(Ks st)[j]?)->Q (if d=true then Kx (none,())else KL (none,())) st'):wpS M A E s (js w0) Q st:=by
 unfold js
 refine Ku (MP ?_)
 generalize ho:(if(KI st).size > 1 then(KI st)[(KI st).size - 2]? else none)=o
 rcases o with _ | ⟨x,y,old⟩
 ·exact KA (h st true I fun _ _=>rfl)
 dsimp only
 have h1:(KI st).size > 1:=by
  by_cases z:(KI st).size > 1
  ·exact z
  rw[if_neg z]at ho;cases ho
 by_cases w:old<=w0
 ·rw[if_pos w]
  exact KA (h st true I fun _ _=>rfl)
 rw[if_neg w]
 refine Ku (pq L hS hr I hq (by lia) fun st' I' _ e=>?_)
 rw[if_neg (by simp)]
 exact KA (h st' false I' e)
theorem lF{q0 n:Nat}{st:Kv}{Q:ForInStep LS->Kv->Prop}(I:Iv kd rk a0 q0 st)(hn:1<=n)(o:bp rk (Ks st) q0 n)(h:∀ st',Iv kd rk a0 (q0 + n) st'->Q (KL (none,q0 + n)) st'):wpS M A E s (mO q0 n) Q st:=by
 unfold mO
 refine Ku (Nd (KA (h _ ⟨I.k,I.f,I.a,?_⟩)))
 show Pd rk (Ks st) ((KI st).push (q0,n,0)).toList 0 (q0 + n)
 rw[Gx]
 exact cV.mpr ⟨q0,I.pd,rfl,hn,o,rfl⟩
theorem AQ{q0 n:Nat}{st:Kv}{Q:ForInStep LS->Kv->Prop}(L:bW M A E s kd rk S)(hS:∀ p∈a0.toList,S p)(hr:∀ x,Kr M A (rule x) (fun _ s'=>s'=s) E s)(I:Iv kd rk a0 q0 st)(hq:q0<=a0.size)(hn:1<=n)(o:bp rk (Ks st) q0 n)
  (h:∀ st',Iv kd rk a0 (q0 + n) st'->Q (KL (none,q0 + n)) st'):wpS M A E s (tl a0.size q0 n) Q st:=by
 unfold tl
 refine Ku (MP ?_)
 generalize (KI st).back?=bk
 rcases bk with _ | ⟨s1,n1,z⟩
 ·exact lF I hn o h
 dsimp only
 generalize power' a0.size (2 * s1 + n1) (2 * s1 + n1 + n1 + n) a0.size=w0
 refine Ku (LA (La (I:=fun _ c st'=>c=(none,())/\Iv kd rk a0 q0 st'/\∀ j,q0<=j->(Ks st')[j]?=(Ks st)[j]?) (Q:=fun c st'=>c=(none,())/\Iv kd rk a0 q0 st'/\∀ j,q0<=j->(Ks st')[j]?=(Ks st)[j]?) ?_ (fun _ _ z=>z) ⟨rfl,I,fun _ _=>rfl⟩) ?_)
 ·rintro x c st1 _ _ ⟨rfl,I1,e1⟩
  refine qY L hS hr I1 hq fun st2 d I2 e2=>?_
  cases d
  ·exact⟨rfl,I2,fun j hj=>(e2 j hj).trans (e1 j hj)⟩
  exact⟨rfl,I2,fun j hj=>(e2 j hj).trans (e1 j hj)⟩
 rintro c st1 ⟨rfl,I1,e1⟩
 dsimp only
 refine Ku (Nd ?_)
 refine lF ⟨I1.k,I1.f,I1.a,?_⟩ hn (fun i j hij hj=>?_) h
 ·show Pd rk (Ks st1) ((KI st1).modify ((KI st1).size - 1) fun x=>(x.1,x.2.1,w0)).toList 0 q0
  rw[Array.toList_modify]
  exact I1.pd.modify
 show R rk (Ks st1) (q0 + i)<=R rk (Ks st1) (q0 + j)
 rw[bZ (rk:=rk) (e1 (q0 + i) (by lia)),bZ (rk:=rk) (e1 (q0 + j) (by lia))]
 exact o i j hij hj
theorem Iv.within {q0 n:Nat}{st st':Kv}(I:Iv kd rk a0 q0 st)(W:Within st st' q0 n):Iv kd rk a0 q0 st':=⟨W.kp.k.trans I.k,W.kp.f.trans I.f,W.kp.a.trans I.a,by
 rw[W.kp.p]
 exact I.pd.congr fun i _ hi=>bZ (W.out i (.inl hi))⟩
theorem pR{q0:Nat}{st:Kv}{Q:ForInStep LS->Kv->Prop}(L:bW M A E s kd rk S)(hS:∀ p∈a0.toList,S p)(hr:∀ x,Kr M A (rule x) (fun _ s'=>s'=s) E s)(I:Iv kd rk a0 q0 st)(hq:q0<=a0.size)
  (h1:q0=a0.size->Q (Kx (none,q0)) st) (h2:∀ n st',1<=n->q0 + n<=a0.size->Iv kd rk a0 (q0 + n) st'->Q (KL (none,q0 + n)) st'):wpS M A E s (fV a0.size q0) Q st:=by
 unfold fV
 by_cases z:q0>=a0.size
 ·rw[if_pos z]
  exact KA (h1 (by lia))
 rw[if_neg z]
 have qz:=FK (IT z)
 have sz:=I.a.size_eq
 refine Ku (oJ L I.k (I.all hS) (by lia) (by lia) hr fun n st1 g1 g2 W1 o1=>?_)
 dsimp only
 have I1:=I.within W1
 by_cases w:n < O1 a0.size a0.size 0
 ·rw[if_pos w]
  generalize O1 a0.size a0.size 0=mr at w ⊢
  refine Ku (Ov (KW (hr _) (fun _ _ z=>⟨z,?_⟩) fun _ _ z=>z))
  have sz1:=I1.a.size_eq
  have f1:n<=min (a0.size - q0) mr:=Nat.le_min.mpr ⟨g2,FK w⟩
  have f4:q0 + min (a0.size - q0) mr<=a0.size:=n_ (Hw (Nat.min_le_left ..) q0) (HK (HA qz))
  have f5:=n_ g1 f1
  generalize min (a0.size - q0) mr=fr at f1 f4 f5 ⊢
  refine Ku (yx L I1.k (I1.all hS) (by rw[sz1];exact f4) f1 o1 fun st2 W2 o2=>?_)
  rw[if_neg (by simp)]
  exact AQ L hS hr (I1.within W2) hq f5 o2 fun st3 I3=>h2 _ st3 f5 f4 I3
 rw[if_neg w]
 exact AQ L hS hr I1 hq g1 o1 fun st3 I3=>h2 _ st3 g1 (by lia) I3
theorem zo{ps:Array (Nat × Nat × Nat)}(h:1 < ps.size):pick ps + 1 < ps.size:=by
 unfold pick
 generalize Kf (fun x=>decide (x < ps[ps.size - 2 + 1]?.elim 0 fun y=>y.2.1)) (if ps.size - 2 > 0 then G8 (fun y=>y.2.1) ps[ps.size - 2 - 1]? else none)=b
 cases b
 ·rw[if_neg (by simp)];lia
 rw[if_pos rfl];lia
theorem oh{st:Kv}{Q:Unit->Kv->Prop}(L:bW M A E s kd rk S)(hS:∀ p∈(Ks st).toList,S p)(hr:∀ x,Kr M A (rule x) (fun _ s'=>s'=s) E s)(hk:kindOf st=kd)(hf:Lc st=none)(hp:KI st=#[])
  (h:∀ st',(Ks st').Perm (Ks st)->Lc st'=none->Srt rk (Ks st').toList->Q () st'):wpS M A E s sortRuns' Q st:=by
 rw[Em]
 refine Ku (MP ?_)
 have I0:Iv kd rk (Ks st) 0 st:=⟨hk,hf,Je _,by rw[hp];exact rfl⟩
 revert I0 hS h
 generalize Ks st=a0
 intro hS h I0
 refine Ku (LA (La (I:=fun x c st'=>∃ q0,c=(none,q0)/\x<=q0/\q0<=a0.size/\Iv kd rk a0 q0 st') (Q:=fun c st'=>c=(none,a0.size)/\Iv kd rk a0 a0.size st') ?_ ?_ ⟨0,rfl,e_ _,B' _,I0⟩) ?_)
 ·rintro x c st1 _ _ ⟨q0,rfl,g1,g2,I⟩
  exact pR L hS hr I g2 (fun e=>by subst e;exact⟨rfl,I⟩) fun n st2 k1 k2 I2=>⟨q0 + n,rfl,by lia,k2,I2⟩
 ·rintro c st1 ⟨q0,rfl,g1,g2,I⟩
  have e:q0=a0.size:=by lia
  subst e
  exact⟨rfl,I⟩
 rintro c st1 ⟨rfl,I1⟩
 dsimp only
 refine Ku (LA (La (I:=fun x c st'=>c=(none,())/\Iv kd rk a0 a0.size st'/\((KI st').size<=1\/(KI st').size + x<=a0.size)) (Q:=fun c st'=>c=(none,())/\Iv kd rk a0 a0.size st'/\(KI st').size<=1) ?_ ?_ ⟨rfl,I1,.inr ?_⟩) ?_)
 ·rintro x c st2 _ _ ⟨rfl,I2,g⟩
  unfold t6
  refine Ku (MP ?_)
  by_cases z:(KI st2).size<=1
  ·rw[if_pos z]
   exact KA ⟨rfl,I2,z⟩
  rw[if_neg z]
  refine Ku (pq L hS hr I2 (e_ _) (zo (by lia)) fun st3 I3 e _=>?_)
  rw[if_neg (by simp)]
  exact KA ⟨rfl,I3,.inr (by lia)⟩
 ·rintro c st2 ⟨rfl,I2,g⟩
  exact⟨rfl,I2,by lia⟩
 ·have:=I1.pd.le
  rw[f_]at this
  lia
 rintro c st2 ⟨rfl,I2,g⟩
 refine KA (h st2 I2.a I2.f ?_)
 have P:=I2.pd
 have sz:=I2.a.size_eq
 have lp:(KI st2).toList.length<=1:=by rw[f_];exact g
 have o:bp rk (Ks st2) 0 a0.size:=by
  generalize (KI st2).toList=l at P lp
  match l,P,lp with
  | [],P,_=>
   have e:0=a0.size:=P
   intro i j _ hj
   lia
  | [(c,n,_)],P,_=>
   obtain⟨e1,_,o,e2⟩:=P
   have e2:0 + n=a0.size:=e2
   subst e1
   rw[<-e2,HN]
   exact o
  | _::_::_,_,lp=>simp at lp
 have:=dF o
 rw[HS,Gj (by rw[f_];lia)]at this
 exact this
end
section
variable{κ:Type}{lt:κ->κ->Bool}
def rnk(lt:κ->κ->Bool)(ks:List κ)(k:κ):Nat:=ks.countP fun y=>lt y k
theorem count_le{p q:κ->Bool}:∀ {l:List κ},(∀ x∈l,p x=true->q x=true)->l.countP p<=l.countP q
 | [],_=>e_ _
 | x::t,h=>by
  have ih:=count_le (l:=t) fun y hy=>h y (.tail _ hy)
  have hx:=h x (.head _)
  rw[Ib,Ib]
  cases e:p x
  ·rw[if_neg (by simp)];lia
  rw[hx e,if_pos rfl];lia
theorem oP{p q:κ->Bool}:∀ {l:List κ} {z:κ},(∀ x∈l,p x=true->q x=true)->z∈l->p z=false->q z=true->l.countP p < l.countP q
 | x::t,z,h,hz,h1,h2=>by
  have ih:=count_le (l:=t) fun y hy=>h y (.tail _ hy)
  have hx:=h x (.head _)
  rw[Ib,Ib]
  rcases t_.mp hz with e | e
  ·subst e
   rw[h1,h2,if_neg (by simp),if_pos rfl];lia
  have:=oP (l:=t) (fun y hy=>h y (.tail _ hy)) e h1 h2
  cases e:p x
  ·rw[if_neg (by simp)];lia
  rw[hx e,if_pos rfl];lia
structure Tot (lt:κ->κ->Bool):Prop where
 irr:∀ a,lt a a=false
 tr:∀ a b c,lt a b=true->lt b c=true->lt a c=true
 tot:∀ a b,lt a b=false->lt b a=false->a=b
theorem Bg(T:Tot lt){ks:List κ}{a b:κ}(h:lt b a=false):rnk lt ks a<=rnk lt ks b:=by
 refine count_le fun y _ hy=>?_
 cases e:lt a b
 ·rw[<-T.tot a b e h];exact hy
 exact T.tr _ _ _ hy e
theorem vH(T:Tot lt){ks:List κ}{a b:κ}(ha:a∈ks)(h:lt a b=true):rnk lt ks a < rnk lt ks b:=oP (fun y _ hy=>T.tr _ _ _ hy h) ha (T.irr a) h
theorem Ah(T:Tot lt){ks:List κ}{a b:κ}(ha:a∈ks):decide (rnk lt ks a < rnk lt ks b)=lt a b:=by
 cases e:lt a b
 ·exact decide_eq_false (Kg.mpr (Bg T e))
 exact decide_eq_true (vH T ha e)
end
noncomputable def ltL:List Int->List Int->Bool
 | _,[]=>false
 | [],_::_=>true
 | a::x,b::y=>if a=b then ltL x y else decide (a < b)
def cF:Kj->Int
 | .int i _=>i
 | _=>0
def AllInt(l:List Kj):Prop:=∀ v∈l,∃ i t,v=.int i t
section
variable{prog:Kz}{w:KD}{A:KN}{E:Kj->Km->Prop}{s:Km}
theorem k6(vs:List Kj):(vs.toArray.zip vs.toArray).toList=vs.map fun v=>(v,v):=by
 rw[Array.toList_zip]
 induction vs with
 | nil=>rfl
 | cons v r ih=>exact congrArg ((v,v)::·) ih
theorem uF{a:Kl}{vs:List Kj}{n:Nat}{kd:Mh}{rk:Kq->Nat}{S:Kq->Prop}{P:PySem.Fin->Km->Prop}(ho:s.heap.get? a=some (L0 "list" vs.toArray n))(hz:vs.length<=sizeLine)(hS:∀ v∈vs,S (v,v))
  (kind:∀ h',(∀ b o,b≠a->s.heap.get? b=some o->h'.get? b=some o)->∀ {Q:Mh->Km->Prop},vs≠[]->Q kd { s with heap:=h' }->Kr (Kw prog w) A (Rv vs.toArray) Q E { s with heap:=h' })
  (lt:∀ h',(∀ b o,b≠a->s.heap.get? b=some o->h'.get? b=some o)->bW (Kw prog w) A E { s with heap:=h' } kd rk S)
  (h:∀(o:List Kj) c h',o.Perm vs->o.Pairwise (fun x y=>rk (x,x)<=rk (y,y))->(∀ b u,b≠a->s.heap.get? b=some u->h'.get? b=some u)->h'.get? a=some (L0 "list" o.toArray c)->P (.done (.ret .none)) { s with heap:=h' }) :
  Kr (Kw prog w) A (LC.«list.sort» ⟨[.ref a],[]⟩) P E s:=by
 rw[list_sort_plain]
 have ha:a < s.heap.objs.size:=Ky ho
 refine Ki (listItems_at ho rfl ?_)
 refine Ki (QJ ho rfl ?_ (by rw[l_];exact hz) (B' _))
 obtain⟨e1,ho1⟩:∃ e1,(s.heap.update a (LB fun _=>(#[]:Array Kj))).get? a=some (L0 "list" #[] e1):=⟨_,P8 ho fun _=>#[]⟩
 refine Ki (RP ho1 rfl ?_)
 refine Ki (Qk ?_ hz)
 refine Ki (Nv ?_ (B' _))
 refine KY ?_
 have k2:∀ b u,(s.heap.update a (LB fun _=>(#[]:Array Kj))).get? b=some u->(((s.heap.update a (LB fun _=>(#[]:Array Kj))).push (L0 "tuple" vs.toArray 0)).push (L0 "list" #[] 0)).get? b=some u:=fun b u e=>Kn _ (Kn _ e)
 have k3:∀ b u,b≠a->s.heap.get? b=some u->(((s.heap.update a (LB fun _=>(#[]:Array Kj))).push (L0 "tuple" vs.toArray 0)).push (L0 "list" #[] 0)).get? b=some u:=fun b u hb e=>k2 b u (by rw[OI _ _ _ _ hb];exact e)
 have ho6:=k2 _ _ ho1
 show Kr (Kw prog w) A _ P E { s with heap:=((s.heap.update a (LB fun _=>(#[]:Array Kj))).push (L0 "tuple" vs.toArray 0)).push (L0 "list" #[] 0) }
 generalize ((s.heap.update a (LB fun _=>(#[]:Array Kj))).push (L0 "tuple" vs.toArray 0)).push (L0 "list" #[] 0)=h1 at k3 ho6 ⊢
 dsimp only
 have fin:∀ st':Kv,(Ks st').Perm (vs.toArray.zip vs.toArray)->Srt rk (Ks st').toList->Lc st'=none->Kr (Kw prog w) A (do
   let touched:=(<-seqEpoch a) != e1
   RE (.ref a) fun _=>(Ks st').map (·.2)
   if let some e:=Lc st' then rule "list.sort.comparison-raised";throw e
   if touched then rule "list.sort.modified";raiseError "ValueError" "list modified during sort"
   ret .none) P E { s with heap:=h1 }:=fun st' hp hs hf=>by
  have lp:(Ks st').toList.Perm (vs.map fun v=>(v,v)):=by
   have:=GU.mp hp
   rw[k6]at this
   exact this
  have op:((Ks st').toList.map (·.2)).Perm vs:=by
   have:=lp.map (·.2)
   rw[FZ,show((fun x:Kq=>x.2) ∘ fun v:Kj=>(v,v))=id from rfl,JJ]at this
   exact this
  have tw:∀ p∈(Ks st').toList,p=(p.2,p.2):=fun p hp=>by
   obtain⟨v,_,e⟩:=FG.mp (lp.mem_iff.mp hp)
   rw[<-e]
  have osr:((Ks st').toList.map (·.2)).Pairwise (fun x y=>rk (x,x)<=rk (y,y)):=by
   rw[HX]
   refine IX (fun{p q} hp hq hr=>?_) hs
   rw[<-tw p hp,<-tw q hq]
   exact hr
  have os:((Ks st').map (·.2)).size<=sizeLine + 1:=by
   rw[<-f_,JN,op.length_eq]
   lia
  refine Ki (RP ho6 rfl ?_)
  refine Ki (QJ ho6 rfl ?_ (B' _) os)
  rw[hf]
  simp only[bne_self_eq_false,Ga,if_false]
  obtain⟨c,hc⟩:∃ c,(h1.update a (LB fun _=>(Ks st').map (·.2))).get? a=some (L0 "list" ((Ks st').toList.map (·.2)).toArray c):=by
   have:=P8 ho6 fun _=>(Ks st').map (·.2)
   rw[show((Ks st').toList.map (·.2)).toArray=(Ks st').map (·.2) by rw[<-JN]]
   exact⟨_,this⟩
  refine Ko (h _ c _ op osr (fun b u hb e=>?_) hc)
  rw[OI _ _ _ _ hb]
  exact k3 b u hb e
 by_cases h2:vs.toArray.size < 2
 ·rw[if_pos h2,if_pos h2]
  refine Ki (Ko ?_)
  rw[StateT.run_pure]
  refine Ki (Ko ?_)
  refine fin (L_ general' (vs.toArray.zip vs.toArray) #[] 7 none) (Je _) ?_ rfl
  show Srt rk (vs.toArray.zip vs.toArray).toList
  rw[k6]
  have h3:vs.length < 2:=h2
  clear fin h lt kind hS ho
  match vs,h3 with
  | [],_=>exact .nil
  | [v],_=>exact Ja _ _
  | _::_::_,h3=>exact absurd h3 (by rw[k_,k_];lia)
 rw[if_neg h2,if_neg h2]
 refine Ki (kind h1 k3 (fun z=>by rw[z]at h2;simp at h2) ?_)
 refine Ki (KW (oh (st:=L_ kd (vs.toArray.zip vs.toArray) #[] 7 none) (Q:=fun _ st'=>(Ks st').Perm (vs.toArray.zip vs.toArray)/\Lc st'=none/\Srt rk (Ks st').toList) (lt h1 k3) (fun p hp=>?_) (fun x=>LW rfl) rfl rfl rfl fun st' a1 a2 a3=>⟨a1,a2,a3⟩) ?_ fun _ _ e=>e)
 ·rw[show(Ks (L_ kd (vs.toArray.zip vs.toArray) #[] 7 none))=vs.toArray.zip vs.toArray from rfl,k6]at hp
  obtain⟨v,hv,e⟩:=FG.mp hp
  rw[<-e]
  exact hS v hv
 rintro⟨⟨⟩,st'⟩ s' ⟨rfl,hp,hf,hs⟩
 exact fin st' hp hs hf
end
end ZS
namespace PL
open PySem L2
inductive T where
 | any | hole (w:V) | bare | kp (G:Hp)
 | non | bl (b:Bool) | int (i:Int) | str (x:Str) | ty (n:String)
 | tup (ts:List T) | cst (ts:List T)
 | lst (o:Bool) (ts:List T)
 | dK (o:Bool) (kvs:List (Key × T))
 | dT (o:Bool) (kvs:List (List Key × T))
mutual
def er:T->T
 | .tup ts=>.tup (erL ts)
 | .cst ts=>.cst (erL ts)
 | .lst _ ts=>.lst false (erL ts)
 | .dK _ kvs=>.dK false (erK kvs)
 | .dT _ kvs=>.dT false (erT kvs)
 | .bare=>.any
 | t=>t
def erL:List T->List T
 | []=>[]
 | t::r=>er t::erL r
def erK:List (Key × T)->List (Key × T)
 | []=>[]
 | (k,t)::r=>(k,er t)::erK r
def erT:List (List Key × T)->List (List Key × T)
 | []=>[]
 | (k,t)::r=>(k,er t)::erT r
end
mutual
def aN:T->Bool
 | .tup ts=>bg ts
 | .cst ts=>bg ts
 | .lst o ts=>!o && bg ts
 | .dK o kvs=>!o && mD kvs
 | .dT o kvs=>!o && i8 kvs
 | .bare=>false
 | _=>true
def bg:List T->Bool
 | []=>true
 | t::r=>aN t && bg r
def mD:List (Key × T)->Bool
 | []=>true
 | (_,t)::r=>aN t && mD r
def i8:List (List Key × T)->Bool
 | []=>true
 | (_,t)::r=>aN t && i8 r
end
mutual
def bP:T->Bool
 | .tup ts=>bz ts
 | .cst ts=>bz ts
 | .lst o ts=>o && bz ts
 | .dK o kvs=>o && jK kvs
 | .dT o kvs=>o && h9 kvs
 | .kp _=>false
 | _=>true
def bz:List T->Bool
 | []=>true
 | t::r=>bP t && bz r
def jK:List (Key × T)->Bool
 | []=>true
 | (_,t)::r=>bP t && jK r
def h9:List (List Key × T)->Bool
 | []=>true
 | (_,t)::r=>bP t && h9 r
end
theorem eS{α:Type}(g:α->T):∀ l:List α,erL (l.map g)=l.map fun x=>er (g x)
 | []=>rfl
 | x::r=>by rw[g_,erL,eS g r,g_]
theorem jL:∀ l:List T,erL l=l.map er
 | []=>rfl
 | x::r=>by rw[erL,jL r,g_]
theorem jm(l:List T):(erL l).length=l.length:=by rw[jL,a_]
theorem An(l m:List T):erL (l++m)=erL l++erL m:=by rw[jL,jL,jL,v_]
theorem kI:∀ l:List T,bg l=l.all aN
 | []=>rfl
 | x::r=>by rw[bg,kI r,IG]
theorem cZ:∀ l:List T,bz l=l.all bP
 | []=>rfl
 | x::r=>by rw[bz,cZ r,IG]
mutual
theorem bq:∀ t:T,aN (er t)=true
 | .tup ts=>by rw[er,aN,eE ts]
 | .cst ts=>by rw[er,aN,eE ts]
 | .lst _ ts=>by rw[er,aN,eE ts];rfl
 | .dK _ ts=>by rw[er,aN,lG ts];rfl
 | .dT _ ts=>by rw[er,aN,m7 ts];rfl
 | .bare=>rfl
 | .any=>rfl
 | .hole _=>rfl
 | .kp _=>rfl
 | .non=>rfl
 | .bl _=>rfl
 | .int _=>rfl
 | .str _=>rfl
 | .ty _=>rfl
theorem eE:∀ t:List T,bg (erL t)=true
 | []=>rfl
 | t::r=>by rw[erL,bg,bq t,eE r];rfl
theorem lG:∀ t:List (Key × T),mD (erK t)=true
 | []=>rfl
 | (_,t)::r=>by rw[erK,mD,bq t,lG r];rfl
theorem m7:∀ t:List (List Key × T),i8 (erT t)=true
 | []=>rfl
 | (_,t)::r=>by rw[erT,i8,bq t,m7 r];rfl
end
def Gr(G H:Hp):Prop:=∀ b u,Rd G b u->Rd H b u
theorem Gr.bh {H:Hp}:Gr H H:=fun _ _ h=>h
theorem Gr.trans {G H J:Hp}(a:Gr G H)(b:Gr H J):Gr G J:=fun c u h=>b c u (a c u h)
theorem Gr.of {G H:Hp}(h:aH G H):Gr G H:=fun b u r=>by
 rcases r with r | ⟨o,r⟩
 ·exact .inl (h _ _ r)
 exact .inr ⟨o,h _ _ r⟩
theorem Rd.some {H:Hp}{a:Kl}{u:HO}(h:Rd H a u):∃ w,H a=some w:=by
 rcases h with h | ⟨o,h⟩
 ·exact⟨_,h⟩
 exact⟨_,h⟩
theorem Gr.none {G H:Hp}(h:Gr G H){a:Kl}(e:H a=none):G a=none:=by
 cases q:G a with
 | none=>rfl
 | some u=>
  obtain⟨w,z⟩:=Rd.some (h a u (.inl q))
  rw[e]at z;cases z
def TK(H H':Hp):Prop:=∀ b xs,H b=some (.tup xs)->H' b=some (.tup xs)
theorem aH.tk {G H:Hp}(h:aH G H):TK G H:=fun b xs r=>h _ _ r
theorem Put.tk {H H':Hp}{a:Kl}{o:HO}(p:Put H a o H')(ht:∀ xs,H a≠some (.tup xs)):TK H H':=fun b xs r=>by
 have hb:b≠a:=fun z=>ht xs (z ▸ r)
 rw[p.else_ b hb];exact r
section
variable(K:Kk)(Hz H:Hp)
mutual
inductive RepT:T->V->List Kl->Prop
 | any {v:V}:RepT .any v []
 | hole {w:V}:RepT (.hole w) w []
 | bare {a:Kl} {u:HO} (h:H a=some u) (ht:∀ xs,H a≠some (.tup xs)):RepT .bare (.ref a) [a]
 | kp {G:Hp} {v:V} (h:Gr G Hz):RepT (.kp G) v []
 | non:RepT .non .non []
 | bl {b:Bool}:RepT (.bl b) (.bl b) []
 | int {i:Int}:RepT (.int i) (.int i) []
 | str {x:Str}:RepT (.str x) (.str x) []
 | ty {n:String}:RepT (.ty n) (.ty n) []
 | tup {a:Kl} {ts:List T} {vs:List V} {L:List Kl} (h:H a=some (.tup vs)) (c:RepTs ts vs L):RepT (.tup ts) (.ref a) L
 | cst {a:Kl} {ts:List T} {vs:List V} (h:SqT K (fun _=>none) a vs) (c:RepTs ts vs []):RepT (.cst ts) (.ref a) []
 | lstO {a:Kl} {ts:List T} {vs:List V} {L:List Kl} (h:H a=some (.lst vs)) (c:RepTs ts vs L):RepT (.lst true ts) (.ref a) (a::L)
 | lstZ {a:Kl} {ts:List T} {vs:List V} (h:Rd Hz a (.lst vs)) (c:RepTs ts vs []):RepT (.lst false ts) (.ref a) []
 | dKO {a:Kl} {ts:List (Key × T)} {vs:List (Key × V)} {L:List Kl} (h:H a=some (.dK vs)) (c:RepKs ts vs L):RepT (.dK true ts) (.ref a) (a::L)
 | dKZ {a:Kl} {ts:List (Key × T)} {vs:List (Key × V)} (h:Rd Hz a (.dK vs)) (c:RepKs ts vs []):RepT (.dK false ts) (.ref a) []
 | dTO {a:Kl} {ts:List (List Key × T)} {vs:List (List Key × V)} {L:List Kl} (h:H a=some (.dT vs)) (c:RepXs ts vs L):RepT (.dT true ts) (.ref a) (a::L)
 | dTZ {a:Kl} {ts:List (List Key × T)} {vs:List (List Key × V)} (h:Rd Hz a (.dT vs)) (c:RepXs ts vs []):RepT (.dT false ts) (.ref a) []
inductive RepTs:List T->List V->List Kl->Prop
 | nil:RepTs [] [] []
 | cons {t:T} {v:V} {L M N:List Kl} {ts:List T} {vs:List V} (e:N=L++M) (h:RepT t v L) (c:RepTs ts vs M):RepTs (t::ts) (v::vs) N
inductive RepKs:List (Key × T)->List (Key × V)->List Kl->Prop
 | nil:RepKs [] [] []
 | cons {k:Key} {t:T} {v:V} {L M N:List Kl} {ts:List (Key × T)} {vs:List (Key × V)} (e:N=L++M) (h:RepT t v L) (c:RepKs ts vs M):RepKs ((k,t)::ts) ((k,v)::vs) N
inductive RepXs:List (List Key × T)->List (List Key × V)->List Kl->Prop
 | nil:RepXs [] [] []
 | cons {k:List Key} {t:T} {v:V} {L M N:List Kl} {ts:List (List Key × T)} {vs:List (List Key × V)} (e:N=L++M) (h:RepT t v L) (c:RepXs ts vs M):RepXs ((k,t)::ts) ((k,v)::vs) N
end
end
section
variable{K:Kk}
theorem eG{Hz H:Hp}{P:T->V->List Kl->Prop}{Ps:List T->List V->List Kl->Prop}{Pk:List (Key × T)->List (Key × V)->List Kl->Prop}{Px:List (List Key × T)->List (List Key × V)->List Kl->Prop}
  (c1:∀ {v},P .any v []) (c2:∀ {w},P (.hole w) w []) (c3:∀ {a u},H a=some u->(∀ xs,H a≠some (.tup xs))->P .bare (.ref a) [a]) (c4:∀ {G v},Gr G Hz->P (.kp G) v [])
  (c5:P .non .non []) (c6:∀ {b},P (.bl b) (.bl b) []) (c7:∀ {i},P (.int i) (.int i) []) (c8:∀ {x},P (.str x) (.str x) []) (c9:∀ {n},P (.ty n) (.ty n) [])
  (c10:∀ {a ts vs L},H a=some (.tup vs)->Ps ts vs L->P (.tup ts) (.ref a) L) (c11:∀ {a ts vs},SqT K (fun _=>none) a vs->Ps ts vs []->P (.cst ts) (.ref a) [])
  (c12:∀ {a ts vs L},H a=some (.lst vs)->Ps ts vs L->P (.lst true ts) (.ref a) (a::L)) (c13:∀ {a ts vs},Rd Hz a (.lst vs)->Ps ts vs []->P (.lst false ts) (.ref a) [])
  (c14:∀ {a ts vs L},H a=some (.dK vs)->Pk ts vs L->P (.dK true ts) (.ref a) (a::L)) (c15:∀ {a ts vs},Rd Hz a (.dK vs)->Pk ts vs []->P (.dK false ts) (.ref a) [])
  (c16:∀ {a ts vs L},H a=some (.dT vs)->Px ts vs L->P (.dT true ts) (.ref a) (a::L)) (c17:∀ {a ts vs},Rd Hz a (.dT vs)->Px ts vs []->P (.dT false ts) (.ref a) [])
  (s0:Ps [] [] []) (s1:∀ {t v L M ts vs},P t v L->Ps ts vs M->Ps (t::ts) (v::vs) (L++M))
  (k0:Pk [] [] []) (k1:∀ {k t v L M ts vs},P t v L->Pk ts vs M->Pk ((k,t)::ts) ((k,v)::vs) (L++M))
  (x0:Px [] [] []) (x1:∀ {k t v L M ts vs},P t v L->Px ts vs M->Px ((k,t)::ts) ((k,v)::vs) (L++M)) :
  (∀ {t v L},RepT K Hz H t v L->P t v L)/\(∀ {t v L},RepTs K Hz H t v L->Ps t v L)/\(∀ {t v L},RepKs K Hz H t v L->Pk t v L)/\(∀ {t v L},RepXs K Hz H t v L->Px t v L):=by
 have m1:∀ {t v L},RepT K Hz H t v L->P t v L:=fun h=>RepT.rec (motive_1:=fun t v L _=>P t v L) (motive_2:=fun t v L _=>Ps t v L) (motive_3:=fun t v L _=>Pk t v L) (motive_4:=fun t v L _=>Px t v L)
  c1 c2 c3 c4 c5 c6 c7 c8 c9 (fun h _ i=>c10 h i) (fun h _ i=>c11 h i) (fun h _ i=>c12 h i) (fun h _ i=>c13 h i) (fun h _ i=>c14 h i) (fun h _ i=>c15 h i) (fun h _ i=>c16 h i) (fun h _ i=>c17 h i)
  s0 (fun e _ _ i j=>e ▸ s1 i j) k0 (fun e _ _ i j=>e ▸ k1 i j) x0 (fun e _ _ i j=>e ▸ x1 i j) h
 refine⟨m1,fun h=>?_,fun h=>?_,fun h=>?_⟩
 ·exact RepTs.rec (motive_1:=fun t v L _=>True) (motive_2:=fun t v L _=>Ps t v L) (motive_3:=fun t v L _=>True) (motive_4:=fun t v L _=>True)
   trivial trivial (fun _ _=>trivial) (fun _=>trivial) trivial trivial trivial trivial trivial (fun _ _ _=>trivial) (fun _ _ _=>trivial) (fun _ _ _=>trivial) (fun _ _ _=>trivial) (fun _ _ _=>trivial) (fun _ _ _=>trivial) (fun _ _ _=>trivial) (fun _ _ _=>trivial)
   s0 (fun e h _ _ j=>e ▸ s1 (m1 h) j) trivial (fun _ _ _ _ _=>trivial) trivial (fun _ _ _ _ _=>trivial) h
 ·exact RepKs.rec (motive_1:=fun t v L _=>True) (motive_2:=fun t v L _=>True) (motive_3:=fun t v L _=>Pk t v L) (motive_4:=fun t v L _=>True)
   trivial trivial (fun _ _=>trivial) (fun _=>trivial) trivial trivial trivial trivial trivial (fun _ _ _=>trivial) (fun _ _ _=>trivial) (fun _ _ _=>trivial) (fun _ _ _=>trivial) (fun _ _ _=>trivial) (fun _ _ _=>trivial) (fun _ _ _=>trivial) (fun _ _ _=>trivial)
   trivial (fun _ _ _ _ _=>trivial) k0 (fun e h _ _ j=>e ▸ k1 (m1 h) j) trivial (fun _ _ _ _ _=>trivial) h
 exact RepXs.rec (motive_1:=fun t v L _=>True) (motive_2:=fun t v L _=>True) (motive_3:=fun t v L _=>True) (motive_4:=fun t v L _=>Px t v L)
  trivial trivial (fun _ _=>trivial) (fun _=>trivial) trivial trivial trivial trivial trivial (fun _ _ _=>trivial) (fun _ _ _=>trivial) (fun _ _ _=>trivial) (fun _ _ _=>trivial) (fun _ _ _=>trivial) (fun _ _ _=>trivial) (fun _ _ _=>trivial) (fun _ _ _=>trivial)
  trivial (fun _ _ _ _ _=>trivial) trivial (fun _ _ _ _ _=>trivial) x0 (fun e h _ _ j=>e ▸ x1 (m1 h) j) h
noncomputable def Kps(H H':Hp)(L:List Kl):Prop:=∀ a∈L,∀ u,H a=some u->H' a=some u/\((∀ xs,H a≠some (.tup xs))->∀ xs,H' a≠some (.tup xs))
theorem Kps.hd {H H':Hp}{a:Kl}{L:List Kl}(h:Kps H H' (a::L)){u:HO}(e:H a=some u):H' a=some u/\((∀ xs,H a≠some (.tup xs))->∀ xs,H' a≠some (.tup xs)):=h _ y_ _ e
theorem Kps.tl {H H':Hp}{a:Kl}{L:List Kl}(h:Kps H H' (a::L)):Kps H H' L:=fun a m=>h a (o_ _ m)
theorem Kps.l {H H':Hp}{L M:List Kl}(h:Kps H H' (L++M)):Kps H H' L:=fun a m=>h a (FN _ m)
theorem Kps.r {H H':Hp}{L M:List Kl}(h:Kps H H' (L++M)):Kps H H' M:=fun a m=>h a (q_ _ m)
theorem xj{Hz H Hz' H':Hp}(ht:TK H H')(hz:Gr Hz Hz'):(∀ {t v L},RepT K Hz H t v L->Kps H H' L->RepT K Hz' H' t v L)/\(∀ {t v L},RepTs K Hz H t v L->Kps H H' L->RepTs K Hz' H' t v L)/\(∀ {t v L},RepKs K Hz H t v L->Kps H H' L->RepKs K Hz' H' t v L)/\(∀ {t v L},RepXs K Hz H t v L->Kps H H' L->RepXs K Hz' H' t v L):=
 eG (P:=fun t v L=>Kps H H' L->RepT K Hz' H' t v L) (Ps:=fun t v L=>Kps H H' L->RepTs K Hz' H' t v L) (Pk:=fun t v L=>Kps H H' L->RepKs K Hz' H' t v L) (Px:=fun t v L=>Kps H H' L->RepXs K Hz' H' t v L)
  (fun _=>.any) (fun _=>.hole) (fun h t o=>.bare (o.hd h).1 ((o.hd h).2 t)) (fun h _=>.kp (h.trans hz)) (fun _=>.non) (fun _=>.bl) (fun _=>.int) (fun _=>.str) (fun _=>.ty)
  (fun h c o=>.tup (ht _ _ h) (c o)) (fun h c o=>.cst h (c o)) (fun h c o=>.lstO (o.hd h).1 (c o.tl)) (fun h c o=>.lstZ (hz _ _ h) (c o)) (fun h c o=>.dKO (o.hd h).1 (c o.tl)) (fun h c o=>.dKZ (hz _ _ h) (c o)) (fun h c o=>.dTO (o.hd h).1 (c o.tl)) (fun h c o=>.dTZ (hz _ _ h) (c o))
  (fun _=>.nil) (fun i j o=>.cons rfl (i o.l) (j o.r)) (fun _=>.nil) (fun i j o=>.cons rfl (i o.l) (j o.r)) (fun _=>.nil) (fun i j o=>.cons rfl (i o.l) (j o.r))
theorem RepT.move {Hz H Hz' H':Hp}(ht:TK H H')(hz:Gr Hz Hz'){t:T}{v:V}{L:List Kl}(o:Kps H H' L)(h:RepT K Hz H t v L):RepT K Hz' H' t v L:=(xj ht hz).1 h o
def Thr(H:Hp)(L:List Kl):Prop:=∀ a∈L,(∃ u,H a=some u)/\∀ xs,H a≠some (.tup xs)
theorem Thr.nil {H:Hp}:Thr H []:=fun a m=>nomatch m
theorem Thr.cons {H:Hp}{a:Kl}{u:HO}{L:List Kl}(h:H a=some u)(t:∀ xs,H a≠some (.tup xs))(c:Thr H L):Thr H (a::L):=fun b m=>by
 rcases t_.mp m with rfl | m
 ·exact⟨⟨_,h⟩,t⟩
 exact c b m
theorem Thr.app {H:Hp}{L M:List Kl}(c:Thr H L)(d:Thr H M):Thr H (L++M):=fun b m=>(FF.mp m).elim (c b) (d b)
theorem uu{Hz H:Hp}:(∀ {t v L},RepT K Hz H t v L->Thr H L)/\(∀ {t v L},RepTs K Hz H t v L->Thr H L)/\(∀ {t v L},RepKs K Hz H t v L->Thr H L)/\(∀ {t v L},RepXs K Hz H t v L->Thr H L):=
 eG (P:=fun t v L=>Thr H L) (Ps:=fun t v L=>Thr H L) (Pk:=fun t v L=>Thr H L) (Px:=fun t v L=>Thr H L)
  .nil .nil (fun h t=>.cons h t .nil) (fun _=>.nil) .nil .nil .nil .nil .nil (fun _ c=>c) (fun _ c=>c) (fun h c=>.cons h (fun xs r=>by rw[h]at r;cases r) c) (fun _ c=>c) (fun h c=>.cons h (fun xs r=>by rw[h]at r;cases r) c) (fun _ c=>c) (fun h c=>.cons h (fun xs r=>by rw[h]at r;cases r) c) (fun _ c=>c)
  .nil (fun c d=>c.app d) .nil (fun c d=>c.app d) .nil (fun c d=>c.app d)
theorem RepT.there {Hz H:Hp}{t:T}{v:V}{L:List Kl}(h:RepT K Hz H t v L):Thr H L:=uu.1 h
def Fzn(H Z:Hp)(L:List Kl):Prop:=∀ a∈L,Z a=H a
theorem Fzn.hd {H Z:Hp}{a:Kl}{L:List Kl}(h:Fzn H Z (a::L)){u:HO}(e:H a=some u):Rd Z a u:=.inl (by rw[h _ y_];exact e)
theorem Fzn.tl {H Z:Hp}{a:Kl}{L:List Kl}(h:Fzn H Z (a::L)):Fzn H Z L:=fun a m=>h a (o_ _ m)
theorem Fzn.l {H Z:Hp}{L M:List Kl}(h:Fzn H Z (L++M)):Fzn H Z L:=fun a m=>h a (FN _ m)
theorem Fzn.r {H Z:Hp}{L M:List Kl}(h:Fzn H Z (L++M)):Fzn H Z M:=fun a m=>h a (q_ _ m)
theorem yC{Hz H Z:Hp}(hz:Gr Hz Z):(∀ {t v L},RepT K Hz H t v L->Fzn H Z L->RepT K Z H (er t) v [])/\(∀ {t v L},RepTs K Hz H t v L->Fzn H Z L->RepTs K Z H (erL t) v [])/\(∀ {t v L},RepKs K Hz H t v L->Fzn H Z L->RepKs K Z H (erK t) v [])/\(∀ {t v L},RepXs K Hz H t v L->Fzn H Z L->RepXs K Z H (erT t) v []):=
 eG (P:=fun t v L=>Fzn H Z L->RepT K Z H (er t) v []) (Ps:=fun t v L=>Fzn H Z L->RepTs K Z H (erL t) v []) (Pk:=fun t v L=>Fzn H Z L->RepKs K Z H (erK t) v []) (Px:=fun t v L=>Fzn H Z L->RepXs K Z H (erT t) v [])
  (fun _=>.any) (fun _=>.hole) (fun _ _ _=>.any) (fun h _=>.kp (h.trans hz)) (fun _=>.non) (fun _=>.bl) (fun _=>.int) (fun _=>.str) (fun _=>.ty)
  (fun h c o=>.tup h (c o)) (fun h c o=>.cst h (c o)) (fun h c o=>.lstZ (o.hd h) (c o.tl)) (fun h c o=>.lstZ (hz _ _ h) (c o)) (fun h c o=>.dKZ (o.hd h) (c o.tl)) (fun h c o=>.dKZ (hz _ _ h) (c o)) (fun h c o=>.dTZ (o.hd h) (c o.tl)) (fun h c o=>.dTZ (hz _ _ h) (c o))
  (fun _=>.nil) (fun i j o=>.cons rfl (i o.l) (j o.r)) (fun _=>.nil) (fun i j o=>.cons rfl (i o.l) (j o.r)) (fun _=>.nil) (fun i j o=>.cons rfl (i o.l) (j o.r))
theorem RepT.frz {Hz H Z:Hp}(hz:Gr Hz Z){t:T}{v:V}{L:List Kl}(o:Fzn H Z L)(h:RepT K Hz H t v L):RepT K Z H (er t) v []:=(yC hz).1 h o
theorem zK{Hz H:Hp}:(∀ {t v L},RepT K Hz H t v L->aN t=true->L=[])/\(∀ {t v L},RepTs K Hz H t v L->bg t=true->L=[])/\(∀ {t v L},RepKs K Hz H t v L->True)/\(∀ {t v L},RepXs K Hz H t v L->True):=
 eG (P:=fun t v L=>aN t=true->L=[]) (Ps:=fun t v L=>bg t=true->L=[]) (Pk:=fun t v L=>True) (Px:=fun t v L=>True)
  (fun _=>rfl) (fun _=>rfl) (fun _ _ n=>nomatch n) (fun _ _=>rfl) (fun _=>rfl) (fun _=>rfl) (fun _=>rfl) (fun _=>rfl) (fun _=>rfl)
  (fun _ c n=>c (by rw[aN]at n;exact n)) (fun _ _ _=>rfl) (fun _ _ n=>nomatch n) (fun _ _ _=>rfl) (fun _ _ n=>nomatch n) (fun _ _ _=>rfl) (fun _ _ n=>nomatch n) (fun _ _ _=>rfl)
  (fun _=>rfl) (fun i j n=>by
   rw[bg,FI]at n
   rw[i n.1,j n.2]
   rfl) trivial (fun _ _=>trivial) trivial (fun _ _=>trivial)
theorem RepT.nil_of {Hz H:Hp}{t:T}{v:V}{L:List Kl}(n:aN t=true)(h:RepT K Hz H t v L):L=[]:=zK.1 h n
theorem vz{Hz H Z H':Hp}(ht:TK H H'):(∀ {t v L},RepT K Hz H t v L->bP t=true->Kps H H' L->RepT K Z H' t v L)/\(∀ {t v L},RepTs K Hz H t v L->bz t=true->Kps H H' L->RepTs K Z H' t v L)/\(∀ {t v L},RepKs K Hz H t v L->jK t=true->Kps H H' L->RepKs K Z H' t v L)/\(∀ {t v L},RepXs K Hz H t v L->h9 t=true->Kps H H' L->RepXs K Z H' t v L):=
 eG (P:=fun t v L=>bP t=true->Kps H H' L->RepT K Z H' t v L) (Ps:=fun t v L=>bz t=true->Kps H H' L->RepTs K Z H' t v L) (Pk:=fun t v L=>jK t=true->Kps H H' L->RepKs K Z H' t v L) (Px:=fun t v L=>h9 t=true->Kps H H' L->RepXs K Z H' t v L)
  (fun _ _=>.any) (fun _ _=>.hole) (fun h t _ o=>.bare (o.hd h).1 ((o.hd h).2 t)) (fun _ n=>nomatch n) (fun _ _=>.non) (fun _ _=>.bl) (fun _ _=>.int) (fun _ _=>.str) (fun _ _=>.ty)
  (fun h c n o=>.tup (ht _ _ h) (c (by rw[bP]at n;exact n) o)) (fun h c n o=>.cst h (c (by rw[bP]at n;exact n) o)) (fun h c n o=>.lstO (o.hd h).1 (c (by rw[bP,G4]at n;exact n) o.tl)) (fun _ _ n=>nomatch n) (fun h c n o=>.dKO (o.hd h).1 (c (by rw[bP,G4]at n;exact n) o.tl)) (fun _ _ n=>nomatch n) (fun h c n o=>.dTO (o.hd h).1 (c (by rw[bP,G4]at n;exact n) o.tl)) (fun _ _ n=>nomatch n)
  (fun _ _=>.nil) (fun i j n o=>.cons rfl (i (by rw[bz,FI]at n;exact n.1) o.l) (j (by rw[bz,FI]at n;exact n.2) o.r)) (fun _ _=>.nil) (fun i j n o=>.cons rfl (i (by rw[jK,FI]at n;exact n.1) o.l) (j (by rw[jK,FI]at n;exact n.2) o.r)) (fun _ _=>.nil) (fun i j n o=>.cons rfl (i (by rw[h9,FI]at n;exact n.1) o.l) (j (by rw[h9,FI]at n;exact n.2) o.r))
theorem RepT.Ck {Hz H Z H':Hp}(ht:TK H H'){t:T}{v:V}{L:List Kl}(n:bP t=true)(o:Kps H H' L)(h:RepT K Hz H t v L):RepT K Z H' t v L:=(vz ht).1 h n o
abbrev Ev:=List T
abbrev Fm:=List (T × Option V)
def l5(K:Kk)(Hz H:Hp)(t:T)(x:Option V)(L:List Kl):Prop:=(t=.any/\L=[])\/∃ v,x=some v/\RepT K Hz H t v L
inductive RepL (K:Kk) (Hz H:Hp):Fm->List Kl->Prop
 | nil:RepL K Hz H [] []
 | cons {t:T} {x:Option V} {L M N:List Kl} {r:Fm} (e:N=L++M) (h:l5 K Hz H t x L) (c:RepL K Hz H r M):RepL K Hz H ((t,x)::r) N
def Rp(K:Kk)(H:Hp)(Γ:Fm):Prop:=∃ Hz L,RepL K Hz H Γ L/\L.Nodup/\Gr Hz H/\∀ b∈L,Hz b=none
theorem l5.move {Hz H Hz' H':Hp}(ht:TK H H')(hz:Gr Hz Hz'){t:T}{x:Option V}{L:List Kl}(ho:∀ a∈L,∀ u,H a=some u->H' a=some u/\((∀ xs,H a≠some (.tup xs))->∀ xs,H' a≠some (.tup xs)))(h:l5 K Hz H t x L):l5 K Hz' H' t x L:=by
 rcases h with⟨rfl,rfl⟩ | ⟨v,rfl,h⟩
 ·exact .inl ⟨rfl,rfl⟩
 exact .inr ⟨v,rfl,h.move ht hz ho⟩
theorem l5.there {Hz H:Hp}{t:T}{x:Option V}{L:List Kl}(h:l5 K Hz H t x L):∀ a∈L,(∃ u,H a=some u)/\∀ xs,H a≠some (.tup xs):=by
 rcases h with⟨rfl,rfl⟩ | ⟨v,rfl,h⟩
 ·intro a m;cases m
 exact h.there
theorem RepL.move {Hz H Hz' H':Hp}(ht:TK H H')(hz:Gr Hz Hz'):∀ {Γ:Fm} {L:List Kl},(∀ a∈L,∀ u,H a=some u->H' a=some u/\((∀ xs,H a≠some (.tup xs))->∀ xs,H' a≠some (.tup xs)))->RepL K Hz H Γ L->RepL K Hz' H' Γ L
 | _,_,_,.nil=>.nil
 | _,_,ho,.cons e h c=>.cons e (h.move ht hz fun a m=>ho a (by rw[e];exact FN _ m)) (c.move ht hz fun a m=>ho a (by rw[e];exact q_ _ m))
theorem RepL.there {Hz H:Hp}:∀ {Γ:Fm} {L:List Kl},RepL K Hz H Γ L->∀ a∈L,(∃ u,H a=some u)/\∀ xs,H a≠some (.tup xs)
 | _,_,.nil,a,m=>by cases m
 | _,_,.cons e h c,a,m=>by
  rw[e]at m
  rcases FF.mp m with m | m
  ·exact h.there a m
  exact c.there a m
theorem RepL.app {Hz H:Hp}:∀ {Γ Δ:Fm} {L M:List Kl},RepL K Hz H Γ L->RepL K Hz H Δ M->RepL K Hz H (Γ++Δ) (L++M)
 | _,_,_,_,.nil,d=>d
 | _,_,_,_,.cons e h c,d=>.cons (by rw[e,i_]) h (c.app d)
theorem RepL.split {Hz H:Hp}:∀ {Γ Δ:Fm} {N:List Kl},RepL K Hz H (Γ++Δ) N->∃ L M,N=L++M/\RepL K Hz H Γ L/\RepL K Hz H Δ M
 | [],_,N,h=>⟨[],N,rfl,.nil,h⟩
 | (t,x)::r,_,N,.cons e h c=>by
  obtain⟨L,M,rfl,h1,h2⟩:=c.split
  exact⟨_,M,by rw[e,i_],.cons rfl h h1,h2⟩
theorem RepL.perm {Hz H:Hp}{Γ Δ:Fm}(p:Γ.Perm Δ):∀ {L:List Kl},RepL K Hz H Γ L->∃ M,L.Perm M/\RepL K Hz H Δ M:=by
 induction p with
 | nil=>intro L h;exact⟨L,.refl _,h⟩
 | cons x q ih=>
  intro L h
  cases h with
  | cons e h c=>
   obtain⟨M,p1,h1⟩:=ih c
   exact⟨_,by rw[e];exact p1.append_left _,.cons rfl h h1⟩
 | swap x y l=>
  intro L h
  cases h with
  | cons e h c=>
   cases c with
   | cons e' h' c'=>
    refine⟨_,?_,.cons rfl h' (.cons rfl h c')⟩
    rw[e,e',<-i_,<-i_]
    exact Gm.append_right _
 | trans p q ih1 ih2=>
  intro L h
  obtain⟨M,p1,h1⟩:=ih1 h
  obtain⟨N,p2,h2⟩:=ih2 h1
  exact⟨N,p1.trans p2,h2⟩
theorem Rp.perm {H:Hp}{Γ Δ:Fm}(h:Rp K H Γ)(p:Γ.Perm Δ):Rp K H Δ:=by
 obtain⟨Hz,L,h,nd,g,d⟩:=h
 obtain⟨M,q,h'⟩:=h.perm p
 exact⟨Hz,M,h',q.nodup_iff.mp nd,g,fun b m=>d b (q.mem_iff.mpr m)⟩
theorem Rp.part {H:Hp}{Γ Δ:Fm}(h:Rp K H (Γ++Δ)):Rp K H Δ:=by
 obtain⟨Hz,L,h,nd,g,d⟩:=h
 obtain⟨L1,L2,rfl,_,h2⟩:=h.split
 exact⟨Hz,L2,h2,(Gz.mp nd).2.1,g,fun b m=>d b (q_ _ m)⟩
theorem Rp.tail {H:Hp}{x:T × Option V}{Γ:Fm}(h:Rp K H (x::Γ)):Rp K H Γ:=Rp.part (Γ:=[x]) h
theorem eN{H H':Hp}(s:aH H H')(a:Kl)(u:HO)(e:H a=some u):H' a=some u/\((∀ xs,H a≠some (.tup xs))->∀ xs,H' a≠some (.tup xs)):=
 ⟨s _ _ e,fun n xs r=>n xs (by rw[s _ _ e]at r;exact e.trans r)⟩
theorem Rp.same {H H':Hp}{Γ:Fm}(h:Rp K H Γ)(s:aH H H'):Rp K H' Γ:=by
 obtain⟨Hz,L,h,nd,g,d⟩:=h
 exact⟨Hz,L,h.move (aH.tk s) .bh (fun a m u e=>eN s a u e),nd,g.trans (.of s),d⟩
end
section
variable{K:Kk}
theorem oZ{H H':Hp}{p:Kl}{o:HO}(s:Put H p o H')(a:Kl)(n:a≠p)(u:HO)(e:H a=some u):H' a=some u/\((∀ xs,H a≠some (.tup xs))->∀ xs,H' a≠some (.tup xs)):=
 ⟨by rw[s.else_ a n];exact e,fun m xs r=>m xs (by rw[s.else_ a n]at r;exact r)⟩
theorem RepTs.len {Hz H:Hp}:∀ {ts:List T} {vs:List V} {L:List Kl},RepTs K Hz H ts vs L->ts.length=vs.length
 | _,_,_,.nil=>rfl
 | _,_,_,.cons _ _ c=>by rw[k_,k_,c.len]
abbrev zz(ts:List T)(vs:List V):Fm:=ts.zip (vs.map some)
theorem RepTs.toL {Hz H:Hp}:∀ {ts:List T} {vs:List V} {L:List Kl},RepTs K Hz H ts vs L->RepL K Hz H (zz ts vs) L
 | _,_,_,.nil=>.nil
 | _,_,_,.cons e h c=>.cons e (.inr ⟨_,rfl,h⟩) c.toL
theorem RepL.oF {Hz H:Hp}:∀ {ts:List T} {vs:List V} {L:List Kl},ts.length=vs.length->RepL K Hz H (zz ts vs) L->RepTs K Hz H ts vs L
 | [],[],_,_,.nil=>.nil
 | [],v::vs,_,l,_=>by simp at l
 | t::ts,[],_,l,_=>by simp at l
 | t::ts,v::vs,L,l,h=>by
  have h:RepL K Hz H ((t,some v)::zz ts vs) L:=h
  cases h with
  | cons e h c=>
   refine .cons e ?_ (c.oF (by simpa using l))
   rcases h with⟨rfl,rfl⟩ | ⟨w,e2,h⟩
   ·exact .any
   cases e2;exact h
theorem RepKs.toL {Hz H:Hp}:∀ {ts:List (Key × T)} {vs:List (Key × V)} {L:List Kl},RepKs K Hz H ts vs L->ts.map (·.1)=vs.map (·.1)/\RepTs K Hz H (ts.map (·.2)) (vs.map (·.2)) L
 | _,_,_,.nil=>⟨rfl,.nil⟩
 | _,_,_,.cons e h c=>by
  obtain⟨e1,c1⟩:=c.toL
  exact⟨by rw[g_,g_,e1],.cons e h c1⟩
theorem RepKs.ofL {Hz H:Hp}:∀ {ts:List (Key × T)} {vs:List (Key × V)} {L:List Kl},ts.map (·.1)=vs.map (·.1)->RepTs K Hz H (ts.map (·.2)) (vs.map (·.2)) L->RepKs K Hz H ts vs L
 | [],[],_,_,.nil=>.nil
 | [],_::_,_,e,_=>by simp at e
 | _::_,[],_,e,_=>by simp at e
 | (k,t)::ts,(k',v)::vs,L,e,.cons e2 h c=>by
  rw[g_,g_,HH]at e
  have e0:k=k':=e.1
  subst e0
  exact .cons e2 h (RepKs.ofL e.2 c)
theorem RepXs.toL {Hz H:Hp}:∀ {ts:List (List Key × T)} {vs:List (List Key × V)} {L:List Kl},RepXs K Hz H ts vs L->ts.map (·.1)=vs.map (·.1)/\RepTs K Hz H (ts.map (·.2)) (vs.map (·.2)) L
 | _,_,_,.nil=>⟨rfl,.nil⟩
 | _,_,_,.cons e h c=>by
  obtain⟨e1,c1⟩:=c.toL
  exact⟨by rw[g_,g_,e1],.cons e h c1⟩
theorem RepXs.ofL {Hz H:Hp}:∀ {ts:List (List Key × T)} {vs:List (List Key × V)} {L:List Kl},ts.map (·.1)=vs.map (·.1)->RepTs K Hz H (ts.map (·.2)) (vs.map (·.2)) L->RepXs K Hz H ts vs L
 | [],[],_,_,.nil=>.nil
 | [],_::_,_,e,_=>by simp at e
 | _::_,[],_,e,_=>by simp at e
 | (k,t)::ts,(k',v)::vs,L,e,.cons e2 h c=>by
  rw[g_,g_,HH]at e
  have e0:k=k':=e.1
  subst e0
  exact .cons e2 h (RepXs.ofL e.2 c)
theorem xa{H H':Hp}{p:Kl}{o:HO}{t:T}{Γ Δ:Fm}(h:Rp K H (Γ++Δ))(hp:H p=none)(s:aH H H')(hn:H' p=some o)
  (mk:∀ Hz L,RepL K Hz H' Γ L->RepT K Hz H' t (.ref p) (p::L)):Rp K H' ((t,some (.ref p))::Δ):=by
 obtain⟨Hz,N,h,nd,g,d⟩:=h
 obtain⟨L,M,rfl,h1,h2⟩:=h.split
 have mv:∀ a∈L++M,∀ u,H a=some u->H' a=some u/\((∀ xs,H a≠some (.tup xs))->∀ xs,H' a≠some (.tup xs)):=fun a _ u e=>eN s a u e
 have h1':=h1.move (aH.tk s) .bh fun a m=>mv a (FN _ m)
 have h2':=h2.move (aH.tk s) .bh fun a m=>mv a (q_ _ m)
 refine⟨Hz,(p::L)++M,.cons rfl (.inr ⟨_,rfl,mk Hz L h1'⟩) h2',?_,g.trans (.of s),?_⟩
 ·rw[Gb,D_]
  refine⟨fun m=>?_,nd⟩
  obtain⟨⟨u,e⟩,_⟩:=h.there p m
  rw[hp]at e;cases e
 intro b m
 rcases t_.mp m with rfl | m
 ·exact g.none hp
 exact d b m
theorem fy{H H':Hp}{p:Kl}{ts:List T}{vs:List V}{Δ:Fm}(h:Rp K H (zz ts vs++Δ))(l:ts.length=vs.length)(hp:H p=none)(s:aH H H')(hn:H' p=some (.lst vs)):Rp K H' ((.lst true ts,some (.ref p))::Δ):=
 xa h hp s hn fun _ _ q=>.lstO hn (q.oF l)
theorem fB{H H':Hp}{p:Kl}{ts:List T}{vs:List V}{Δ:Fm}(h:Rp K H (zz ts vs++Δ))(l:ts.length=vs.length)(s:aH H H')(hn:H' p=some (.tup vs)):Rp K H' ((.tup ts,some (.ref p))::Δ):=by
 obtain⟨Hz,N,h,nd,g,d⟩:=h.same s
 obtain⟨L,M,rfl,h1,h2⟩:=h.split
 exact⟨Hz,L++M,.cons rfl (.inr ⟨_,rfl,.tup hn (h1.oF l)⟩) h2,nd,g,d⟩
theorem bY{H:Hp}{ts:List T}{x:Option V}{Γ:Fm}(h:Rp K H ((.lst true ts,x)::Γ)):∃ a vs,x=some (.ref a)/\H a=some (.lst vs)/\ts.length=vs.length/\Rp K H ((.bare,some (.ref a))::(zz ts vs++Γ)):=by
 obtain⟨Hz,N,h,nd,g,d⟩:=h
 cases h with
 | cons e h c=>
  rcases h with⟨h,_⟩ | ⟨v,rfl,h⟩
  ·cases h
  cases h with
  | lstO h1 c1=>
   refine⟨_,_,rfl,h1,c1.len,Hz,N,.cons (L:=[_]) (M:=_++_) (by rw[e];rfl) (.inr ⟨_,rfl,.bare h1 fun xs r=>?_⟩) (c1.toL.app c),nd,g,d⟩
   rw[h1]at r;cases r
theorem nL{H H':Hp}{a:Kl}{o:HO}{t:T}{Γ Δ:Fm}(h:Rp K H ((.bare,some (.ref a))::(Γ++Δ)))(p:Put H a o H')
  (mk:∀ Hz L,RepL K Hz H' Γ L->RepT K Hz H' t (.ref a) (a::L)):Rp K H' ((t,some (.ref a))::Δ):=by
 obtain⟨Hz,N,h,nd,g,d⟩:=h
 cases h with
 | cons e h c=>
  rcases h with⟨h,_⟩ | ⟨v,ev,h⟩
  ·cases h
  cases ev
  cases h with
  | bare h1 nt=>
   obtain⟨L,M,e2,h2,h3⟩:=c.split
   subst e;subst e2
   rw[Jl,D_]at nd
   have tk:TK H H':=Put.tk p nt
   have ne:∀ b∈L++M,b≠a:=fun b m z=>nd.1 (z ▸ m)
   have g':Gr Hz H':=fun b u r=>by
    have hb:b≠a:=fun z=>by
     obtain⟨w,q⟩:=Rd.some r
     rw[z,d a (by rw[Jl];exact y_)]at q
     cases q
    rcases g b u r with r | ⟨o,r⟩
    ·exact .inl (by rw[p.else_ b hb];exact r)
    exact .inr ⟨o,by rw[p.else_ b hb];exact r⟩
   refine⟨Hz,(a::L)++M,.cons rfl (.inr ⟨_,rfl,mk Hz L ?_⟩) ?_,?_,g',?_⟩
   ·exact h2.move tk .bh fun b m=>oZ p b (ne b (FN _ m))
   ·exact h3.move tk .bh fun b m=>oZ p b (ne b (q_ _ m))
   ·rw[Gb,D_];exact nd
   exact d
theorem cn{H H':Hp}{a:Kl}{ts:List T}{vs:List V}{Γ:Fm}(h:Rp K H ((.bare,some (.ref a))::(zz ts vs++Γ)))(l:ts.length=vs.length)(p:Put H a (.lst vs) H'):Rp K H' ((.lst true ts,some (.ref a))::Γ):=
 nL h p fun _ _ q=>.lstO p.at_ (q.oF l)
theorem qa{H:Hp}{ts:List (Key × T)}{x:Option V}{Γ:Fm}(h:Rp K H ((.dK true ts,x)::Γ)):∃ a vs,x=some (.ref a)/\H a=some (.dK vs)/\ts.map (·.1)=vs.map (·.1)/\Rp K H ((.bare,some (.ref a))::(zz (ts.map (·.2)) (vs.map (·.2))++Γ)):=by
 obtain⟨Hz,N,h,nd,g,d⟩:=h
 cases h with
 | cons e h c=>
  rcases h with⟨h,_⟩ | ⟨v,rfl,h⟩
  ·cases h
  cases h with
  | dKO h1 c1=>
   obtain⟨e1,c2⟩:=c1.toL
   refine⟨_,_,rfl,h1,e1,Hz,N,.cons (L:=[_]) (M:=_++_) (by rw[e];rfl) (.inr ⟨_,rfl,.bare h1 fun xs r=>?_⟩) (c2.toL.app c),nd,g,d⟩
   rw[h1]at r;cases r
theorem xN{H:Hp}{ts:List (List Key × T)}{x:Option V}{Γ:Fm}(h:Rp K H ((.dT true ts,x)::Γ)):∃ a vs,x=some (.ref a)/\H a=some (.dT vs)/\ts.map (·.1)=vs.map (·.1)/\Rp K H ((.bare,some (.ref a))::(zz (ts.map (·.2)) (vs.map (·.2))++Γ)):=by
 obtain⟨Hz,N,h,nd,g,d⟩:=h
 cases h with
 | cons e h c=>
  rcases h with⟨h,_⟩ | ⟨v,rfl,h⟩
  ·cases h
  cases h with
  | dTO h1 c1=>
   obtain⟨e1,c2⟩:=c1.toL
   refine⟨_,_,rfl,h1,e1,Hz,N,.cons (L:=[_]) (M:=_++_) (by rw[e];rfl) (.inr ⟨_,rfl,.bare h1 fun xs r=>?_⟩) (c2.toL.app c),nd,g,d⟩
   rw[h1]at r;cases r
theorem ba{κ α β:Type}{ts:List (κ × α)}{vs:List (κ × β)}(e:ts.map (·.1)=vs.map (·.1)):ts.length=vs.length:=by
 have:=congrArg Hu e
 rwa[a_,a_]at this
theorem mw{H H':Hp}{a:Kl}{ts:List (Key × T)}{vs:List (Key × V)}{Γ:Fm}(h:Rp K H ((.bare,some (.ref a))::(zz (ts.map (·.2)) (vs.map (·.2))++Γ)))(l:ts.map (·.1)=vs.map (·.1))(p:Put H a (.dK vs) H'):Rp K H' ((.dK true ts,some (.ref a))::Γ):=
 nL h p fun _ _ q=>.dKO p.at_ (RepKs.ofL l (q.oF (by rw[a_,a_];exact ba l)))
theorem uk{H H':Hp}{a:Kl}{ts:List (List Key × T)}{vs:List (List Key × V)}{Γ:Fm}(h:Rp K H ((.bare,some (.ref a))::(zz (ts.map (·.2)) (vs.map (·.2))++Γ)))(l:ts.map (·.1)=vs.map (·.1))(p:Put H a (.dT vs) H'):Rp K H' ((.dT true ts,some (.ref a))::Γ):=
 nL h p fun _ _ q=>.dTO p.at_ (RepXs.ofL l (q.oF (by rw[a_,a_];exact ba l)))
theorem ze{H H':Hp}{p:Kl}{Δ:Fm}(h:Rp K H Δ)(hp:H p=none)(s:aH H H')(hn:H' p=some (.dT [])):Rp K H' ((.dT true [],some (.ref p))::Δ):=
 xa (Γ:=[]) h hp s hn fun _ _ q=>by cases q;exact .dTO hn .nil
theorem mW{H:Hp}{t:T}{x:Option V}{Γ:Fm}(h:Rp K H ((t,x)::Γ)):Rp K H ((er t,x)::Γ):=by
 obtain⟨Hz,N,h,nd,g,d⟩:=h
 cases h with
 | @cons _ _ L M _ _ e h c=>
  rcases h with⟨rfl,rfl⟩ | ⟨v,rfl,h⟩
  ·exact⟨Hz,N,.cons e (.inl ⟨rfl,rfl⟩) c,nd,g,d⟩
  subst e
  have dz:∀ b∈L,Hz b=none:=fun b m=>d b (FN _ m)
  let Z:Hp:=fun b=>if b∈L then H b else Hz b
  have hz:Gr Hz Z:=fun b u r=>by
   have nb:b ∉ L:=fun m=>by
    obtain⟨w,q⟩:=Rd.some r
    rw[dz b m]at q;cases q
   rcases r with r | ⟨o,r⟩
   ·exact .inl (by show(if b∈L then H b else Hz b)=_;rw[if_neg nb];exact r)
   exact .inr ⟨o,by show(if b∈L then H b else Hz b)=_;rw[if_neg nb];exact r⟩
  have zh:Gr Z H:=fun b u r=>by
   by_cases nb:b∈L
   ·rcases r with r | ⟨o,r⟩
    ·exact .inl (by have r:(if b∈L then H b else Hz b)=_:=r;rw[if_pos nb]at r;exact r)
    exact .inr ⟨o,by have r:(if b∈L then H b else Hz b)=_:=r;rw[if_pos nb]at r;exact r⟩
   refine g b u ?_
   rcases r with r | ⟨o,r⟩
   ·exact .inl (by have r:(if b∈L then H b else Hz b)=_:=r;rw[if_neg nb]at r;exact r)
   exact .inr ⟨o,by have r:(if b∈L then H b else Hz b)=_:=r;rw[if_neg nb]at r;exact r⟩
  have nd2:=Gz.mp nd
  refine⟨Z,[]++M,.cons rfl (.inr ⟨v,rfl,h.frz hz fun b m=>?_⟩) (c.move (fun _ _ r=>r) hz fun b m u e=>⟨e,fun n=>n⟩),nd2.2.1,zh,fun b m=>?_⟩
  ·show(if b∈L then H b else Hz b)=_
   rw[if_pos m]
  show(if b∈L then H b else Hz b)=_
  rw[if_neg (fun z=>nd2.2.2 b z b m rfl)]
  exact d b (q_ _ m)
theorem iD{H:Hp}{t:T}{x:Option V}{Γ:Fm}(h:Rp K H ((t,x)::Γ))(n:aN t=true):Rp K H ((t,x)::(t,x)::Γ):=by
 obtain⟨Hz,N,h,nd,g,d⟩:=h
 cases h with
 | @cons _ _ L M _ _ e h c=>
  have hL:L=[]:=by
   rcases h with⟨_,rfl⟩ | ⟨v,_,h⟩
   ·rfl
   exact h.nil_of n
  subst hL
  exact⟨Hz,N,.cons (L:=[]) (M:=N) rfl h (.cons e h c),nd,g,d⟩
theorem l5.view {Hz H:Hp}(g:Gr Hz H){t:T}{x:Option V}{L:List Kl}(h:l5 K Hz H t x L):l5 K H H (er t) x []:=by
 rcases h with⟨rfl,rfl⟩ | ⟨v,rfl,h⟩
 ·exact .inl ⟨rfl,rfl⟩
 exact .inr ⟨v,rfl,h.frz g fun _ _=>rfl⟩
theorem RepL.view {Hz H:Hp}(g:Gr Hz H):∀ {Γ:Fm} {L:List Kl},RepL K Hz H Γ L->RepL K H H (Γ.map fun p=>(er p.1,p.2)) []
 | _,_,.nil=>.nil
 | _,_,.cons e h c=>.cons rfl (h.view g) (c.view g)
theorem nk{H:Hp}{Γ:Fm}(h:Rp K H Γ):Rp K H ((Γ.map fun p=>(er p.1,p.2))++[(.kp H,some .non)]):=by
 obtain⟨Hz,N,h,nd,g,d⟩:=h
 refine⟨H,[]++[],(h.view g).app (.cons rfl (.inr ⟨_,rfl,.kp .bh⟩) .nil),GZ,.bh,fun b m=>by cases m⟩
def over(H H':Hp):Hp:=fun b=>match H b with
 | some u=>some u
 | none=>H' b
theorem cL{H H':Hp}{b:Kl}{u:HO}(e:H b=some u):over H H' b=some u:=by unfold over;rw[e]
theorem iL{H H':Hp}{b:Kl}(e:H b=none):over H H' b=H' b:=by unfold over;rw[e]
theorem uI(H H':Hp):aH H (over H H'):=fun b u e=>cL e
theorem nH{H H':Hp}(g:Gr H H'){b:Kl}:over H H' b=H' b\/∃ o u,H' b=some (.frz o u)/\over H H' b=some u:=by
 cases q:H b with
 | none=>exact .inl (iL q)
 | some u=>
  rw[cL q]
  rcases g b u (.inl q)with r | ⟨o,r⟩
  ·exact .inl r.symm
  exact .inr ⟨o,u,r,rfl⟩
theorem oQ{H H':Hp}(g:Gr H H'){b:Kl}{xs:List V}(r:H' b=some (.tup xs)):over H H' b=some (.tup xs):=by
 rcases nH g (b:=b)with e | ⟨o,u,e,_⟩
 ·rw[e];exact r
 rw[r]at e;cases e
theorem mY{H H':Hp}{t:T}{x:Option V}{Γ Δ:Fm}(h:Rp K H Γ)(q:Rp K H' ((t,x)::(Δ++[(.kp H,some .non)])))(n:bP t=true):Gr H H'/\Rp K (over H H') ((t,x)::Γ):=by
 obtain⟨Hy,N',q,nd',g',d'⟩:=q
 cases q with
 | @cons _ _ L M _ _ e h1 c=>
  have hkp:Gr H Hy:=by
   obtain⟨_,_,_,_,c2⟩:=c.split
   cases c2 with
   | cons _ h2 _=>
    rcases h2 with⟨z,_⟩ | ⟨_,_,h2⟩
    ·cases z
    cases h2 with
    | kp z=>exact z
  have gr:=hkp.trans g'
  refine⟨gr,?_⟩
  subst e
  have nd2:=Gz.mp nd'
  have hL:∀ b∈L,H b=none:=fun b m=>hkp.none (d' b (FN _ m))
  obtain⟨Hz,N,h,nd,g,d⟩:=h
  have so:=uI H H'
  have tk:TK H' (over H H'):=fun b xs r=>oQ gr r
  have h1':l5 K Hz (over H H') t x L:=by
   rcases h1 with⟨rfl,rfl⟩ | ⟨v,rfl,h1⟩
   ·exact .inl ⟨rfl,rfl⟩
   refine .inr ⟨v,rfl,h1.Ck tk n fun b m u e=>?_⟩
   have eo:=iL (H':=H') (hL b m)
   exact⟨eo.trans e,fun nt xs r=>nt xs (by rw[<-eo];exact r)⟩
  refine⟨Hz,L++N,.cons rfl h1' (h.move (aH.tk so) .bh fun b m u e=>eN so b u e),?_,g.trans (.of so),?_⟩
  ·rw[Gz]
   refine⟨nd2.1,nd,fun b m b' m' z=>?_⟩
   subst z
   obtain⟨⟨u,e⟩,_⟩:=h.there b m'
   rw[hL b m]at e;cases e
  intro b m
  rcases FF.mp m with m | m
  ·exact g.none (hL b m)
  exact d b m
theorem n9:∀ {ts:List T} {vs:List V} {i:Nat} {t:T},ts.length=vs.length->ts[i]?=some t->∃ w,vs[i]?=some w
 | ts,vs,i,t,l,e=>by
  have h:i < ts.length:=(c_.mp e).1
  exact⟨vs[i]'(by omega),b_ (by omega)⟩
theorem fT{α:Type}:∀ {l:List α} {i:Nat} {x y:α},l[i]?=some y->(l.set i x).set i y=l
 | [],i,x,y,e=>by simp at e
 | a::l,0,x,y,e=>by simp at e;subst e;rfl
 | a::l,i + 1,x,y,e=>by
  simp only[G3]at e
  rw[IB,IB,fT e]
end
theorem jB{α β:Type}:∀ {l:List α} {m:List β} {i:Nat} {a:α} {b:β} (t:α) (y:β),l[i]?=some a->m[i]?=some b->((a,b)::(l.set i t).zip (m.set i y)).Perm ((t,y)::l.zip m)
 | [],m,i,a,b,t,y,h,_=>by simp at h
 | x::l,[],i,a,b,t,y,_,h=>by simp at h
 | x::l,z::m,0,a,b,t,y,h,g=>by
  simp only[HV,JG]at h g
  subst h;subst g
  exact .swap _ _ _
 | x::l,z::m,i + 1,a,b,t,y,h,g=>by
  simp only[G3]at h g
  have p:=jB t y h g
  show JZ ((a,b)::(x,z)::(l.set i t).zip (m.set i y)) ((t,y)::(x,z)::l.zip m)
  exact(Iy _ _ _).trans ((p.cons _).trans (.swap _ _ _))
theorem set_same{α:Type}{l:List α}{i:Nat}{x:α}(h:l[i]?=some x):l.set i x=l:=by
 have:=fT (x:=x) h
 rw[IY]at this
 exact this
section
variable{K:Kk}
def Rs(K:Kk)(H:Hp)(env:Ev)(σ:St)(Fr:Fm):Prop:=env.length=σ.length/\Rp K H (env.zip σ++Fr)
theorem dD{H:Hp}{x:Option V}{Γ:Fm}(h:Rp K H Γ):Rp K H ((.any,x)::Γ):=by
 obtain⟨Hz,N,h,nd,g,d⟩:=h
 exact⟨Hz,N,.cons (L:=[]) rfl (.inl ⟨rfl,rfl⟩) h,nd,g,d⟩
theorem Rs.perm {H:Hp}{env:Ev}{σ:St}{Fr Gr:Fm}(h:Rs K H env σ Fr)(p:Fr.Perm Gr):Rs K H env σ Gr:=⟨h.1,h.2.perm (p.append_left _)⟩
theorem Rs.drop {H:Hp}{env:Ev}{σ:St}{x:T × Option V}{Fr:Fm}(h:Rs K H env σ (x::Fr)):Rs K H env σ Fr:=⟨h.1,(h.2.perm d_).tail⟩
theorem Rs.head {H:Hp}{env:Ev}{σ:St}{x:T × Option V}{Fr:Fm}(h:Rs K H env σ (x::Fr)):Rp K H (x::(env.zip σ++Fr)):=h.2.perm d_
theorem Rs.of {H:Hp}{env:Ev}{σ:St}{x:T × Option V}{Fr:Fm}(l:env.length=σ.length)(h:Rp K H (x::(env.zip σ++Fr))):Rs K H env σ (x::Fr):=⟨l,h.perm d_.symm⟩
theorem Rs.chg {H H':Hp}{env:Ev}{σ:St}{Δ Δ' Fr:Fm}(h:Rs K H env σ (Δ++Fr))(f:∀ Γ,Rp K H (Δ++Γ)->Rp K H' (Δ'++Γ)):Rs K H' env σ (Δ'++Fr):=by
 refine⟨h.1,?_⟩
 have p:∀ A:Fm,(A++(env.zip σ++Fr)).Perm (env.zip σ++(A++Fr)):=fun A=>by
  rw[<-i_,<-i_]
  exact Gm.append_right _
 exact(f _ (h.2.perm (p Δ).symm)).perm (p Δ')
theorem Rs.slot {H:Hp}{env:Ev}{σ:St}{Fr:Fm}{i:Nat}{t:T}(h:Rs K H env σ Fr)(e:env[i]?=some t):∃ x,σ[i]?=some x/\Rs K H (env.set i .any) σ ((t,x)::Fr):=by
 have hi:i < env.length:=(c_.mp e).1
 have hs:i < σ.length:=by rw[<-h.1];exact hi
 have ex:σ[i]?=some σ[i]:=b_ hs
 refine⟨σ[i],ex,by rw[FJ];exact h.1,?_⟩
 have p:=jB (T.any) σ[i] e ex
 rw[set_same ex]at p
 refine(dD (x:=σ[i]) h.2).perm ?_
 refine r_ ?_ d_.symm
 exact(p.symm.append_right Fr)
theorem Rs.eY {H:Hp}{env:Ev}{σ:St}{Fr:Fm}{i:Nat}{t:T}{x:Option V}(h:Rs K H env σ ((t,x)::Fr))(hi:i < env.length)(ex:σ[i]?=some x):Rs K H (env.set i t) σ Fr:=by
 have e:env[i]?=some env[i]:=b_ hi
 refine⟨by rw[FJ];exact h.1,?_⟩
 have p:=jB t x e ex
 rw[set_same ex]at p
 refine Rp.tail (x:=(env[i],x)) (h.2.perm ?_)
 refine d_.trans ?_
 exact(p.symm.append_right Fr)
theorem Rs.store {H:Hp}{env:Ev}{σ:St}{Fr:Fm}{i:Nat}{t:T}{v:V}(h:Rs K H env σ ((t,some v)::Fr))(hi:i < env.length):Rs K H (env.set i t) (σ.set i (some v)) Fr:=by
 have e:env[i]?=some env[i]:=b_ hi
 have hs:i < σ.length:=by rw[<-h.1];exact hi
 have ex:σ[i]?=some σ[i]:=b_ hs
 refine⟨by rw[FJ,FJ];exact h.1,?_⟩
 have p:=jB t (some v) e ex
 refine Rp.tail (x:=(env[i],σ[i])) (h.2.perm ?_)
 refine d_.trans ?_
 exact(p.symm.append_right Fr)
end
theorem kG{X:Cx}{pins:List (Kl × Obj)}{σ σ':St}{H H':Hp}{s s':Km}(I:Inv X pins σ H s)(J:Inv X pins σ' H' s')(g:Gr H H'):Inv X pins σ' (over H H') s':=by
 have nn:∀ b,H' b=none->over H H' b=none:=fun b e=>by rw[iL (g.none e)];exact e
 refine⟨J.ok,J.os,J.bare,⟨J.base.keep,J.base.slot,?_,J.base.there,?_,?_,?_⟩,J.loc,J.cell,nn _ J.free,fun x c e=>nn _ (J.freeC x c e),fun p hp=>?_,?_,J.len⟩
 ·exact fun b o e1 e2 e3=>nn _ (J.base.free b o e1 e2 e3)
 ·exact fun b xs e=>cL (I.base.tups b xs e)
 ·exact fun b o u e=>cL (I.base.frzs b o u e)
 ·exact fun b ps e=>by
   obtain⟨m,em⟩:=I.base.tbls b ps e
   exact⟨m,cL em⟩
 ·obtain⟨h1,h2,h3⟩:=J.pin p hp
  exact⟨h1,nn _ h2,h3⟩
 intro b u e
 have ho:∀ c y,H' c=some (.own y)->over H H' c=some (.own y):=fun c y q=>by
  rcases nH g (b:=c)with z | ⟨o,w,z,_⟩
  ·rw[z];exact q
  rw[q]at z;cases z
 have ht:∀ c xs,H' c=some (.tup xs)->over H H' c=some (.tup xs):=fun c xs q=>oQ g q
 have key:aW X.prog X.w H' s'.heap b u:=by
  rcases nH g (b:=b)with z | ⟨o,w,z,zw⟩
  ·rw[z]at e;exact J.hok b u e
  rw[zw]at e
  cases e
  exact(J.hok b _ z).2
 exact key.eB (fun c v _ q=>q) (fun c=>ho c b) ht
theorem yn{X:Cx}{e:KC}{t:TE}(h:PE X e t):PE X e (fun σ H Q=>t σ H fun v H'=>Gr H H'/\Q v (over H H')):=fun pins s σ H Q I q=>
 thn (h pins s σ H _ I q) fun u s' ⟨v,H',I',r,g,q'⟩=>⟨v,over H H',kG I I' g,r,q'⟩
theorem zS{X:Cx}{e:KC}{t:TT}(h:PT X e t):PT X e (fun σ H Q=>t σ H fun b H'=>Gr H H'/\Q b (over H H')):=fun pins s σ H Q I q=>
 thn (h pins s σ H _ I q) fun b s' ⟨H',I',g,q'⟩=>⟨over H H',kG I I' g,q'⟩
abbrev PF:=Ev->(T->Ev->Prop)->Prop
abbrev PB:=Ev->(Bool->Ev->Prop)->Prop
abbrev PFs:=Ev->(List T->Ev->Prop)->Prop
noncomputable def wE(K:Kk)(f:PF):TE:=fun σ H Q=>∃ env Fr k,Rs K H env σ Fr/\f env k/\∀ t env' v H',k t env'->Rs K H' env' σ ((t,some v)::Fr)->Q v H'
noncomputable def wB(K:Kk)(f:PB):TT:=fun σ H Q=>∃ env Fr k,Rs K H env σ Fr/\f env k/\∀ b env' H',k b env'->Rs K H' env' σ Fr->Q b H'
noncomputable def wA(K:Kk)(f:PFs):TA:=fun σ H Q=>∃ env Fr k,Rs K H env σ Fr/\f env k/\∀ ts env' vs H',k ts env'->ts.length=vs.length->Rs K H' env' σ (zz ts vs++Fr)->Q vs H'
def GE(X:Cx)(e:KC)(f:PF):Prop:=PE X e (wE X.K f)
def GT(X:Cx)(e:KC)(f:PB):Prop:=PT X e (wB X.K f)
def GW(X:Cx)(e:KC)(f:PB):Prop:=PW X e (wB X.K f)
def GA(X:Cx)(es:List KC)(f:PFs):Prop:=PA X es (wA X.K f)
theorem PE.imp {X:Cx}{e:KC}{t t':TE}(h:PE X e t)(k:∀ σ H Q,t' σ H Q->t σ H Q):PE X e t':=fun pins s σ H Q I q=>h pins s σ H Q I (k _ _ _ q)
theorem PT.imp {X:Cx}{e:KC}{t t':TT}(h:PT X e t)(k:∀ σ H Q,t' σ H Q->t σ H Q):PT X e t':=fun pins s σ H Q I q=>h pins s σ H Q I (k _ _ _ q)
theorem PW.imp {X:Cx}{e:KC}{t t':TT}(h:PW X e t)(k:∀ σ H Q,t' σ H Q->t σ H Q):PW X e t':=fun wh pins s σ H Q I q=>h wh pins s σ H Q I (k _ _ _ q)
theorem PA.imp {X:Cx}{es:List KC}{t t':TA}(h:PA X es t)(k:∀ σ H Q,t' σ H Q->t σ H Q):PA X es t':=fun pos pins s σ H Q I q=>h pos pins s σ H Q I (k _ _ _ q)
def fQ(f:PF):PF:=fun env k=>f (erL env) fun t _=>bP t=true/\k t env
def fQT(f:PB):PB:=fun env k=>f (erL env) fun b _=>k b env
theorem ju:∀(env:Ev) (σ:St),(env.zip σ).map (fun p=>(er p.1,p.2))=(erL env).zip σ
 | [],σ=>by simp[erL]
 | t::env,[]=>by simp
 | t::env,x::σ=>by
  rw[erL,GH,g_,GH,ju env σ]
theorem aS{X:Cx}{e:KC}{f:PF}(h:GE X e f):GE X e (fQ f):=by
 refine PE.imp (yn h) ?_
 rintro σ H Q ⟨env,Fr,k,rs,q,c⟩
 have rv:Rs X.K H (erL env) σ ((Fr.map fun p=>(er p.1,p.2))++[(.kp H,some .non)]):=by
  refine⟨by rw[jm];exact rs.1,?_⟩
  have:=nk rs.2
  rw[v_,ju,i_]at this
  exact this
 refine⟨erL env,_,_,rv,q,?_⟩
 rintro t env' v H' ⟨n,kt⟩ rs'
 obtain⟨g,r2⟩:=mY rs.2 (Δ:=env'.zip σ++(Fr.map fun p=>(er p.1,p.2))) (by rw[i_];exact rs'.head) n
 exact⟨g,c t env v _ kt (.of rs.1 r2)⟩
theorem xA{K:Kk}{H H':Hp}{Γ Δ:Fm}(h:Rp K H Γ)(q:Rp K H' (Δ++[(.kp H,some .non)])):Gr H H'/\Rp K (over H H') Γ:=by
 obtain⟨g,r⟩:=mY (t:=.any) (x:=none) h (dD q) rfl
 exact⟨g,r.tail⟩
theorem rg{X:Cx}{e:KC}{f:PB}(h:GT X e f):GT X e (fQT f):=by
 refine PT.imp (zS h) ?_
 rintro σ H Q ⟨env,Fr,k,rs,q,c⟩
 have rv:Rs X.K H (erL env) σ ((Fr.map fun p=>(er p.1,p.2))++[(.kp H,some .non)]):=by
  refine⟨by rw[jm];exact rs.1,?_⟩
  have:=nk rs.2
  rw[v_,ju,i_]at this
  exact this
 refine⟨erL env,_,_,rv,q,?_⟩
 rintro b env' H' kt rs'
 obtain⟨g,r2⟩:=xA rs.2 (Δ:=env'.zip σ++(Fr.map fun p=>(er p.1,p.2))) (by rw[i_];exact rs'.2)
 exact⟨g,c b env _ kt ⟨rs.1,r2⟩⟩
def fK(t:T):PF:=fun env k=>k t env
section
variable{X:Cx}{pos:Pos}
theorem kF{K:Kk}{H:Hp}{env:Ev}{σ:St}{Fr:Fm}{t:T}{v:V}(h:Rs K H env σ Fr)(r:∀ Hz,RepT K Hz H t v []):Rs K H env σ ((t,some v)::Fr):=by
 refine .of h.1 ?_
 obtain⟨Hz,N,q,nd,g,d⟩:=h.2
 exact⟨Hz,N,.cons (L:=[]) rfl (.inr ⟨v,rfl,r Hz⟩) q,nd,g,d⟩
theorem ge_int{i:Int}{j:Nat}:GE X (.Constant (.int i) j pos) (fK (.int i)):=PE.imp aZ fun σ H Q ⟨env,Fr,k,rs,q,c⟩=>c _ _ _ _ q (kF rs fun _=>.int)
theorem Aw{b:Bool}{j:Nat}:GE X (.Constant (.bool b) j pos) (fK (.bl b)):=PE.imp w6 fun σ H Q ⟨env,Fr,k,rs,q,c⟩=>c _ _ _ _ q (kF rs fun _=>.bl)
theorem nD{j:Nat}:GE X (.Constant .none j pos) (fK .non):=PE.imp CW fun σ H Q ⟨env,Fr,k,rs,q,c⟩=>c _ _ _ _ q (kF rs fun _=>.non)
def isAny:T->Bool
 | .any=>true
 | _=>false
def zE(i:Nat):PF:=fun env k=>match env[i]? with
 | some t=>isAny t=false/\aN t=true/\k t env
 | none=>False
noncomputable def fFz(i:Nat):PF:=fun env k=>match env[i]? with
 | some t=>isAny t=false/\k (er t) (env.set i (er t))
 | none=>False
def fMv(i:Nat):PF:=fun env k=>match env[i]? with
 | some t=>isAny t=false/\k t (env.set i .any)
 | none=>False
theorem bO{K:Kk}{H:Hp}{env:Ev}{σ:St}{Fr:Fm}{t:T}{x:Option V}(h:Rs K H env σ ((t,x)::Fr))(n:isAny t=false):∃ v,x=some v:=by
 obtain⟨Hz,N,q,_⟩:=h.head
 cases q with
 | cons e h c=>
  rcases h with⟨rfl,_⟩ | ⟨v,e,_⟩
  ·cases n
  exact⟨v,e⟩
theorem ae(i:Nat){x:Str}(hN:X.N[i]?=some x:=by rfl)(hv:Vis X.env.scope x:=by first | exact j' rfl | exact j_ (j' rfl) | exact j_ (j_ rfl))(hd:(x ==("__debug__":Str))=false:=by decide)(hcd:(x ==("__classdict__":Str))=false:=by decide):GE X (.Name x pos) (zE i):=by
 refine PE.imp (d8 hN hv hd hcd) ?_
 rintro σ H Q ⟨env,Fr,k,rs,q,c⟩
 unfold zE at q
 split at q
 ·rename_i t e
  obtain⟨na,no,q⟩:=q
  obtain⟨y,ey,rs2⟩:=rs.slot e
  obtain⟨v,rfl⟩:=bO rs2 na
  refine⟨v,ey,c _ _ _ _ q ?_⟩
  have hi:i < env.length:=(c_.mp e).1
  have r3:Rs X.K H (env.set i .any) σ ((t,some v)::(t,some v)::Fr):=.of rs2.1 ((iD rs2.head no).perm (by
   refine Iz _ ?_
   exact d_.symm))
  have r4:=Rs.eY (i:=i) r3 (by rw[FJ];exact hi) ey
  rw[fT e]at r4
  exact r4
 exact q.elim
theorem aR(i:Nat){x:Str}(hN:X.N[i]?=some x:=by rfl)(hv:Vis X.env.scope x:=by first | exact j' rfl | exact j_ (j' rfl) | exact j_ (j_ rfl))(hd:(x ==("__debug__":Str))=false:=by decide)(hcd:(x ==("__classdict__":Str))=false:=by decide):GE X (.Name x pos) (fFz i):=by
 refine PE.imp (d8 hN hv hd hcd) ?_
 rintro σ H Q ⟨env,Fr,k,rs,q,c⟩
 unfold fFz at q
 split at q
 ·rename_i t e
  obtain⟨na,q⟩:=q
  obtain⟨y,ey,rs2⟩:=rs.slot e
  obtain⟨v,rfl⟩:=bO rs2 na
  refine⟨v,ey,c _ _ _ _ q ?_⟩
  have hi:i < env.length:=(c_.mp e).1
  have no:aN (er t)=true:=bq t
  have r3:Rs X.K H (env.set i .any) σ ((er t,some v)::(er t,some v)::Fr):=.of rs2.1 ((iD (mW rs2.head) no).perm (by
   refine Iz _ ?_
   exact d_.symm))
  have r4:=Rs.eY (i:=i) r3 (by rw[FJ];exact hi) ey
  rw[IY]at r4
  exact r4
 exact q.elim
theorem pO(i:Nat){x:Str}(hN:X.N[i]?=some x:=by rfl)(hv:Vis X.env.scope x:=by first | exact j' rfl | exact j_ (j' rfl) | exact j_ (j_ rfl))(hd:(x ==("__debug__":Str))=false:=by decide)(hcd:(x ==("__classdict__":Str))=false:=by decide):GE X (.Name x pos) (fMv i):=by
 refine PE.imp (d8 hN hv hd hcd) ?_
 rintro σ H Q ⟨env,Fr,k,rs,q,c⟩
 unfold fMv at q
 split at q
 ·rename_i t e
  obtain⟨na,q⟩:=q
  obtain⟨y,ey,rs2⟩:=rs.slot e
  obtain⟨v,rfl⟩:=bO rs2 na
  exact⟨v,ey,c _ _ _ _ q rs2⟩
 exact q.elim
end
section
variable{K:Kk}{H:Hp}{Γ:Fm}
theorem fu{t:T}{y:V}(h:Rp K H ((t,some y)::Γ))(n:isAny t=false):∃ Hz L,RepT K Hz H t y L/\Gr Hz H:=by
 obtain⟨Hz,N,h,nd,g,d⟩:=h
 cases h with
 | cons e h c=>
  rcases h with⟨rfl,_⟩ | ⟨v,e2,h⟩
  ·cases n
  cases e2
  exact⟨Hz,_,h,g⟩
theorem aM{i:Int}{y:V}(h:Rp K H ((.int i,some y)::Γ)):y=.int i:=by
 obtain⟨_,_,r,_⟩:=fu h rfl
 cases r;rfl
theorem oU{i:Bool}{y:V}(h:Rp K H ((.bl i,some y)::Γ)):y=.bl i:=by
 obtain⟨_,_,r,_⟩:=fu h rfl
 cases r;rfl
theorem cE{i:Str}{y:V}(h:Rp K H ((.str i,some y)::Γ)):y=.str i:=by
 obtain⟨_,_,r,_⟩:=fu h rfl
 cases r;rfl
theorem wc{y:V}(h:Rp K H ((.non,some y)::Γ)):y=.non:=by
 obtain⟨_,_,r,_⟩:=fu h rfl
 cases r;rfl
theorem b9{t:T}{v:V}(h:Rp K H Γ)(r:∀ Hz,RepT K Hz H t v []):Rp K H ((t,some v)::Γ):=by
 obtain⟨Hz,N,q,nd,g,d⟩:=h
 exact⟨Hz,N,.cons (L:=[]) rfl (.inr ⟨v,rfl,r Hz⟩) q,nd,g,d⟩
def items:T->Option (List T)
 | .tup ts=>some ts
 | .cst ts=>some ts
 | .lst _ ts=>some ts
 | _=>none
def kY:T->Bool
 | .tup _=>true
 | .cst _=>true
 | _=>false
theorem sV{a:Kl}{vs:List V}(h:SqT K (fun _=>none) a vs)(H:Hp):SqT K H a vs:=by
 rcases h with (h | ⟨_,h⟩) | h
 ·cases h
 ·cases h
 exact .inr h
theorem aB{t:T}{ts:List T}{y:V}(e:items t=some ts)(h:Rp K H ((t,some y)::Γ)):∃ a vs,y=.ref a/\SqG (kY t) K H a vs/\ts.length=vs.length/\Rp K H (zz ts vs++Γ):=by
 obtain⟨Hz,N,h,nd,g,d⟩:=h
 cases h with
 | cons e1 h c=>
  rcases h with⟨rfl,_⟩ | ⟨v,e2,h⟩
  ·cases e
  cases e2
  cases h <;> cases e
  ·rename_i a vs h c1
   exact⟨a,vs,rfl,SqT.of h,c1.len,Hz,_,c1.toL.app c,by rw[<-e1];exact nd,g,fun b m=>d b (by rw[e1];exact m)⟩
  ·rename_i a vs h c1
   exact⟨a,vs,rfl,sV h H,c1.len,Hz,_,c1.toL.app c,by rw[<-e1];exact nd,g,fun b m=>d b (by rw[e1];exact m)⟩
  ·rename_i a vs L h c1
   rw[e1,Gb,D_]at nd
   exact⟨a,vs,rfl,SqL.of h,c1.len,Hz,_,c1.toL.app c,nd.2,g,fun b m=>d b (by rw[e1,Gb];exact o_ _ m)⟩
  rename_i a vs h c1
  exact⟨a,vs,rfl,.inl (g _ _ h),c1.len,Hz,_,c1.toL.app c,by rw[<-e1];exact nd,g,fun b m=>d b (by rw[e1];exact m)⟩
theorem mB:∀ {ts:List T} {vs:List V} {i:Nat} {t:T} {w:V},ts[i]?=some t->vs[i]?=some w->∃ r,(zz ts vs).Perm ((t,some w)::r)
 | [],vs,i,t,w,e,f=>by simp at e
 | t::ts,[],i,_,w,e,f=>by simp at f
 | t::ts,v::vs,0,u,w,e,f=>by
  simp only[HV,JG]at e f
  subst e;subst f
  exact⟨_,.refl _⟩
 | t::ts,v::vs,i + 1,u,w,e,f=>by
  simp only[G3]at e f
  obtain⟨r,h⟩:=mB (ts:=ts) (vs:=vs) e f
  exact⟨(t,some v)::r,(h.cons _).trans (.swap _ _ _)⟩
theorem gB{ts:List T}{vs:List V}{i:Nat}{t:T}{w:V}(h:Rp K H (zz ts vs++Γ))(e:ts[i]?=some t)(f:vs[i]?=some w):Rp K H ((t,some w)::Γ):=by
 obtain⟨r,p⟩:=mB e f
 refine Rp.part (Γ:=r) (h.perm ?_)
 refine(p.append_right Γ).trans ?_
 exact d_.symm
theorem wQ{ts:List T}{vs:List V}{i:Int}{t:T}(l:ts.length=vs.length)(e:atI ts i=some t)(h:Rp K H (zz ts vs++Γ)):∃ w,atI vs i=some w/\Rp K H ((t,some w)::Γ):=by
 unfold atI at e ⊢
 rw[l]at e
 cases q:ixN vs.length i with
 | none=>rw[q]at e;cases e
 | some j=>
  rw[q]at e
  have e:ts[j]?=some t:=e
  obtain⟨w,f⟩:=n9 l e
  exact⟨w,f,gB h e f⟩
end
def got{α:Type}(o:Option α)(k:α->Prop):Prop:=match o with
 | some u=>k u
 | none=>False
theorem BF{α:Type}{o:Option α}{u:α}{k:α->Prop}(e:o=some u)(h:k u):got o k:=by rw[e];exact h
theorem az{α:Type}{o:Option α}{k:α->Prop}(h:got o k):∃ u,o=some u/\k u:=by
 cases o with
 | none=>exact h.elim
 | some u=>exact⟨u,rfl,h⟩
def cnd(b:Bool)(A B:Prop):Prop:=(b=true->A)/\(b=false->B)
theorem AU{A B:Prop}(h:A):cnd true A B:=⟨fun _=>h,fun e=>by cases e⟩
theorem E7{A B:Prop}(h:B):cnd false A B:=⟨fun e=>(by cases e),fun _=>h⟩
theorem eO{b:Bool}{A B:Prop}(h:cnd b A B):if b=true then A else B:=by
 cases b with
 | true=>rw[if_pos rfl];exact h.1 rfl
 | false=>rw[if_neg (by decide)];exact h.2 rfl
abbrev P2:=T->T->(T->Prop)->Prop
noncomputable def w2(K:Kk)(g:P2):R2:=fun x y H Q=>∃ tx ty Γ k,Rp K H ((ty,some y)::(tx,some x)::Γ)/\g tx ty k/\∀ t v H',k t->Rp K H' ((t,some v)::Γ)->Q v H'
def OpP(X:Cx)(f:Kj->Kj->Sem Kj)(g:P2):Prop:=OpR X f (w2 X.K g)
theorem OpP.of {X:Cx}{f:Kj->Kj->Sem Kj}{g:P2}{r:R2}(h:OpR X f r)(k:∀ tx ty x y H Γ (k:T->Prop) (Q:VK),Rp X.K H ((ty,some y)::(tx,some x)::Γ)->g tx ty k->(∀ t v H',k t->Rp X.K H' ((t,some v)::Γ)->Q v H')->r x y H Q):OpP X f g:=
 fun pins s σ H x y v u Q I rx ry ⟨tx,ty,Γ,kk,rp,g,c⟩=>h pins s σ H x y v u Q I rx ry (k tx ty x y H Γ kk Q rp g c)
def ur(g:P2)(a b:PF):PF:=fun env k=>a env fun x env1=>b env1 fun y env2=>g x y fun t=>k t env2
theorem sH{X:Cx}{g:P2}{fa fb:PF}:∀ σ H Q,wE X.K (ur g fa fb) σ H Q->tOp (w2 X.K g) (wE X.K fa) (wE X.K fb) σ H Q:=by
 rintro σ H Q ⟨env,Fr,k,rs,q,c⟩
 refine⟨env,Fr,_,rs,q,fun tx env1 x H1 q1 rs1=>⟨env1,_,_,rs1,q1,fun ty env2 y H2 q2 rs2=>?_⟩⟩
 refine⟨tx,ty,env2.zip σ++Fr,_,?_,q2,fun t v H' kt rp=>c _ _ _ _ kt (.of rs2.1 rp)⟩
 exact rs2.head.perm (.cons _ d_)
section
variable{X:Cx}{a b c d:KC}{fa fb fc fd:PF}{pos:Pos}
theorem bc{op:NK}{g:P2}(ho:OpP X (Lf op) g)(ha:GE X a fa)(hb:GE X b fb):GE X (.BinOp a op b pos) (ur g fa fb):=PE.imp (bC ho ha hb) sH
theorem qo{op:NV}{g:P2}(ho:OpP X (K4 op) g)(ha:GE X a fa)(hb:GE X b fb)(hm:LO op b=false):GE X (.Compare a [op] [b] pos) (ur g fa fb):=PE.imp (nq ho ha hb hm) sH
def CB(f:PF):PB:=fun env k=>f env fun t env'=>match t with
 | .bl b=>k b env'
 | _=>False
theorem CD{K:Kk}{f:PF}:∀ σ H Q,wB K (CB f) σ H Q->Ax (wE K f) σ H Q:=by
 rintro σ H Q ⟨env,Fr,k,rs,q,c⟩
 refine⟨env,Fr,_,rs,q,fun t env' v H' q1 rs1=>?_⟩
 cases t <;> first | exact q1.elim | skip
 rename_i b
 exact⟨b,oU rs1.head,c _ _ _ q1 rs1.drop⟩
theorem e9{op:NV}{g:P2}(ho:OpP X (K4 op) g)(ha:GE X a fa)(hb:GE X b fb)(hm:LO op b=false):GT X (.Compare a [op] [b] pos) (CB (ur g fa fb)):=by
 refine PT.imp (eI ho ha hb hm) fun σ H Q h=>?_
 obtain⟨env,Fr,k,rs,q,c⟩:=CD σ H Q h
 exact sH σ H _ ⟨env,Fr,k,rs,q,c⟩
noncomputable def wy:T->(Bool->Prop)->Prop
 | .non,k=>k false
 | .bl b,k=>k b
 | .int i,k=>k (i != 0)
 | .str x,k=>x.length<=sizeLine/\k ((x.length:Int) != 0)
 | .tup ts,k=>k (!ts.isEmpty)
 | .cst ts,k=>k (!ts.isEmpty)
 | .lst _ ts,k=>k (!ts.isEmpty)
 | _,_=>False
def E3(f:PF):PB:=fun env k=>f env fun t env'=>wy t fun b=>k b env'
theorem qj{α β:Type}{l:List α}{m:List β}(h:l.length=m.length):l.isEmpty=m.isEmpty:=by
 cases l <;> cases m <;> first | rfl | simp at h
theorem iA(ha:GE X a fa)(he:∀ whole,N9 a X.env whole=(do let v <-whole;O0 a.pos;MA [v] (Q3 v)):=by intro _;rfl):GT X a (E3 fa):=by
 refine PT.imp (vd ha he) ?_
 rintro σ H Q ⟨env,Fr,k,rs,q,c⟩
 refine⟨env,Fr,_,rs,q,fun t env' v H' q1 rs1=>?_⟩
 have fin:∀ b,k b env'->Q b H':=fun b kb=>c _ _ _ kb rs1.drop
 have sq:∀ ts b,items t=some ts->b=(!ts.isEmpty)->k b env'->∃ b,Cz X.K v H' b/\Q b H':=fun ts b e eb kb=>by
  obtain⟨a,vs,rfl,hq,l,_⟩:=aB e rs1.head
  refine⟨b,?_,fin b kb⟩
  rw[qj l]at eb
  revert hq
  cases kY t with
  | true=>exact fun hq=>.inr (.inl ⟨vs,hq,eb⟩)
  | false=>exact fun hq=>.inl ⟨vs,hq,eb⟩
 cases t with
 | non=>rw[wc rs1.head];exact⟨_,rfl,fin _ q1⟩
 | bl b=>rw[oU rs1.head];exact⟨_,rfl,fin _ q1⟩
 | int i=>rw[aM rs1.head];exact⟨_,rfl,fin _ q1⟩
 | str x=>rw[cE rs1.head];exact⟨_,⟨q1.1,rfl⟩,fin _ q1.2⟩
 | tup ts=>exact sq _ _ rfl rfl q1
 | cst ts=>exact sq _ _ rfl rfl q1
 | lst o ts=>exact sq _ _ rfl rfl q1
 | _=>exact q1.elim
def B1(ta tb:PB):PB:=fun env k=>ta env fun b env1=>cnd b (tb env1 k) (k false env1)
def B6(ta:PB):PB:=fun env k=>ta env fun b env1=>k (!b) env1
variable{ta tb:PB}{rest:List KC}
theorem sZ(ha:GT X a ta):GW X (.BoolOp .And [a] pos) ta:=yb ha
theorem wL(ha:GT X a ta)(hb:GW X (.BoolOp .And (b::rest) pos) tb):GW X (.BoolOp .And (a::b::rest) pos) (B1 ta tb):=by
 refine PW.imp (Cj ha hb) ?_
 rintro σ H Q ⟨env,Fr,k,rs,q,c⟩
 refine⟨env,Fr,_,rs,q,fun b env' H' q1 rs1=>eO ⟨fun e=>?_,fun e=>?_⟩⟩
 ·exact⟨env',Fr,k,rs1,q1.1 e,c⟩
 exact c _ _ _ (q1.2 e) rs1
theorem DZ{f:PB}(h:GW X a f):GT X a f:=PW.pt h
theorem rS(ha:GT X a ta):GT X (.UnaryOp .Not a pos) (B6 ta):=by
 refine PT.imp (BI ha) ?_
 rintro σ H Q ⟨env,Fr,k,rs,q,c⟩
 exact⟨env,Fr,_,rs,q,fun b env' H' q1 rs1=>c _ _ _ q1 rs1⟩
noncomputable def Es(fa fb:PF):PF:=fun env k=>fa env fun t env1=>match t with
 | .bl b=>cnd b (fb env1 k) (k (.bl false) env1)
 | _=>False
def fIf(tc:PB)(fa fb:PF):PF:=fun env k=>tc env fun b env1=>cnd b (fa env1 k) (fb env1 k)
theorem CO{op}(h:GE X a fa):GE X (.BoolOp op [a] pos) fa:=qH h
theorem BE(ha:GE X a fa)(hb:GE X (.BoolOp .And (b::rest) pos) fb):GE X (.BoolOp .And (a::b::rest) pos) (Es fa fb):=by
 refine PE.imp (mS ha hb) ?_
 rintro σ H Q ⟨env,Fr,k,rs,q,c⟩
 refine⟨env,Fr,_,rs,q,fun t env' v H' q1 rs1=>?_⟩
 cases t <;> first | exact q1.elim | skip
 rename_i bb
 refine⟨bb,oU rs1.head,eO ⟨fun e=>?_,fun e=>?_⟩⟩
 ·exact⟨env',Fr,k,rs1.drop,q1.1 e,c⟩
 exact c _ _ _ _ (q1.2 e) (kF rs1.drop fun _=>.bl)
theorem ge_if(hc:GT X c ta)(ha:GE X a fa)(hb:GE X b fb):GE X (.IfExp c a b pos) (fIf ta fa fb):=by
 refine PE.imp (w9 hc ha hb) ?_
 rintro σ H Q ⟨env,Fr,k,rs,q,c⟩
 refine⟨env,Fr,_,rs,q,fun b env' H' q1 rs1=>eO ⟨fun e=>?_,fun e=>?_⟩⟩
 ·exact⟨env',Fr,k,rs1,q1.1 e,c⟩
 exact⟨env',Fr,k,rs1,q1.2 e,c⟩
def Dn:PFs:=fun env k=>k [] env
def B0(f:PF)(r:PFs):PFs:=fun env k=>f env fun t env1=>r env1 fun ts env2=>k (t::ts) env2
variable{es:List KC}{fr:PFs}
theorem ag:GA X [] Dn:=PA.imp aP fun σ H Q ⟨env,Fr,k,rs,q,c⟩=>c [] env [] H q rfl rs
theorem ab(ha:GE X a fa)(hr:GA X es fr)(hs:KG (a::es) X.env=(false,KR a X.env)::KG es X.env:=by rfl):GA X (a::es) (B0 fa fr):=by
 refine PA.imp (aj ha hr hs) ?_
 rintro σ H Q ⟨env,Fr,k,rs,q,c⟩
 refine⟨env,Fr,_,rs,q,fun t env1 v H1 q1 rs1=>⟨env1,_,_,rs1,q1,fun ts env2 vs H2 q2 l rs2=>c _ _ _ _ q2 (by rw[k_,k_,l]) ?_⟩⟩
 exact rs2.perm d_
def ED(fr:PFs):PF:=fun env k=>fr env fun ts env1=>ts.length<=sizeLine/\k (.tup ts) env1
def E1(fr:PFs):PF:=fun env k=>fr env fun ts env1=>ts.length<=sizeLine/\k (.lst true ts) env1
theorem bu{x1}(h:GA X es fr):GE X (.Tuple es x1 pos) (ED fr):=by
 refine PE.imp (A7 h) ?_
 rintro σ H Q ⟨env,Fr,k,rs,q,c⟩
 refine⟨env,Fr,_,rs,q,fun ts env1 vs H1 ⟨z,q1⟩ l rs1=>⟨by rw[<-l];exact z,fun p H2 hp g e=>c _ _ _ _ q1 ?_⟩⟩
 exact Rs.chg (Δ:=zz ts vs) (Δ':=[(.tup ts,some (.ref p))]) rs1 fun Γ r=>fB r l g e
theorem aT(h:GA X es fr):GE X (.List es pos) (E1 fr):=by
 refine PE.imp (Ad h) ?_
 rintro σ H Q ⟨env,Fr,k,rs,q,c⟩
 refine⟨env,Fr,_,rs,q,fun ts env1 vs H1 ⟨z,q1⟩ l rs1=>⟨by rw[<-l];exact z,fun p H2 hp g e=>c _ _ _ _ q1 ?_⟩⟩
 exact Rs.chg (Δ:=zz ts vs) (Δ':=[(.lst true ts,some (.ref p))]) rs1 fun Γ r=>fy r l hp g e
end
open PySem PySem.Spec PyProof.Rows L2
mutual
def dt:T->Dt
 | .int i=>.int i
 | .bl b=>.bl b
 | .str x=>.str x
 | .tup ts=>.tup (dtL ts)
 | .cst ts=>.tup (dtL ts)
 | .lst _ ts=>.lst (dtL ts)
 | _=>.non
def dtL:List T->List Dt
 | []=>[]
 | t::r=>dt t::dtL r
end
mutual
def isD:T->Bool
 | .tup ts=>cA ts
 | .cst ts=>cA ts
 | .lst _ ts=>cA ts
 | .int _=>true
 | .bl _=>true
 | .str _=>true
 | .non=>true
 | _=>false
def cA:List T->Bool
 | []=>true
 | t::r=>isD t && cA r
end
theorem tQ{α:Type}(g:α->T):∀ l:List α,dtL (l.map g)=l.map fun x=>dt (g x)
 | []=>rfl
 | x::r=>by rw[g_,dtL,tQ g r,g_]
theorem jM(l:List T):dtL l=l.map dt:=by
 have:=tQ (fun x=>x) l
 rw[List.map_id']at this
 exact this
section
variable{K:Kk}
theorem sT{Hz H:Hp}(g:Gr Hz H):(∀ {t v L},RepT K Hz H t v L->isD t=true->Has K H (dt t) v)/\(∀ {t v L},RepTs K Hz H t v L->cA t=true->au K H (dtL t) v)/\(∀ {t v L},RepKs K Hz H t v L->True)/\(∀ {t v L},RepXs K Hz H t v L->True):=
 eG (P:=fun t v L=>isD t=true->Has K H (dt t) v) (Ps:=fun t v L=>cA t=true->au K H (dtL t) v) (Pk:=fun t v L=>True) (Px:=fun t v L=>True)
  (fun n=>nomatch n) (fun n=>nomatch n) (fun _ _ n=>nomatch n) (fun _ n=>nomatch n) (fun _=>by show Has K H .non .non;rw[Has]) (fun _=>by rw[dt,Has]) (fun _=>by rw[dt,Has]) (fun _=>by rw[dt,Has]) (fun n=>nomatch n)
  (fun h c n=>by rw[dt,Has];exact⟨_,_,rfl,SqT.of h,c (by rw[isD]at n;exact n)⟩) (fun h c n=>by rw[dt,Has];exact⟨_,_,rfl,sV h H,c (by rw[isD]at n;exact n)⟩)
  (fun h c n=>by rw[dt,Has];exact⟨_,_,rfl,SqL.of h,c (by rw[isD]at n;exact n)⟩) (fun h c n=>by rw[dt,Has];exact⟨_,_,rfl,.inl (g _ _ h),c (by rw[isD]at n;exact n)⟩)
  (fun _ _ n=>nomatch n) (fun _ _ n=>nomatch n) (fun _ _ n=>nomatch n) (fun _ _ n=>nomatch n)
  (fun _=>by rw[dtL];exact gJ) (fun i j n=>by
   rw[cA,FI]at n
   rw[dtL]
   exact iE (i n.1) (j n.2)) trivial (fun _ _=>trivial) trivial (fun _ _=>trivial)
theorem RepT.has {Hz H:Hp}(g:Gr Hz H){t:T}{v:V}{L:List Kl}(n:isD t=true)(h:RepT K Hz H t v L):Has K H (dt t) v:=(sT g).1 h n
theorem RepTs.has {Hz H:Hp}(g:Gr Hz H){t:List T}{v:List V}{L:List Kl}(n:cA t=true)(h:RepTs K Hz H t v L):au K H (dtL t) v:=(sT g).2.1 h n
theorem Al{t:T}(h:isD t=true):isAny t=false:=by cases t <;> first | rfl | cases h
theorem cz{H:Hp}{Γ:Fm}{t:T}{y:V}(h:Rp K H ((t,some y)::Γ))(n:isD t=true):Has K H (dt t) y:=by
 obtain⟨Hz,L,r,g⟩:=fu h (Al n)
 exact r.has g n
theorem jz{H:Hp}{Γ:Fm}{ts:List T}{vs:List V}(h:Rp K H (zz ts vs++Γ))(l:ts.length=vs.length)(n:cA ts=true):au K H (dtL ts) vs:=by
 obtain⟨Hz,N,h,nd,g,d⟩:=h
 obtain⟨L,M,_,h1,_⟩:=h.split
 exact(h1.oF l).has g n
end
noncomputable def CC:P2
 | .int i,.int j,k=>k (.int (i + j))
 | .str x,.str y,k=>x.length + y.length<=sizeLine/\k (.str (x++y))
 | .lst _ ts,.lst _ us,k=>ts.length + us.length<=sizeLine/\k (.lst true (ts++us))
 | .tup ts,.tup us,k=>ts.length + us.length<=sizeLine/\k (.tup (ts++us))
 | _,_,_=>False
def Eb:P2
 | .int i,.int j,k=>k (.int (i - j))
 | _,_,_=>False
def Ei:P2
 | .int i,.int j,k=>v9 i j/\k (.int (i * 2 ^ j.toNat))
 | _,_,_=>False
def Ew:P2
 | .int i,.int j,k=>k (.int (MM i j))
 | _,_,_=>False
def orT:P2
 | .int i,.int j,k=>k (.int (LR i j))
 | _,_,_=>False
def Fc(p:Int->Int->Bool):P2
 | .int i,.int j,k=>k (.bl (p i j))
 | _,_,_=>False
def gtT:P2:=Fc fun i j=>decide (j < i)
def eqT:P2:=fun t u k=>isD t=true/\isD u=true/\dpt (dt t) < 190/\k (.bl (eqD (dt t) (dt u)))
def neT:P2:=fun t u k=>isD t=true/\isD u=true/\dpt (dt t) < 190/\k (.bl (!eqD (dt t) (dt u)))
section
variable{X:Cx}
theorem yL{f:Kj->Kj->Sem Kj}{C:Int->Int->Prop}{r:Int->Int->T}{r':Int->Int->V}(h:OpR X f (rI C r'))(hr:∀ i j K Hz H,RepT K Hz H (r i j) (r' i j) []):OpP X f (fun t u k=>match t,u with | .int i,.int j=>C i j/\k (r i j) | _,_=>False):=by
 refine .of h ?_
 intro tx ty x y H Γ k Q rp g c
 cases tx <;> cases ty <;> first | exact g.elim | skip
 rename_i i j
 rw[aM rp,aM rp.tail]
 exact⟨i,j,rfl,rfl,g.1,c _ _ _ g.2 (b9 rp.tail.tail fun Hz=>hr i j _ _ _)⟩
theorem fW{f:Kj->Kj->Sem Kj}{r:Int->Int->T}{r':Int->Int->V}(h:OpR X f (rI0 r'))(hr:∀ i j K Hz H,RepT K Hz H (r i j) (r' i j) []):OpP X f (fun t u k=>match t,u with | .int i,.int j=>k (r i j) | _,_=>False):=by
 refine .of h ?_
 intro tx ty x y H Γ k Q rp g c
 cases tx <;> cases ty <;> first | exact g.elim | skip
 rename_i i j
 rw[aM rp,aM rp.tail]
 exact⟨i,j,rfl,rfl,c _ _ _ g (b9 rp.tail.tail fun Hz=>hr i j _ _ _)⟩
theorem OpP.imp {f:Kj->Kj->Sem Kj}{g g':P2}(h:OpP X f g)(k:∀ tx ty k,g' tx ty k->g tx ty k):OpP X f g':=OpR.imp h fun x y H Q ⟨tx,ty,Γ,kk,rp,gg,c⟩=>⟨tx,ty,Γ,kk,rp,k _ _ _ gg,c⟩
theorem Inv.F2 {pins:List (Kl × Obj)}{σ:L2.St}{H:Hp}{s:Km}{l:Kl}{xs:List V}(I:Inv X pins σ H s)(hH:Rd H l (.lst xs)):xs.length<=sizeLine/\∃(its:List Kj) (n:Nat),Vals xs its/\xs.length=its.length/\s.heap.get? l=some { cls:=.type "list",data:=.seq its.toArray n }:=by
 obtain⟨z,its,n,r,e⟩:=hH.ok I.hok
 exact⟨z,its,n,r,r.length,e⟩
theorem zP:OpR X (Lf .Add) (fun x y H Q=>∃ l b xs zs,x=.ref l/\y=.ref b/\Rd H l (.lst xs)/\Rd H b (.lst zs)/\xs.length + zs.length<=sizeLine/\New (.lst (xs++zs)) H Q):=by
 intro pins s σ H x y v u Q I rx ry h
 obtain⟨l,b,xs,zs,rfl,rfl,hH,hB,hz,q⟩:=h
 cases rx
 cases ry
 obtain⟨z,its,n,r,hl,e⟩:=Inv.F2 I hH
 obtain⟨z2,its2,n2,r2,hl2,e2⟩:=Inv.F2 I hB
 refine PySem.P.add_list e e2 ?_ (by rw[l_,l_];lia)
 have ea:its.toArray++its2.toArray=(its++its2).toArray:=by simp
 rw[ea]
 exact⟨.ref _,_,I.DX (t':=s.toks) (r.append r2) (by rw[h_];omega),rfl,q.at I.fresh⟩
theorem nO{K:Kk}{H:Hp}{Γ:Fm}{o:Bool}{ts:List T}{y:V}(h:Rp K H ((.lst o ts,some y)::Γ)):∃ a vs,y=.ref a/\Rd H a (.lst vs)/\ts.length=vs.length/\Rp K H (zz ts vs++Γ):=by
 obtain⟨Hz,N,h,nd,g,d⟩:=h
 cases h with
 | cons e1 h c=>
  rcases h with⟨z,_⟩ | ⟨v,e2,h⟩
  ·cases z
  cases e2
  cases h
  ·rename_i a vs L h c1
   rw[e1,Gb,D_]at nd
   exact⟨a,vs,rfl,.inl h,c1.len,Hz,_,c1.toL.app c,nd.2,g,fun b m=>d b (by rw[e1,Gb];exact o_ _ m)⟩
  rename_i a vs h c1
  exact⟨a,vs,rfl,g _ _ h,c1.len,Hz,_,c1.toL.app c,by rw[<-e1];exact nd,g,fun b m=>d b (by rw[e1];exact m)⟩
theorem gX{K:Kk}{H:Hp}{Γ:Fm}{ts:List T}{y:V}(h:Rp K H ((.tup ts,some y)::Γ)):∃ a vs,y=.ref a/\H a=some (.tup vs)/\ts.length=vs.length/\Rp K H (zz ts vs++Γ):=by
 obtain⟨Hz,N,h,nd,g,d⟩:=h
 cases h with
 | cons e1 h c=>
  rcases h with⟨z,_⟩ | ⟨v,e2,h⟩
  ·cases z
  cases e2
  cases h with
  | tup h c1=>exact⟨_,_,rfl,h,c1.len,Hz,_,c1.toL.app c,by rw[<-e1];exact nd,g,fun b m=>d b (by rw[e1];exact m)⟩
theorem fj{ts us:List T}{vs ws:List V}(l:ts.length=vs.length):zz (ts++us) (vs++ws)=zz ts vs++zz us ws:=by
 show(ts++us).zip ((vs++ws).map some)=_
 rw[v_,JV (by rw[a_];exact l)]
theorem zB:OpR X (Lf .Add) (fun x y H Q=>∃ a b ys,x=.ref a/\y=.ref b/\SqT X.K H a []/\SqT X.K H b ys/\Q (.ref b) H):=by
 intro pins s σ H x y v u Q I rx ry h
 obtain⟨a,b,ys,rfl,rfl,ha,hb,q⟩:=h
 cases rx
 cases ry
 obtain⟨its,r1,p1,_⟩:=I.tuple ha
 obtain⟨its2,r2,p2,_⟩:=I.tuple hb
 cases r1
 obtain⟨⟨cls,dd,data,sl⟩,ho,hc,n,hd⟩:=id p1
 obtain⟨⟨cls2,dd2,data2,sl2⟩,ho2,hc2,n2,hd2⟩:=id p2
 simp only at hc hd hc2 hd2
 subst hc hd hc2 hd2
 exact OQ ⟨_,ho,rfl⟩ ⟨_,ho2,rfl⟩ NL OB M0 MU (MF _ _)
  (tuple_addW0 a b _ its2.toArray n n2 dd dd2 sl sl2 (by simp)) ⟨ho,ho2,⟨.ref b,H,I,rfl,q⟩⟩
theorem d4:OpP X (Lf .Add) CC:=by
 rintro pins s σ H x y v u Q I rx ry ⟨tx,ty,Γ,k,rp,g,c⟩
 cases tx <;> cases ty <;> first | exact KJ g | skip
 ·rename_i i j
  rw[aM rp]at ry;rw[aM rp.tail]at rx
  exact kH pins s σ H _ _ v u Q I rx ry ⟨i,j,rfl,rfl,c _ _ _ g (b9 rp.tail.tail fun _=>.int)⟩
 ·rename_i i j
  rw[cE rp]at ry;rw[cE rp.tail]at rx
  exact rD pins s σ H _ _ v u Q I rx ry ⟨i,j,rfl,rfl,g.1,c _ _ _ g.2 (b9 rp.tail.tail fun _=>.str)⟩
 ·rename_i ts us
  obtain⟨b,ws,rfl,hb,lb,rp2⟩:=gX rp
  obtain⟨a,vs,rfl,ha,la,rp3⟩:=gX (rp2.perm d_)
  have lz:vs.length + ws.length<=sizeLine:=by rw[<-la,<-lb];exact g.1
  have rp4:Rp X.K H (zz (ts++us) (vs++ws)++Γ):=by
   rw[fj la,i_];exact rp3
  by_cases hx:vs=[]
  ·subst hx
   refine zB pins s σ H _ _ v u Q I rx ry ⟨a,b,ws,rfl,rfl,SqT.of ha,SqT.of hb,?_⟩
   refine c _ _ _ g.2 (fB rp4 (by rw[h_,h_,la,lb]) .bh ?_)
   rw[GO];exact hb
  refine yJ pins s σ H _ _ v u Q I rx ry ⟨a,b,vs,ws,rfl,rfl,SqT.of ha,SqT.of hb,hx,lz,fun e=>?_,fun _ p hp=>c _ _ _ g.2 (fB rp4 (by rw[h_,h_,la,lb]) (aO hp _) ax)⟩
  refine c _ _ _ g.2 (fB rp4 (by rw[h_,h_,la,lb]) .bh ?_)
  rw[e,FX];exact ha
 rename_i o ts o' us
 obtain⟨b,ws,rfl,hb,lb,rp2⟩:=nO rp
 obtain⟨a,vs,rfl,ha,la,rp3⟩:=nO (rp2.perm d_)
 have lz:vs.length + ws.length<=sizeLine:=by rw[<-la,<-lb];exact g.1
 have rp4:Rp X.K H (zz (ts++us) (vs++ws)++Γ):=by
  rw[fj la,i_];exact rp3
 exact zP pins s σ H _ _ v u Q I rx ry ⟨a,b,vs,ws,rfl,rfl,ha,hb,lz,fun p H' hp g' e=>c _ _ _ g.2 (fy rp4 (by rw[h_,h_,la,lb]) hp g' e)⟩
theorem yS:OpP X (Lf .Sub) Eb:=(fW (r:=fun i j=>.int (i - j)) Bj fun _ _ _ _ _=>.int).imp fun tx ty k g=>by cases tx <;> cases ty <;> exact g
theorem gF:OpP X (Lf .LShift) Ei:=(yL (r:=fun i j=>.int (i * 2 ^ j.toNat)) Bb fun _ _ _ _ _=>.int).imp fun tx ty k g=>by cases tx <;> cases ty <;> exact g
theorem tE:OpP X (Lf .BitAnd) Ew:=(fW (r:=fun i j=>.int (MM i j)) BQ fun _ _ _ _ _=>.int).imp fun tx ty k g=>by cases tx <;> cases ty <;> exact g
theorem CQ:OpP X (Lf .BitOr) orT:=(fW (r:=fun i j=>.int (LR i j)) DP fun _ _ _ _ _=>.int).imp fun tx ty k g=>by cases tx <;> cases ty <;> exact g
theorem BU:OpP X (K4 .Gt) gtT:=(fW (r:=fun i j=>.bl (decide (j < i))) DG fun _ _ _ _ _=>.bl).imp fun tx ty k g=>by cases tx <;> cases ty <;> exact g
theorem AS{k:Nat}{A:KN}(r:Room k A){n:Nat}(h:n < 190):A.units + n < cLine:=by have:=r.un;lia
theorem jE{k:Nat}(hr:Room k X.A):OpP X (K4 .Eq) eqT:=.of xY fun tx ty x y H Γ k Q rp ⟨d1,d2,z,g⟩ c=>
 ⟨dt tx,dt ty,cz rp.tail d1,cz rp d2,AS hr z,c _ _ _ g (b9 rp.tail.tail fun _=>.bl)⟩
theorem r6{k:Nat}(hr:Room k X.A):OpP X (K4 .NotEq) neT:=.of Bc fun tx ty x y H Γ k Q rp ⟨d1,d2,z,g⟩ c=>
 ⟨dt tx,dt ty,cz rp.tail d1,cz rp d2,AS hr z,c _ _ _ g (b9 rp.tail.tail fun _=>.bl)⟩
end
open PySem PySem.Spec PyProof.Rows L2
def oI:T->Option Key
 | .int i=>some (.inl i)
 | .str x=>some (.inr x)
 | .non=>some (.inr none)
 | _=>none
noncomputable def dg:List T->Option (List Key)
 | []=>some []
 | t::r=>match oI t,dg r with
  | some k,some ks=>some (k::ks)
  | _,_=>none
section
variable{κ:Type}[DecidableEq κ]
def kB(kvs:List (κ × T))(k:κ):Option T:=(kvs.find? fun kv=>decide (kv.1=k)).map (·.2)
noncomputable def ip(kvs:List (κ × T))(k:κ)(v:T):List (κ × T):=
 if(kvs.any fun kv=>decide (kv.1=k))=true then kvs.map (fun kv=>if kv.1=k then(kv.1,v)else kv)else kvs++[(k,v)]
theorem iT:∀ {ts:List (κ × T)} {vs:List (κ × V)} {q:κ} {u:T},ts.map (·.1)=vs.map (·.1)->kB ts q=some u->∃(w:V) (i:Nat),bR vs q=some w/\(ts.map (·.2))[i]?=some u/\(vs.map (·.2))[i]?=some w
 | [],vs,q,u,e,h=>by cases h
 | (k,t)::ts,[],q,u,e,h=>by cases e
 | (k,t)::ts,(k',v)::vs,q,u,e,h=>by
  rw[g_,g_,HH]at e
  have e0:k=k':=e.1
  subst e0
  unfold kB at h
  rw[FY]at h
  unfold bR
  rw[FY]
  by_cases hk:k=q
  ·have hk':decide (k=q)=true:=decide_eq_true hk
   rw[show decide ((k,t).1=q)=true from hk']at h
   rw[show decide ((k,v).1=q)=true from hk']
   cases h
   exact⟨v,0,rfl,rfl,rfl⟩
  have hk':decide (k=q)=false:=decide_eq_false hk
  rw[show decide ((k,t).1=q)=false from hk']at h
  rw[show decide ((k,v).1=q)=false from hk']
  obtain⟨w,i,h1,h2,h3⟩:=iT (ts:=ts) (vs:=vs) e.2 h
  exact⟨w,i + 1,h1,by simpa using h2,by simpa using h3⟩
theorem cI:∀ {ts:List (κ × T)} {vs:List (κ × V)} (q:κ),ts.map (·.1)=vs.map (·.1)->(kB ts q).isSome=(bR vs q).isSome
 | [],[],q,e=>rfl
 | [],_::_,q,e=>by cases e
 | (k,t)::ts,[],q,e=>by cases e
 | (k,t)::ts,(k',v)::vs,q,e=>by
  rw[g_,g_,HH]at e
  have e0:k=k':=e.1
  subst e0
  have ih:=cI (ts:=ts) (vs:=vs) q e.2
  unfold kB bR at ih ⊢
  rw[FY,FY]
  by_cases hk:k=q
  ·have hk':decide (k=q)=true:=decide_eq_true hk
   rw[show decide ((k,t).1=q)=true from hk']
   rfl
  have hk':decide (k=q)=false:=decide_eq_false hk
  rw[show decide ((k,t).1=q)=false from hk']
  exact ih
end
section
variable{K:Kk}{H:Hp}{Γ:Fm}
theorem mZ{o:Bool}{ts:List (Key × T)}{y:V}(h:Rp K H ((.dK o ts,some y)::Γ)):∃ a vs,y=.ref a/\Rd H a (.dK vs)/\ts.map (·.1)=vs.map (·.1)/\Rp K H (zz (ts.map (·.2)) (vs.map (·.2))++Γ):=by
 obtain⟨Hz,N,h,nd,g,d⟩:=h
 cases h with
 | cons e1 h c=>
  rcases h with⟨z,_⟩ | ⟨v,e2,h⟩
  ·cases z
  cases e2
  cases h
  ·rename_i a vs L h c1
   obtain⟨ek,c2⟩:=c1.toL
   rw[e1,Gb,D_]at nd
   exact⟨a,vs,rfl,.inl h,ek,Hz,_,c2.toL.app c,nd.2,g,fun b m=>d b (by rw[e1,Gb];exact o_ _ m)⟩
  rename_i a vs h c1
  obtain⟨ek,c2⟩:=c1.toL
  exact⟨a,vs,rfl,g _ _ h,ek,Hz,_,c2.toL.app c,by rw[<-e1];exact nd,g,fun b m=>d b (by rw[e1];exact m)⟩
theorem mz{o:Bool}{ts:List (List Key × T)}{y:V}(h:Rp K H ((.dT o ts,some y)::Γ)):∃ a vs,y=.ref a/\Rd H a (.dT vs)/\ts.map (·.1)=vs.map (·.1)/\Rp K H (zz (ts.map (·.2)) (vs.map (·.2))++Γ):=by
 obtain⟨Hz,N,h,nd,g,d⟩:=h
 cases h with
 | cons e1 h c=>
  rcases h with⟨z,_⟩ | ⟨v,e2,h⟩
  ·cases z
  cases e2
  cases h
  ·rename_i a vs L h c1
   obtain⟨ek,c2⟩:=c1.toL
   rw[e1,Gb,D_]at nd
   exact⟨a,vs,rfl,.inl h,ek,Hz,_,c2.toL.app c,nd.2,g,fun b m=>d b (by rw[e1,Gb];exact o_ _ m)⟩
  rename_i a vs h c1
  obtain⟨ek,c2⟩:=c1.toL
  exact⟨a,vs,rfl,g _ _ h,ek,Hz,_,c2.toL.app c,by rw[<-e1];exact nd,g,fun b m=>d b (by rw[e1];exact m)⟩
theorem jx{t:T}{k:Key}{y:V}(e:oI t=some k)(h:Rp K H ((t,some y)::Γ)):y=kV k:=by
 cases t <;> cases e
 ·rw[wc h];rfl
 ·rw[aM h];rfl
 rw[cE h];rfl
theorem xw{Hz:Hp}{t:T}{k:Key}{v:V}{L:List Kl}(e:oI t=some k)(h:RepT K Hz H t v L):v=kV k:=by
 cases t <;> cases e
 ·cases h;rfl
 ·cases h;rfl
 cases h;rfl
theorem lH{Hz:Hp}:∀ {ts:List T} {ks:List Key} {vs:List V} {L:List Kl},dg ts=some ks->RepTs K Hz H ts vs L->vs=ks.map kV
 | [],ks,_,_,e,r=>by cases r;cases e;rfl
 | t::ts,ks,_,_,e,r=>by
  cases r with
  | cons _ h c=>
   rw[dg]at e
   split at e
   ·rename_i k r e1 e2
    cases e
    rw[xw e1 h,lH e2 c]
    rfl
   cases e
theorem jt{ts:List T}{ks:List Key}{y:V}(e:dg ts=some ks)(h:Rp K H ((.tup ts,some y)::Γ)):∃ b,y=.ref b/\H b=some (.tup (ks.map kV)):=by
 obtain⟨Hz,L,r,g⟩:=fu h rfl
 cases r with
 | tup h1 c1=>exact⟨_,rfl,by rw[h1,lH e c1]⟩
end
noncomputable def ixT:P2
 | .tup ts,.int i,k=>got (atI ts i) k
 | .cst ts,.int i,k=>got (atI ts i) k
 | .lst _ ts,.int i,k=>got (atI ts i) k
 | .str x,.int i,k=>x.length<=sizeLine/\got (atI x.cps.toList i) fun c=>k (.str ⟨#[c]⟩)
 | .dK _ kvs,y,k=>got (oI y) fun q=>got (kB kvs q) k
 | .dT _ kvs,.tup ts,k=>got (dg ts) fun q=>got (kB kvs q) k
 | _,_,_=>False
section
variable{X:Cx}
theorem tG(hu:X.A.units + 1 < cLine):IxR X (fun x y H Q=>∃ a v,x=.ref a/\gv H a y (some v)/\Q v H):=by
 intro value slice pins s σ H x y v u Q I rx ry h hs
 obtain⟨a,z,rfl,g,q⟩:=h
 cases rx
 have hT:=iZ I g
 unfold M5
 refine Ki ?_
 rw[Od hT.not_modules]
 refine Ki (NX hT NB.lookup ?_)
 have fin:Kr (Kw X.prog X.w) X.A (Nj slice false (.ref a) u) (fun r s₃=>Kr (Kw X.prog X.w) X.A (Qj value (.ref a) r >>= fun _=>pure r) (EP X pins σ Q) X.xe s₃) X.xe s:=by
  rw[hs]
  refine PY (lg hu I g ry fun w' s' I' r'=>Ki (Oq (Ko ⟨z,H,I',r',q⟩)))
 first
  | exact Ko (Ki fin)
  | exact Ki (Ko (Ki fin))
  | exact Ki fin
theorem Fs{kr:Nat}(hr:Room kr X.A):IxR X (w2 X.K ixT):=by
 rintro value slice pins s σ H x y v u Q I rx ry ⟨tx,ty,Γ,k,rp,g,c⟩ hs
 have sq:∀ ts i,items tx=some ts->ty=.int i->got (atI ts i) k->Kr (Kw X.prog X.w) X.A (M5 value slice v u) (EP X pins σ Q) X.xe s:=fun ts i e1 e2 g=>by
  obtain⟨t,et,kt⟩:=az g
  subst e2
  rw[aM rp]at ry
  obtain⟨a,vs,rfl,hq,l,rp2⟩:=aB e1 rp.tail
  obtain⟨w,ew,rp3⟩:=wQ l et rp2
  exact Fq value slice pins s σ H _ _ v u Q I rx ry ⟨_,a,vs,i,w,rfl,rfl,hq,ew,c _ _ _ kt rp3⟩ hs
 cases tx with
 | tup ts=>cases ty <;> first | exact KJ g | exact sq _ _ rfl rfl g
 | cst ts=>cases ty <;> first | exact KJ g | exact sq _ _ rfl rfl g
 | lst o ts=>cases ty <;> first | exact KJ g | exact sq _ _ rfl rfl g
 | str z=>
  cases ty <;> first | exact KJ g | skip
  rename_i i
  obtain⟨hz,g⟩:=g
  obtain⟨t,et,kt⟩:=az g
  rw[aM rp]at ry
  rw[cE rp.tail]at rx
  exact vA value slice pins s σ H _ _ v u Q I rx ry ⟨z,i,t,rfl,rfl,hz,et,c _ _ _ kt (b9 rp.tail.tail fun _=>.str)⟩ hs
 | dK o kvs=>
  have g:got (oI ty) fun q=>got (kB kvs q) k:=by cases ty <;> exact g
  obtain⟨q,eq,g⟩:=az g
  obtain⟨t,et,kt⟩:=az g
  rw[jx eq rp]at ry
  obtain⟨a,vs,rfl,hq,ek,rp2⟩:=mZ rp.tail
  obtain⟨w,i,ew,e1,e2⟩:=iT ek et
  exact tG (eV hr) value slice pins s σ H _ _ v u Q I rx ry ⟨a,w,rfl,.inl ⟨vs,q,hq,rfl,ew.symm⟩,c _ _ _ kt (gB rp2 e1 e2)⟩ hs
 | dT o kvs=>
  cases ty <;> first | exact KJ g | skip
  rename_i ts
  obtain⟨q,eq,g⟩:=az g
  obtain⟨t,et,kt⟩:=az g
  obtain⟨b,rfl,hb⟩:=jt eq rp
  obtain⟨a,vs,rfl,hq,ek,rp2⟩:=mz rp.tail
  obtain⟨w,i,ew,e1,e2⟩:=iT ek et
  exact tG (eV hr) value slice pins s σ H _ _ v u Q I rx ry ⟨a,w,rfl,.inr ⟨vs,q,b,hq,rfl,hb,ew.symm⟩,c _ _ _ kt (gB rp2 e1 e2)⟩ hs
 | _=>cases ty <;> exact KJ g
theorem aU{kr:Nat}{a b:KC}{fa fb:PF}{pos:Pos}(hr:Room kr X.A)(ha:GE X a fa)(hb:GE X b fb)(hs:jv b:=by intro _ _;rfl):GE X (.Subscript a b pos) (ur ixT fa fb):=PE.imp (sk (Fs hr) ha hb hs) sH
def kW(x:T)(ts:List T):Bool:=ts.any fun e=>eqD (dt e) (dt x)
noncomputable def inT:P2:=fun x y k=>match y with
 | .dK _ kvs=>got (oI x) fun q=>k (.bl (kB kvs q).isSome)
 | .dT _ kvs=>match x with
  | .tup ts=>got (dg ts) fun q=>k (.bl (kB kvs q).isSome)
  | _=>False
 | .str b=>match x with
  | .str a=>k (.bl (!(MT b a 0 b.length 1).isEmpty))
  | _=>False
 | y=>got (items y) fun ts=>isD x=true/\cA ts=true/\b7 (dtL ts) < 180/\k (.bl (kW x ts))
def BP:P2:=fun x y k=>inT x y fun t=>match t with
 | .bl b=>k (.bl (!b))
 | _=>False
theorem vt:OpR X (K4 .In) (fun x y H Q=>∃ p xs d ds,y=.ref p/\SqT X.K H p xs/\Has X.K H d x/\au X.K H ds xs/\X.A.in1.units + b7 ds < cLine/\Q (.bl (ds.any fun e=>eqD e d)) H):=by
 intro pins s σ H x y v u Q I rx ry h
 obtain⟨p,xs,d,ds,rfl,hq,hd,hl,hA,q⟩:=h
 cases ry
 obtain⟨its,r,pl,hz⟩:=I.tuple hq
 obtain⟨e,e1,_,e3⟩:=ko I (A:=X.A.in1) hA hd rx (e_ _) hl r
 refine SeqAt.in_tupleAt e pl (fun w hw=>e1 w (by simpa using hw)) ⟨.bl _,H,I,rfl,?_⟩
 rw[show its.toArray.any e=its.any e by simp,e3]
 exact q
theorem uE:OpR X (K4 .NotIn) (fun x y H Q=>∃ p xs d ds,y=.ref p/\SqT X.K H p xs/\Has X.K H d x/\au X.K H ds xs/\X.A.in1.units + b7 ds < cLine/\Q (.bl (!ds.any fun e=>eqD e d)) H):=by
 intro pins s σ H x y v u Q I rx ry h
 obtain⟨p,xs,d,ds,rfl,hq,hd,hl,hA,q⟩:=h
 cases ry
 obtain⟨its,r,pl,hz⟩:=I.tuple hq
 obtain⟨e,e1,_,e3⟩:=ko I (A:=X.A.in1) hA hd rx (e_ _) hl r
 refine SeqAt.notIn_tupleAt e pl (fun w hw=>e1 w (by simpa using hw)) ⟨.bl _,H,I,rfl,?_⟩
 rw[show its.toArray.any e=its.any e by simp,e3]
 exact q
theorem tj(x:T)(ts:List T):kW x ts=(dtL ts).any fun e=>eqD e (dt x):=by
 unfold kW
 rw[jM,JC]
 rfl
theorem Bi{kr:Nat}(hr:Room kr X.A):OpP X (K4 .In) inT:=by
 rintro pins s σ H x y v u Q I rx ry ⟨tx,ty,Γ,k,rp,g,c⟩
 have sq:(got (items ty) fun ts=>isD tx=true/\cA ts=true/\b7 (dtL ts) < 180/\k (.bl (kW tx ts)))->Kr (Kw X.prog X.w) X.A (K4 .In v u) (EP X pins σ Q) X.xe s:=fun g=>by
  obtain⟨ts,e,d1,d2,z,kt⟩:=az g
  obtain⟨a,vs,rfl,hq,l,rp2⟩:=aB e rp
  have fin:=c _ _ _ kt (b9 (H:=H) (v:=.bl (kW tx ts)) rp.tail.tail fun _=>.bl)
  rw[tj]at fin
  have hA:X.A.in1.units + b7 (dtL ts) < cLine:=by have:=hr.un;show X.A.units + 1 + _ < _;omega
  revert hq
  cases kY ty with
  | true=>exact fun hq=>vt pins s σ H _ _ v u Q I rx ry ⟨a,vs,_,_,rfl,hq,cz rp.tail d1,jz rp2 l d2,hA,fin⟩
  | false=>exact fun hq=>Cq pins s σ H _ _ v u Q I rx ry ⟨a,vs,_,_,rfl,hq,cz rp.tail d1,jz rp2 l d2,hA,fin⟩
 cases ty with
 | tup ts=>exact sq g
 | cst ts=>exact sq g
 | lst o ts=>exact sq g
 | str b=>
  cases tx <;> first | exact KJ g | skip
  rename_i a
  rw[cE rp]at ry
  rw[cE rp.tail]at rx
  exact uP pins s σ H _ _ v u Q I rx ry ⟨a,b,rfl,rfl,c _ _ _ g (b9 rp.tail.tail fun _=>.bl)⟩
 | dK o kvs=>
  obtain⟨q,eq,g⟩:=az g
  rw[jx eq rp.tail]at rx
  obtain⟨a,vs,rfl,hq,ek,rp2⟩:=mZ rp
  cases ry
  rw[cI q ek]at g
  exact ER (eV hr) I (.inl ⟨vs,q,hq,rfl,rfl⟩) rx fun s' I'=>⟨.bl _,H,I',rfl,c _ _ _ g (b9 rp.tail.tail fun _=>.bl)⟩
 | dT o kvs=>
  cases tx <;> first | exact KJ g | skip
  rename_i ts
  obtain⟨q,eq,g⟩:=az g
  obtain⟨b,rfl,hb⟩:=jt eq rp.tail
  obtain⟨a,vs,rfl,hq,ek,rp2⟩:=mz rp
  cases ry
  rw[cI q ek]at g
  exact ER (eV hr) I (.inr ⟨vs,q,b,hq,rfl,hb,rfl⟩) rx fun s' I'=>⟨.bl _,H,I',rfl,c _ _ _ g (b9 rp.tail.tail fun _=>.bl)⟩
 | _=>exact KJ g
theorem zl{kr:Nat}(hr:Room kr X.A):OpP X (K4 .NotIn) BP:=by
 rintro pins s σ H x y v u Q I rx ry ⟨tx,ty,Γ,k,rp,g,c⟩
 unfold BP at g
 have sq:(got (items ty) fun ts=>isD tx=true/\cA ts=true/\b7 (dtL ts) < 180/\k (.bl (!kW tx ts)))->Kr (Kw X.prog X.w) X.A (K4 .NotIn v u) (EP X pins σ Q) X.xe s:=fun g=>by
  obtain⟨ts,e,d1,d2,z,kt⟩:=az g
  obtain⟨a,vs,rfl,hq,l,rp2⟩:=aB e rp
  have fin:=c _ _ _ kt (b9 (H:=H) (v:=.bl (!kW tx ts)) rp.tail.tail fun _=>.bl)
  rw[tj]at fin
  have hA:X.A.in1.units + b7 (dtL ts) < cLine:=by have:=hr.un;show X.A.units + 1 + _ < _;omega
  revert hq
  cases kY ty with
  | true=>exact fun hq=>uE pins s σ H _ _ v u Q I rx ry ⟨a,vs,_,_,rfl,hq,cz rp.tail d1,jz rp2 l d2,hA,fin⟩
  | false=>exact fun hq=>uU pins s σ H _ _ v u Q I rx ry ⟨a,vs,_,_,rfl,hq,cz rp.tail d1,jz rp2 l d2,hA,fin⟩
 cases ty with
 | tup ts=>exact sq g
 | cst ts=>exact sq g
 | lst o ts=>exact sq g
 | str b=>
  cases tx <;> first | exact KJ g | skip
  rename_i a
  rw[cE rp]at ry
  rw[cE rp.tail]at rx
  exact nW pins s σ H _ _ v u Q I rx ry ⟨a,b,rfl,rfl,c _ _ _ g (b9 rp.tail.tail fun _=>.bl)⟩
 | dK o kvs=>
  obtain⟨q,eq,g⟩:=az g
  rw[jx eq rp.tail]at rx
  obtain⟨a,vs,rfl,hq,ek,rp2⟩:=mZ rp
  cases ry
  rw[cI q ek]at g
  exact sN (eV hr) I (.inl ⟨vs,q,hq,rfl,rfl⟩) rx fun s' I'=>⟨.bl _,H,I',rfl,c _ _ _ g (b9 rp.tail.tail fun _=>.bl)⟩
 | dT o kvs=>
  cases tx <;> first | exact KJ g | skip
  rename_i ts
  obtain⟨q,eq,g⟩:=az g
  obtain⟨b,rfl,hb⟩:=jt eq rp.tail
  obtain⟨a,vs,rfl,hq,ek,rp2⟩:=mz rp
  cases ry
  rw[cI q ek]at g
  exact sN (eV hr) I (.inr ⟨vs,q,b,hq,rfl,hb,rfl⟩) rx fun s' I'=>⟨.bl _,H,I',rfl,c _ _ _ g (b9 rp.tail.tail fun _=>.bl)⟩
 | _=>exact KJ g
def fUn(g:T->(T->Prop)->Prop)(fa:PF):PF:=fun env k=>fa env fun t env1=>g t fun u=>k u env1
def EH:T->(T->Prop)->Prop
 | .int i,k=>k (.int (-i))
 | _,_=>False
theorem qO{a:KC}{fa:PF}{pos:Pos}(ha:GE X a fa):GE X (.UnaryOp .USub a pos) (fUn EH fa):=by
 refine PE.imp (Ec CL ha) ?_
 rintro σ H Q ⟨env,Fr,k,rs,q,c⟩
 refine⟨env,Fr,_,rs,q,fun t env1 v H1 q1 rs1=>?_⟩
 cases t <;> first | exact KJ q1 | skip
 rename_i i
 exact⟨i,aM rs1.head,c _ _ _ _ q1 (kF rs1.drop fun _=>.int)⟩
end
open PySem PySem.Spec PyProof.Rows L2
abbrev P1s:=List T->(T->Prop)->Prop
noncomputable def w1s(K:Kk)(g:P1s):List V->Hp->VK->Prop:=fun xs H Q=>∃ ts Γ k,ts.length=xs.length/\Rp K H (zz ts xs++Γ)/\g ts k/\∀ t v H',k t->Rp K H' ((t,some v)::Γ)->Q v H'
def jS(X:Cx)(f:Kj)(g:P1s):Prop:=bG X f (w1s X.K g)
def fCl(g:P1s)(fr:PFs):PF:=fun env k=>fr env fun ts env1=>g ts fun t=>k t env1
section
variable{X:Cx}{e:KC}{es:List KC}{fr:PFs}{pos p:Pos}{x:Str}{g:P1s}
theorem AG:∀ σ H Q,wE X.K (fCl g fr) σ H Q->tCB (w1s X.K g) (wA X.K fr) σ H Q:=by
 rintro σ H Q ⟨env,Fr,k,rs,q,c⟩
 refine⟨env,Fr,_,rs,q,fun ts env1 vs H1 q1 l rs1=>?_⟩
 refine⟨ts,env1.zip σ++Fr,_,l,?_,q1,fun t v H' kt rp=>c _ _ _ _ kt (.of rs1.1 rp)⟩
 refine rs1.2.perm ?_
 rw[<-i_,<-i_]
 exact Gm.append_right _
theorem bN{id:String}(hc:jS X (.builtin id) g)(hg:Gl X x)(hm:X.mg x=none)(hv:Mb x=some (.builtin id))(ha:GA X (e::es) fr)(hn:x≠"__name__":=by decide)(hdb:(x ==("__debug__":Str))=false:=by decide)
  (he:KG (e::es) X.env=(false,KR e X.env)::KG es X.env:=by rfl) (hpl:(Mc pos (KG es X.env)).any (·.1)=false:=by rfl):GE X (.Call (.Name x p) (e::es) [] pos) (fCl g fr):=PE.imp (aI hc hg hm hv ha hn hdb he hpl) AG
theorem cY{id:String}(hc:jS X (.type id) g)(hg:Gl X x)(hm:X.mg x=none)(hv:Mb x=some (.type id))(ha:GA X (e::es) fr)(hn:x≠"__name__":=by decide)(hdb:(x ==("__debug__":Str))=false:=by decide)
  (he:KG (e::es) X.env=(false,KR e X.env)::KG es X.env:=by rfl) (hpl:(Mc pos (KG es X.env)).any (·.1)=false:=by rfl):GE X (.Call (.Name x p) (e::es) [] pos) (fCl g fr):=PE.imp (lJ hc hg hm hv ha hn hdb he hpl) AG
end
section
variable{X:Cx}
theorem zz1{ts:List T}{xs:List V}{t:T}(l:ts.length=xs.length)(e:ts=[t]):∃ x,xs=[x]:=by
 subst e
 rcases xs with _ | ⟨x,_ | ⟨y,xs⟩⟩
 ·cases l
 ·exact⟨x,rfl⟩
 cases l
theorem zz2{ts:List T}{xs:List V}{t u:T}(l:ts.length=xs.length)(e:ts=[t,u]):∃ x y,xs=[x,y]:=by
 subst e
 rcases xs with _ | ⟨x,xs⟩
 ·cases l
 obtain⟨y,rfl⟩:=zz1 (ts:=[u]) (GJ l) rfl
 exact⟨x,y,rfl⟩
theorem qZ{prog:Kz}{w:KD}(d:Kl)(nd:(d == LN)=false) :
  MeetsIn prog w (LC.«dict.__len__» ⟨[.ref d],[]⟩) (fun _ R s=>∃ o es ep,s.heap.get? d=some o/\o.data=.dict es ep/\R (.ok (.ret (.int es.size s.toks))) { s with toks:=s.toks + 1 }):=
 .of_wp fun A R s ⟨o,es,ep,ho,hdat,q⟩=>by
  show Kr _ _ (dictSize d >>= _) _ _ s
  unfold dictSize
  refine Ki (Ki (wpAny_dictEntries ho hdat (Ko ?_)))
  show Kr _ _ (Q0 d >>= _) _ _ s
  exact Ki (wpAny_pendingCount_other nd (wpAny_ret_mkInt (by rw[IV];exact q)))
theorem yv{prog:Kz}{w:KD}{A:KN}{E:Kj->Km->Prop}{s:Km}{d:Kl}{o:Obj}{es:Array Qv}{ep:Nat}{Q:Kj->Km->Prop}(nd:(d == LN)=false)(ho:s.heap.get? d=some o)(hc:o.ExactDict)(hdat:o.data=.dict es ep)
  (fit:(es.size:Int) < 2 ^ 63) (q:∀ t tk,Q (.int es.size t) { s with toks:=tk }):Kr (Kw prog w) A (call (.builtin "len") [.ref d]) Q E s:=by
 have ty:s.TypeIs (.ref d) "dict":=⟨_,ho,hc.1⟩
 refine ND kind_len plain_len entry_len (args_len1 _) ?_
 unfold LC.«len»
 refine Ki (m:=oneArg "len" _) (Ko ?_)
 refine Ki (m:=callSpecial? (.ref d) (Ls "__len__")) (Ln (name:=Ls "__len__") ty Of
  (call_meetsIn Of ty PySem.F.entry_dict_len (PySem.F.args_dict_len_1 _) (qZ d nd) ⟨o,es,ep,ho,hdat,?_⟩))
 show Kr _ _ _ _ _ { s with toks:=s.toks + 1 }
 refine Ki (KY (Ko (Ki (Mr ?_))))
 show Kr _ _ (if((es.size:Nat):Int) < 0 then _ else _) _ _ _
 rw[if_neg (by lia)]
 show Kr _ _ (if((es.size:Nat):Int)>=2 ^ 63 then _ else _) _ _ _
 rw[if_neg (by lia)]
 exact Ki (RI (Ko ⟨_,rfl,q _ _⟩))
theorem D5{pins:List (Kl × Obj)}{σ:L2.St}{H:Hp}{s:Km}{a:Kl}{kvs:List (List Key × V)}{Q:Kj->Km->Prop}{E:Kj->Km->Prop}(I:Inv X pins σ H s)(e:Rd H a (.dT kvs))(q:∀ t s',Inv X pins σ H s'->Q (.int kvs.length t) s'):Kr (Kw X.prog X.w) X.A (call (.builtin "len") [.ref a]) Q E s:=by
 obtain⟨z,hd,xs,rel,o,es,ep,h1,h2,h3,h4,_⟩:=lY I.hok e
 have hs:es.size=kvs.length:=by
  have:=congrArg Hu h4
  rw[a_]at this
  rw[<-f_,this]
  exact(M3 rel).symm
 refine yv hd h1 h2 h3 (by rw[K5]at z;lia) fun t tk=>?_
 rw[hs]
 exact q _ _ (I.tok _)
noncomputable def Ey:P1s
 | [t],k=>match t with
  | .str x=>x.length<=sizeLine/\k (.int x.length)
  | .dK _ kvs=>k (.int kvs.length)
  | .dT _ kvs=>k (.int kvs.length)
  | t=>got (items t) fun ts=>k (.int ts.length)
 | _,_=>False
theorem cg:jS X (.builtin "len") Ey:=by
 rintro pins s σ H xs us Q I r ⟨ts,Γ,k,l,rp,g,c⟩
 match ts,l,g with
 | [t],l,g=>
  obtain⟨x,rfl⟩:=zz1 l rfl
  have rp:Rp X.K H ((t,some x)::Γ):=rp
  have sq:(got (items t) fun ts=>k (.int ts.length))->Kr (Kw X.prog X.w) X.A (call (.builtin "len") us) (EP X pins σ Q) X.xe s:=fun g=>by
   obtain⟨us',e,kt⟩:=az g
   obtain⟨a,vs,rfl,hq,l2,rp2⟩:=aB e rp
   rw[l2]at kt
   exact uQ pins s σ H _ us Q I r ⟨_,a,vs,rfl,hq,c _ _ _ kt (b9 rp.tail fun _=>.int)⟩
  cases t with
  | str z=>
   rw[cE rp]at r
   exact mx pins s σ H _ us Q I r ⟨z,rfl,g.1,c _ _ _ g.2 (b9 rp.tail fun _=>.int)⟩
  | dK o kvs=>
   obtain⟨a,vs,rfl,hq,ek,rp2⟩:=mZ rp
   obtain⟨u,rfl,ru⟩:=vals1 r
   cases ru
   have g:k (.int kvs.length):=g
   rw[ba ek]at g
   exact Dx I hq fun t s' I'=>⟨.int vs.length,H,I',⟨t,rfl⟩,c _ _ _ g (b9 rp.tail fun _=>.int)⟩
  | dT o kvs=>
   obtain⟨a,vs,rfl,hq,ek,rp2⟩:=mz rp
   obtain⟨u,rfl,ru⟩:=vals1 r
   cases ru
   have g:k (.int kvs.length):=g
   rw[ba ek]at g
   exact D5 I hq fun t s' I'=>⟨.int vs.length,H,I',⟨t,rfl⟩,c _ _ _ g (b9 rp.tail fun _=>.int)⟩
  | _=>exact sq g
 | [],_,g=>exact KJ g
 | _::_::_,_,g=>exact KJ g
noncomputable def intsOf:List T->Option (List Int)
 | []=>some []
 | .int i::r=>match intsOf r with
  | some ns=>some (i::ns)
  | none=>none
 | _::_=>none
theorem eZ(ns:List Int):intsOf (ns.map T.int)=some ns:=by
 induction ns with
 | nil=>rfl
 | cons n r ih=>rw[g_,intsOf,ih]
theorem eP:∀ {ts:List T} {ns:List Int},intsOf ts=some ns->ts=ns.map T.int
 | [],ns,e=>by cases e;rfl
 | t::ts,ns,e=>by
  cases t <;> first | cases e | skip
  rename_i i
  rw[intsOf]at e
  split at e
  ·rename_i ms em
   cases e
   rw[g_,eP em]
  cases e
theorem eJ{K:Kk}{H:Hp}{Γ:Fm}:∀ {ns:List Int} {vs:List V},(ns.map T.int).length=vs.length->Rp K H (zz (ns.map T.int) vs++Γ)->vs=ns.map V.int
 | [],[],_,_=>rfl
 | [],_::_,l,_=>by simp at l
 | _::_,[],l,_=>by simp at l
 | n::ns,v::vs,l,h=>by
  have h:Rp K H ((.int n,some v)::(zz (ns.map T.int) vs++Γ)):=h
  rw[aM h,eJ (by simpa using l) h.tail]
  rfl
def sU:P1s
 | [t],k=>got (items t) fun ts=>k (.lst true ts)
 | _,_=>False
theorem f6:jS X (.type "list") sU:=by
 rintro pins s σ H xs us Q I r ⟨ts,Γ,k,l,rp,g,c⟩
 unfold sU at g
 split at g
 ·rename_i k t
  obtain⟨x,rfl⟩:=zz1 l rfl
  have rp:Rp X.K H ((t,some x)::Γ):=rp
  obtain⟨us',e,kt⟩:=az g
  obtain⟨a,vs,rfl,hq,l2,rp2⟩:=aB e rp
  exact qV pins s σ H _ us Q I r ⟨_,a,vs,rfl,hq,fun p H' hp g' e'=>c _ _ _ kt (fy rp2 l2 hp g' e')⟩
 exact KJ g
def mL:P1s
 | [.tup ts],k=>k (.tup ts)
 | [.cst ts],k=>k (.cst ts)
 | [.lst _ ts],k=>k (.tup ts)
 | _,_=>False
theorem j4:jS X (.type "tuple") mL:=by
 rintro pins s σ H xs us Q I r ⟨ts,Γ,k,l,rp,g,c⟩
 unfold mL at g
 split at g
 ·rename_i k ts
  obtain⟨x,rfl⟩:=zz1 l rfl
  have rp:Rp X.K H ((.tup ts,some x)::Γ):=rp
  obtain⟨a,vs,rfl,hq,l2,rp2⟩:=aB rfl rp
  exact je pins s σ H _ us Q I r ⟨a,vs,rfl,hq,c _ _ _ g rp⟩
 ·rename_i k ts
  obtain⟨x,rfl⟩:=zz1 l rfl
  have rp:Rp X.K H ((.cst ts,some x)::Γ):=rp
  obtain⟨a,vs,rfl,hq,l2,rp2⟩:=aB rfl rp
  exact je pins s σ H _ us Q I r ⟨a,vs,rfl,hq,c _ _ _ g rp⟩
 ·rename_i k o ts
  obtain⟨x,rfl⟩:=zz1 l rfl
  have rp:Rp X.K H ((.lst o ts,some x)::Γ):=rp
  obtain⟨a,vs,rfl,hq,l2,rp2⟩:=aB rfl rp
  exact pz pins s σ H _ us Q I r ⟨a,vs,rfl,hq,fun p H' hp g' e'=>c _ _ _ g (fB rp2 l2 g' e')⟩
 exact KJ g
noncomputable def boolsOf:List T->Option (List Bool)
 | []=>some []
 | .bl i::r=>match boolsOf r with
  | some ns=>some (i::ns)
  | none=>none
 | _::_=>none
theorem kC:∀ {ts:List T} {ns:List Bool},boolsOf ts=some ns->ts=ns.map T.bl
 | [],ns,e=>by cases e;rfl
 | t::ts,ns,e=>by
  cases t <;> first | cases e | skip
  rename_i i
  rw[boolsOf]at e
  split at e
  ·rename_i ms em
   cases e
   rw[g_,kC em]
  cases e
theorem qe{K:Kk}{H:Hp}{Γ:Fm}:∀ {ns:List Bool} {vs:List V},(ns.map T.bl).length=vs.length->Rp K H (zz (ns.map T.bl) vs++Γ)->vs=bools ns
 | [],[],_,_=>rfl
 | [],_::_,l,_=>by simp at l
 | _::_,[],l,_=>by simp at l
 | n::ns,v::vs,l,h=>by
  have h:Rp K H ((.bl n,some v)::(zz (ns.map T.bl) vs++Γ)):=h
  rw[oU h,qe (by simpa using l) h.tail]
  rfl
def Cv:P1s
 | [.lst _ ts],k=>got (boolsOf ts) fun bs=>k (.bl (bs.all id))
 | _,_=>False
theorem tY(hc:X.calm=true):jS X (.builtin "all") Cv:=by
 rintro pins s σ H xs us Q I r ⟨ts,Γ,k,l,rp,g,c⟩
 unfold Cv at g
 split at g
 ·rename_i k o ts
  obtain⟨x,rfl⟩:=zz1 l rfl
  have rp:Rp X.K H ((.lst o ts,some x)::Γ):=rp
  obtain⟨bs,e,kt⟩:=az g
  have:=kC e
  subst this
  obtain⟨a,vs,rfl,hq,l2,rp2⟩:=aB rfl rp
  have:=qe l2 rp2
  subst this
  exact qi hc pins s σ H _ us Q I r ⟨a,bs,rfl,hq,c _ _ _ kt (b9 rp.tail fun _=>.bl)⟩
 exact KJ g
end
open PySem PySem.Spec PyProof.Rows L2
inductive Arg where
 | val (t:T) | bor (i:Nat)
def kO:Arg->T
 | .val t=>t
 | .bor _=>.any
noncomputable def lend:List Arg->Ev->List T × Ev
 | [],env=>([],env)
 | .val t::r,env=>(t::(lend r env).1,(lend r env).2)
 | .bor i::r,env=>match env[i]? with
  | some t=>(t::(lend r (env.set i .any)).1,(lend r (env.set i .any)).2)
  | none=>(.any::(lend r env).1,(lend r env).2)
noncomputable def back:List Arg->List T->Ev->Ev
 | .bor i::r,t::ts,env=>back r ts (env.set i t)
 | .val _::r,_::ts,env=>back r ts env
 | _,_,env=>env
noncomputable def hZ:List Arg->List (Option V)->L2.St->Prop
 | [],[],_=>True
 | .val _::r,_::xs,σ=>hZ r xs σ
 | .bor i::r,x::xs,σ=>(σ[i]?=some x\/σ.length<=i)/\hZ r xs σ
 | _,_,_=>False
section
variable{K:Kk}{H:Hp}{σ:L2.St}
theorem gf:∀ {as:List Arg} {xs:List (Option V)} {env:Ev} {Fr:Fm},hZ as xs σ->Rs K H env σ ((as.map kO).zip xs++Fr)->Rs K H (lend as env).2 σ ((lend as env).1.zip xs++Fr)
 | [],[],env,Fr,_,h=>h
 | [],_::_,env,Fr,o,_=>o.elim
 | .val t::r,[],env,Fr,o,_=>o.elim
 | .bor i::r,[],env,Fr,o,_=>o.elim
 | .val t::r,x::xs,env,Fr,o,h=>by
  have h:Rs K H env σ ((t,x)::((r.map kO).zip xs++Fr)):=h
  have h2:Rs K H env σ ((r.map kO).zip xs++((t,x)::Fr)):=h.perm d_.symm
  exact(gf (as:=r) o h2).perm d_
 | .bor i::r,x::xs,env,Fr,o,h=>by
  have h:Rs K H env σ ((.any,x)::((r.map kO).zip xs++Fr)):=h
  have h:=h.drop
  rw[lend]
  split
  ·rename_i t e
   obtain⟨y,ey,h2⟩:=h.slot e
   have o1:σ[i]?=some x:=by
    rcases o.1 with z | z
    ·exact z
    have:=(c_.mp ey).1
    lia
   rw[o1]at ey
   cases ey
   have h3:Rs K H (env.set i .any) σ ((r.map kO).zip xs++((t,x)::Fr)):=h2.perm d_.symm
   exact(gf (as:=r) o.2 h3).perm d_
  have h3:Rs K H env σ ((r.map kO).zip xs++((.any,x)::Fr)):=(Rs.of h.1 (dD (x:=x) h.2)).perm d_.symm
  exact(gf (as:=r) o.2 h3).perm d_
theorem gc:∀ {as:List Arg} {xs:List (Option V)} {ts:List T} {env:Ev} {Fr:Fm},hZ as xs σ->Rs K H env σ (ts.zip xs++Fr)->Rs K H (back as ts env) σ Fr
 | [],xs,ts,env,Fr,_,h=>by
  have:back [] ts env=env:=by cases ts <;> rfl
  rw[this]
  exact⟨h.1,(h.2.perm (p_ _ _ _)).part⟩
 | a::r,xs,[],env,Fr,_,h=>by
  have:back (a::r) [] env=env:=by cases a <;> rfl
  rw[this]
  exact h
 | .val t::r,[],u::ts,env,Fr,o,_=>o.elim
 | .bor i::r,[],u::ts,env,Fr,o,_=>o.elim
 | .val t::r,x::xs,u::ts,env,Fr,o,h=>by
  have h:Rs K H env σ ((u,x)::(ts.zip xs++Fr)):=h
  exact gc (as:=r) o h.drop
 | .bor i::r,x::xs,u::ts,env,Fr,o,h=>by
  have h:Rs K H env σ ((u,x)::(ts.zip xs++Fr)):=h
  rw[back]
  by_cases hi:i < env.length
  ·have o1:σ[i]?=some x:=by
    rcases o.1 with z | z
    ·exact z
    have:=h.1
    lia
   exact gc (as:=r) o.2 (h.eY hi o1)
  have e:env.set i u=env:=HP (by lia)
  rw[e]
  exact gc (as:=r) o.2 h.drop
theorem Rs.put {env:Ev}{Fr:Fm}{i:Nat}{t:T}{v:V}(h:Rs K H env σ ((t,some v)::Fr)):Rs K H (env.set i t) (σ.set i (some v)) Fr:=by
 by_cases hi:i < env.length
 ·exact h.store hi
 rw[HP (by lia),HP (by rw[<-h.1];lia)]
 exact h.drop
end
abbrev PAs:=Ev->(List Arg->Ev->Prop)->Prop
noncomputable def wR(K:Kk)(f:PAs):TA:=fun σ H Q=>∃ env Fr k,Rs K H env σ Fr/\f env k/\∀ as env' vs H',k as env'->as.length=vs.length->hZ as (vs.map some) σ->Rs K H' env' σ ((as.map kO).zip (vs.map some)++Fr)->Q vs H'
def GR(X:Cx)(es:List KC)(f:PAs):Prop:=PA X es (wR X.K f)
def En:PAs:=fun env k=>k [] env
def DM(f:PF)(r:PAs):PAs:=fun env k=>f env fun t env1=>r env1 fun as env2=>k (.val t::as) env2
noncomputable def CM(i:Nat)(r:PAs):PAs:=fun env k=>(match env[i]? with
 | some t=>isAny t=false
 | none=>False)/\r env fun as env2=>k (.bor i::as) env2
section
variable{X:Cx}{e:KC}{es:List KC}{f:PF}{fr:PAs}
theorem aq:GR X [] En:=PA.imp aP fun σ H Q ⟨env,Fr,k,rs,q,c⟩=>c [] env [] H q rfl trivial rs
theorem ah(he:GE X e f)(hr:GR X es fr)(hs:KG (e::es) X.env=(false,KR e X.env)::KG es X.env:=by rfl):GR X (e::es) (DM f fr):=by
 refine PA.imp (aj he hr hs) ?_
 rintro σ H Q ⟨env,Fr,k,rs,q,c⟩
 refine⟨env,Fr,_,rs,q,fun t env1 v H1 q1 rs1=>⟨env1,_,_,rs1,q1,fun as env2 vs H2 q2 l ao rs2=>c _ _ _ _ q2 (by rw[k_,k_,l]) ao ?_⟩⟩
 exact rs2.perm d_
theorem bB(i:Nat){x:Str}{pos:Pos}(hr:GR X es fr)(hN:X.N[i]?=some x:=by rfl)(hv:Vis X.env.scope x:=by first | exact j' rfl | exact j_ (j' rfl) | exact j_ (j_ rfl))(hd:(x ==("__debug__":Str))=false:=by decide)(hcd:(x ==("__classdict__":Str))=false:=by decide)
  (hs:KG (.Name x pos::es) X.env=(false,KR (.Name x pos) X.env)::KG es X.env:=by rfl):GR X (.Name x pos::es) (CM i fr):=by
 refine PA.imp (aj (d8 hN hv hd hcd) hr hs) ?_
 rintro σ H Q ⟨env,Fr,k,rs,⟨na,q⟩,c⟩
 split at na
 ·rename_i t e
  obtain⟨y,ey,rs2⟩:=rs.slot e
  obtain⟨v,rfl⟩:=bO rs2 na
  refine⟨v,ey,env,Fr,_,rs,q,fun as env2 vs H2 q2 l ao rs2=>c _ _ _ _ q2 (by rw[k_,k_,l]) ⟨.inl ey,ao⟩ ?_⟩
  exact .of rs2.1 (dD rs2.2)
 exact na.elim
end
abbrev FP:=List T->(T->List T->Prop)->Prop
noncomputable def aE(K:Kk)(n:Nat)(P:FP):Sp:=fun vs H Q _=>∃ ts Fr k,ts.length=vs.length/\vs.length=n/\Rp K H (zz ts vs++Fr)/\P ts k/\∀ t ts' v H',k t ts'->Rp K H' ((t,some v)::(zz ts' vs++Fr))->Q v H'
def EI(P:FP)(ts:List T)(k:T->List T->Prop):Prop:=P ts k
noncomputable def BJ(n:Nat)(P:FP)(fr:PAs):PF:=fun env k=>fr env fun as env1=>as.length=n/\EI P (lend as env1).1 fun t ts'=>k t (back as ts' (lend as env1).2)
section
variable{X:Cx}
theorem dC:∀(as:List Arg) (env:Ev),(lend as env).1.length=as.length
 | [],env=>rfl
 | .val t::r,env=>by rw[lend,k_,k_,dC r]
 | .bor i::r,env=>by
  rw[lend]
  split
  ·rw[k_,k_,dC r]
  rw[k_,k_,dC r]
theorem zV{n:Nat}{P:FP}{fr:PAs}:∀ σ H Q,wE X.K (BJ n P fr) σ H Q->xt (aE X.K n P) [] E0 (wR X.K fr) σ H Q:=by
 rintro σ H Q ⟨env,Fr,k,rs,q,c⟩
 refine⟨env,Fr,_,rs,q,fun as env1 vs H1 ⟨hn,q1⟩ l ao rs1=>?_⟩
 show aE X.K n P (vs++[]) H1 Q E0
 rw[FX]
 have rs2:=gf ao rs1
 refine⟨(lend as env1).1,(lend as env1).2.zip σ++Fr,_,by rw[dC,l],by rw[<-l];exact hn,?_,q1,fun t ts' v H' kt rp=>c _ _ _ _ kt ?_⟩
 ·exact rs2.2.perm (p_ _ _ _)
 have h3:Rs X.K H' (lend as env1).2 σ (zz ts' vs++((t,some v)::Fr)):=⟨rs2.1,rp.perm (by
  refine r_ ?_ (p_ _ _ _)
  refine r_ d_.symm ?_
  exact FQ _ d_.symm)⟩
 exact gc ao h3
theorem av{j k n:Nat}{x:Str}{ps:List Str}{P:FP}{e:KC}{es:List KC}{fr:PAs}{p pos:Pos}(D:Cal X.prog X.w X.K X.mg X.base j x ps (aE X.K n P))(hr:Room k X.A)(hg:Gl X x)(ha:GR X (e::es) fr)(hjk:j<=k:=by omega)(hdb:(x ==("__debug__":Str))=false:=by decide)
  (he:KG (e::es) X.env=(false,KR e X.env)::KG es X.env:=by rfl) (hpl:(Mc pos (KG es X.env)).any (·.1)=false:=by rfl):GE X (.Call (.Name x p) (e::es) [] pos) (BJ n P fr):=PE.imp (wo D hr hg ha hjk hdb he hpl) zV
end
structure PEn where
 nx:Ev->Prop
 rt:T->Ev->Prop
 bk:Ev->Prop:=fun _=>False
 ct:Ev->Prop:=fun _=>False
abbrev PSt:=PEn->Ev->Prop
def Kept(κ:Nat->Bool)(σ σ':L2.St):Prop:=σ'.length=σ.length/\∀ j,κ j=true->σ'[j]?=σ[j]?
theorem Kept.refl {κ:Nat->Bool}{σ:L2.St}:Kept κ σ σ:=⟨rfl,fun _ _=>rfl⟩
theorem Kept.trans {κ:Nat->Bool}{σ σ' σ'':L2.St}(a:Kept κ σ σ')(b:Kept κ σ' σ''):Kept κ σ σ'':=⟨b.1.trans a.1,fun j h=>(b.2 j h).trans (a.2 j h)⟩
theorem Kept.set {κ:Nat->Bool}{σ:L2.St}{i:Nat}{x:Option V}(h:κ i=false):Kept κ σ (σ.set i x):=⟨FJ,fun j hj=>by
 by_cases e:i=j
 ·subst e;rw[h]at hj;cases hj
 rw[Hh e]⟩
structure EndOk (K:Kk) (κ:Nat->Bool) (σ:L2.St) (Fr:Fm) (pe:PEn) (D:Ends):Prop where
 nx:∀ env' σ' H',pe.nx env'->Rs K H' env' σ' Fr->Kept κ σ σ'->D.nx σ' H'
 rt:∀ t env' v σ' H',pe.rt t env'->Rs K H' env' σ' ((t,some v)::Fr)->Kept κ σ σ'->D.rt v H'
 bk:∀ env' σ' H',pe.bk env'->Rs K H' env' σ' Fr->Kept κ σ σ'->D.bk σ' H'
 ct:∀ env' σ' H',pe.ct env'->Rs K H' env' σ' Fr->Kept κ σ σ'->D.ct σ' H'
theorem EndOk.later {K:Kk}{κ:Nat->Bool}{σ σ':L2.St}{Fr:Fm}{pe:PEn}{D:Ends}(h:EndOk K κ σ Fr pe D)(k:Kept κ σ σ'):EndOk K κ σ' Fr pe D:=
 ⟨fun a b c p q r=>h.nx a b c p q (k.trans r),fun a b c d e p q r=>h.rt a b c d e p q (k.trans r),fun a b c p q r=>h.bk a b c p q (k.trans r),fun a b c p q r=>h.ct a b c p q (k.trans r)⟩
def wS(K:Kk)(κ:Nat->Bool)(f:PSt):TS:=fun D σ H=>∃ env Fr pe,Rs K H env σ Fr/\f pe env/\EndOk K κ σ Fr pe D
def GS(κ:Nat->Bool)(X:Cx)(st:K8)(f:PSt):Prop:=PS X st (wS X.K κ f)
def GSs(κ:Nat->Bool)(X:Cx)(sts:List K8)(f:PSt):Prop:=PSs X sts (wS X.K κ f)
theorem PS.imp {X:Cx}{st:K8}{t t':TS}(h:PS X st t)(k:∀ D σ H,t' D σ H->t D σ H):PS X st t':=fun pins s σ H D I q=>h pins s σ H D I (k _ _ _ q)
theorem PSs.imp {X:Cx}{st:List K8}{t t':TS}(h:PSs X st t)(k:∀ D σ H,t' D σ H->t D σ H):PSs X st t':=fun pins s σ H D I q=>h pins s σ H D I (k _ _ _ q)
def AZ:PSt:=fun pe env=>pe.nx env
def DB(f g:PSt):PSt:=fun pe env=>f { pe with nx:=g pe } env
section
variable{X:Cx}{κ:Nat->Bool}{pos:Pos}{st:K8}{rest:List K8}{f g:PSt}{e:KC}{fe:PF}
theorem gu:GSs κ X [] AZ:=PSs.imp cc fun D σ H ⟨env,Fr,pe,rs,q,c⟩=>c.nx _ _ _ q rs .refl
theorem af(h1:GS κ X st f)(h2:GSs κ X rest g):GSs κ X (st::rest) (DB f g):=by
 refine PSs.imp (aK h1 h2) ?_
 rintro D σ H ⟨env,Fr,pe,rs,q,c⟩
 refine⟨env,Fr,_,rs,q,⟨fun env' σ' H' q1 rs1 k1=>⟨env',Fr,pe,rs1,q1,c.later k1⟩,c.rt,c.bk,c.ct⟩⟩
theorem ay(h1:GS κ X st f):GSs κ X [st] f:=bD h1
def AI(fe:PF):PSt:=fun pe env=>fe env fun _ env1=>pe.nx env1
theorem eQ(he:GE X e fe)(hs:ME e none pos.line X.env=pure false:=by rfl):GS κ X (.Expr e pos) (AI fe):=by
 refine PS.imp (yF he hs) ?_
 rintro D σ H ⟨env,Fr,pe,rs,q,c⟩
 exact⟨env,Fr,_,rs,q,fun t env' v H' q1 rs1=>c.nx _ _ _ q1 rs1.drop .refl⟩
def EB(fe:PF):PSt:=fun pe env=>fe env fun t env1=>pe.rt t env1
theorem b6(he:GE X e fe):GS κ X (.Return (some e) pos) (EB fe):=by
 refine PS.imp (cB he) ?_
 rintro D σ H ⟨env,Fr,pe,rs,q,c⟩
 exact⟨env,Fr,_,rs,q,fun t env' v H' q1 rs1=>c.rt _ _ _ _ _ q1 rs1 .refl⟩
def sIf(tc:PB)(f g:PSt):PSt:=fun pe env=>tc env fun b env1=>cnd b (f pe env1) (g pe env1)
theorem pC{c:KC}{a b:List K8}{tc:PB}(hc:GT X c tc)(ha:GSs κ X a f)(hb:GSs κ X b g):GS κ X (.If c a b pos) (sIf tc f g):=by
 refine PS.imp (h8 hc ha hb) ?_
 rintro D σ H ⟨env,Fr,pe,rs,q,c⟩
 refine⟨env,Fr,_,rs,q,fun b env' H' q1 rs1=>eO ⟨fun h=>⟨env',Fr,pe,rs1,q1.1 h,c⟩,fun h=>⟨env',Fr,pe,rs1,q1.2 h,c⟩⟩⟩
def yW(i:Nat)(fe:PF):PSt:=fun pe env=>fe env fun t env1=>pe.nx (env1.set i t)
theorem aL{i:Nat}{x:Str}{pos':Pos}(hN:X.N.Nodup)(hi:X.N[i]?=some x)(hx:Loc X.env.scope x)(hκ:κ i=false)(he:GE X e fe)(hs:ME e (some (.Name x pos')) pos.line X.env=pure false:=by rfl)(hf:X.fn x=true\/X.env.scope.names.lookup x=some .local:=by first | exact .inl rfl | exact .inr rfl | assumption) :
  GS κ X (.Assign [.Name x pos'] e pos) (yW i fe):=by
 refine PS.imp (dE hN hi hx he hs hf) ?_
 rintro D σ H ⟨env,Fr,pe,rs,q,c⟩
 exact⟨env,Fr,_,rs,q,fun t env' v H' q1 rs1=>c.nx _ _ _ q1 rs1.put (.set hκ)⟩
abbrev PG':=T->Ev->(Ev->Prop)->Prop
abbrev oT:=List T->Ev->(Ev->Prop)->Prop
noncomputable def wG(K:Kk)(κ:Nat->Bool)(f:PG'):TG:=fun v σ H Q=>∃ t env Fr k,Rs K H env σ ((t,some v)::Fr)/\f t env k/\∀ env' σ' H',k env'->Rs K H' env' σ' Fr->Kept κ σ σ'->Q σ' H'
noncomputable def wGs(K:Kk)(κ:Nat->Bool)(f:oT):TGs:=fun vs σ H Q=>∃ ts env Fr k,ts.length=vs.length/\Rs K H env σ (zz ts vs++Fr)/\f ts env k/\∀ env' σ' H',k env'->Rs K H' env' σ' Fr->Kept κ σ σ'->Q σ' H'
def GG(κ:Nat->Bool)(X:Cx)(tg:KC)(f:PG'):Prop:=PG X tg (wG X.K κ f)
def GGs(κ:Nat->Bool)(X:Cx)(tgs:List KC)(f:oT):Prop:=PGs X tgs (wGs X.K κ f)
def gN(i:Nat):PG':=fun t env k=>k (env.set i t)
theorem aA{i:Nat}{x:Str}(hN:X.N.Nodup)(hi:X.N[i]?=some x)(hx:Loc X.env.scope x)(hκ:κ i=false)(hf:X.fn x=true\/X.env.scope.names.lookup x=some .local:=by first | exact .inl rfl | exact .inr rfl | assumption):GG κ X (.Name x pos) (gN i):=
 fun pins s σ H v u Q I r ⟨t,env,Fr,k,rs,q,c⟩=>jo hN hi hx hf pins s σ H v u Q I r (c _ _ _ q rs.put (.set hκ))
def AF:oT:=fun ts env k=>ts=[]/\k env
def xI(f:PG')(r:oT):oT:=fun ts env k=>match ts with
 | t::ts=>f t env fun env1=>r ts env1 k
 | []=>False
noncomputable def gTp(n:Nat)(f:oT):PG':=fun t env k=>match t with
 | .tup ts=>ts.length=n/\f ts env k
 | .cst ts=>ts.length=n/\f ts env k
 | _=>False
end
open PySem PySem.Spec PyProof.Rows L2
section
variable{X:Cx}{κ:Nat->Bool}{pos:Pos}{e tg:KC}{es:List KC}{fe:PF}{g:PG'}{gs:oT}
theorem fH:GGs κ X [] AF:=by
 rintro pins s σ H vs us Q I r ⟨ts,env,Fr,k,l,rs,⟨e,q⟩,c⟩
 subst e
 have:vs=[]:=by cases vs with | nil=>rfl | cons _ _=>cases l
 subst this
 exact nG pins s σ H [] us Q I r ⟨rfl,c _ _ _ q rs .refl⟩
theorem br(h1:GG κ X e g)(h2:GGs κ X es gs)(hs:(LV (e::es) X.env).map (·.2)=MZ e X.env::(LV es X.env).map (·.2):=by rfl):GGs κ X (e::es) (xI g gs):=by
 rintro pins s σ H vs us Q I r ⟨ts,env,Fr,k,l,rs,q,c⟩
 cases ts with
 | nil=>exact KJ q
 | cons t ts=>
  cases vs with
  | nil=>cases l
  | cons v vs=>
   have q:g t env fun env1=>gs ts env1 k:=q
   refine e6 h1 h2 hs pins s σ H (v::vs) us Q I r ⟨v,vs,rfl,t,env,zz ts vs++Fr,_,rs,q,fun env1 σ1 H1 q1 rs1 k1=>?_⟩
   exact⟨ts,env1,Fr,k,by simpa using l,rs1,q1,fun env2 σ2 H2 q2 rs2 k2=>c _ _ _ q2 rs2 (k1.trans k2)⟩
theorem jZ{x1 n:Nat}(hc:X.calm=true)(h:GGs κ X es gs)(hn:(LV es X.env).length=n:=by rfl)(hst:(LV es X.env).findIdx? (·.1)=none:=by rfl):GG κ X (.Tuple es x1 pos) (gTp n gs):=by
 rintro pins s σ H v u Q I r ⟨t,env,Fr,k,rs,q,c⟩
 have go:∀ ts,items t=some ts->kY t=true->ts.length=n->gs ts env k->Kr (Kw X.prog X.w) X.A (MZ (.Tuple es x1 pos) X.env u) (fun _ s'=>∃ σ' H',Inv X pins σ' H' s'/\Q σ' H') X.xe s:=fun ts e1 e2 e3 q=>by
  obtain⟨a,vs,rfl,hq,l,rp⟩:=aB e1 rs.head
  rw[e2]at hq
  refine rj hc h hn hst pins s σ H _ u Q I r ⟨a,vs,rfl,hq,by rw[<-l];exact e3,ts,env,Fr,k,l,⟨rs.1,?_⟩,q,c⟩
  exact rp.perm (p_ _ _ _)
 cases t with
 | tup ts=>exact go ts rfl rfl q.1 q.2
 | cst ts=>exact go ts rfl rfl q.1 q.2
 | _=>exact KJ q
def DN(fe:PF)(g:PG'):PSt:=fun pe env=>fe env fun t env1=>g t env1 pe.nx
theorem qL(he:GE X e fe)(hg:GG κ X tg g)(hs:QA [tg] e pos.line X.env=pure false:=by rfl)(hw:QB [tg] e X.env=pure none:=by rfl)(h1:(LV [tg] X.env).map (·.2)=[MZ tg X.env]:=by rfl) :
  GS κ X (.Assign [tg] e pos) (DN fe g):=by
 refine PS.imp (xJ he hg hs hw h1) ?_
 rintro D σ H ⟨env,Fr,pe,rs,q,c⟩
 exact⟨env,Fr,_,rs,q,fun t env' v H' q1 rs1=>⟨t,env',Fr,_,rs1,q1,fun env2 σ2 H2 q2 rs2 k2=>c.nx _ _ _ q2 rs2 k2⟩⟩
noncomputable def BG(i:Nat)(fe:PF)(g:P2):PSt:=fun pe env=>(match env[i]? with
 | some t=>isAny t=false/\aN t=true
 | none=>False)/\fe env fun u env1=>match env[i]? with
 | some t=>g t u fun w=>pe.nx (env1.set i w)
 | none=>False
def IpP(X:Cx)(op:NK)(g:P2):Prop:=PIp X op (w2 X.K g)
theorem qM{i:Nat}{x:Str}{op:NK}{g:P2}{pos':Pos}(hN:X.N.Nodup)(hi:X.N[i]?=some x)(hx:Loc X.env.scope x)(hκ:κ i=false)(he:GE X e fe)(ho:IpP X op g)(hf:X.fn x=true\/X.env.scope.names.lookup x=some .local:=by first | exact .inl rfl | exact .inr rfl | assumption) :
  GS κ X (.AugAssign (.Name x pos') op e pos) (BG i fe g):=by
 refine PS.imp (D4 hN hi hx he ho hf) ?_
 rintro D σ H ⟨env,Fr,pe,rs,⟨q0,q⟩,c⟩
 cases e0:env[i]? with
 | none=>rw[e0]at q0;exact q0.elim
 | some t=>
  simp only[e0]at q0 q
  obtain⟨y,ey,rs2⟩:=rs.slot e0
  obtain⟨v,rfl⟩:=bO rs2 q0.1
  have hi':i < env.length:=(c_.mp e0).1
  have r3:Rs X.K H (env.set i .any) σ ((t,some v)::(t,some v)::Fr):=.of rs2.1 ((iD rs2.head q0.2).perm (Iz _ d_.symm))
  have r4:=Rs.eY (i:=i) r3 (by rw[FJ];exact hi') ey
  rw[fT e0]at r4
  refine⟨v,ey,env,(t,some v)::Fr,_,r4,q,fun u env1 w H1 q1 rs1=>?_⟩
  refine⟨t,u,env1.zip σ++Fr,_,rs1.head.perm (.cons _ d_),q1,fun z b H2 kz rp=>?_⟩
  exact c.nx _ _ _ kz (Rs.put (.of rs1.1 rp)) (.set hκ)
noncomputable def rm(tc:PB)(fb:PSt)(pe:PEn)(env:Ev):Prop:=∃ W:Nat->Ev->Prop,(∃ m,W m env)/\∀ m env,W m env->tc env fun b env1=>cnd b (fb { pe with nx:=fun e=>∃ m',m' < m/\W m' e,ct:=fun e=>∃ m',m' < m/\W m' e,bk:=pe.nx } env1) (pe.nx env1)
def vk(tc:PB)(fb:PSt):PSt:=fun pe env=>rm tc fb pe env
theorem pV{c:KC}{body:List K8}{tc:PB}{fb:PSt}(hp:OM (Kw X.prog X.w) X.A X.env X.xe)(hc:GT X c tc)(hb:GSs κ X body fb):GS κ X (.While c body [] pos) (vk tc fb):=by
 refine PS.imp (vV hp hc hb) ?_
 rintro D σ H ⟨env,Fr,pe,rs,⟨W,⟨m0,w0⟩,wt⟩,c⟩
 refine⟨fun m σ' H'=>∃ env',W m env'/\Rs X.K H' env' σ' Fr/\Kept κ σ σ',⟨m0,env,w0,rs,.refl⟩,?_⟩
 rintro m σ1 H1 ⟨env1,w1,rs1,k1⟩
 refine⟨env1,Fr,_,rs1,wt m env1 w1,fun b env2 H2 q2 rs2=>eO ⟨fun h=>?_,fun h=>c.nx _ _ _ (q2.2 h) rs2 k1⟩⟩
 refine⟨fun σ' H'=>∃ m' env',m' < m/\W m' env'/\Rs X.K H' env' σ' Fr/\Kept κ σ σ',fun σ' H' ⟨m',env',hm,w',r',k'⟩=>⟨m',hm,env',w',r',k'⟩,env2,Fr,_,rs2,q2.1 h,⟨?_,?_,?_,?_⟩⟩
 ·exact fun env' σ' H' ⟨m',hm,w'⟩ r' k'=>⟨m',env',hm,w',r',k1.trans k'⟩
 ·exact fun t env' v σ' H' p r' k'=>c.rt _ _ _ _ _ p r' (k1.trans k')
 ·exact fun env' σ' H' p r' k'=>c.nx _ _ _ p r' (k1.trans k')
 exact fun env' σ' H' ⟨m',hm,w'⟩ r' k'=>⟨m',env',hm,w',r',k1.trans k'⟩
structure ItOk (K:Kk) (J:It) (its:List T) (Fg:Fm):Prop where
 turn:∀ i t H Γ,its[i]?=some t->Rp K H (Fg++Γ)->J.go i H/\∀ x H',J.yld i H x H'->Rp K H' ((t,some x)::(Fg++Γ))
 stop:∀ H Γ,Rp K H (Fg++Γ)->J.stop its.length H
abbrev PIt:=Ev->(List T->Ev->Prop)->Prop
noncomputable def wI(K:Kk)(f:PIt):TI:=fun σ H R=>∃ env Fr k,Rs K H env σ Fr/\f env k/\∀ its env' J Fg H',k its env'->Rs K H' env' σ (Fg++Fr)->ItOk K J its Fg->R J H'
def GI(X:Cx)(tg iter:KC)(f:PIt):Prop:=PI X tg iter (wI X.K f)
noncomputable def forL(its:List T)(g:PG')(fb:PSt)(pe:PEn)(env1:Ev):Prop:=∃ W:Nat->Ev->Prop,W 0 env1/\(∀ i t env,W i env->its[i]?=some t->g t env fun env2=>fb { pe with nx:=W (i + 1),ct:=W (i + 1),bk:=pe.nx } env2)/\∀ env,W its.length env->pe.nx env
def F1(fi:PIt)(g:PG')(fb:PSt):PSt:=fun pe env=>fi env fun its env1=>forL its g fb pe env1
theorem kh{K:Kk}{H:Hp}{env:Ev}{σ:L2.St}{Fg Fr:Fm}(h:Rs K H env σ (Fg++Fr)):Rs K H env σ Fr:=⟨h.1,(h.2.perm (p_ _ _ _)).part⟩
theorem du{iter:KC}{body:List K8}{fi:PIt}{g:PG'}{fb:PSt}(hp:OM (Kw X.prog X.w) X.A X.env X.xe)(hc:X.calm=true)(hi:GI X tg iter fi)(hg:GG κ X tg g)(hb:GSs κ X body fb)(hs:∀ x,Li iter X.env x=pure x:=by intro _;rfl):GS κ X (.For tg iter body [] pos) (F1 fi g fb):=by
 refine PS.imp (Dp hp hc hi hg hb hs) ?_
 rintro D σ H ⟨env,Fr,pe,rs,q,c⟩
 refine⟨env,Fr,_,rs,q,?_⟩
 rintro its env1 J Fg H1 ⟨W,w0,wt,we⟩ rs1 ok
 refine⟨fun i m σ' H'=>∃ env',W i env'/\Rs X.K H' env' σ' (Fg++Fr)/\Kept κ σ σ'/\m + i=its.length,⟨its.length,env1,w0,rs1,.refl,rfl⟩,?_⟩
 rintro i m σ1 H2 ⟨env2,w2,rs2,k2,hm⟩
 have rp2:Rp X.K H2 (Fg++(env2.zip σ1++Fr)):=rs2.2.perm (p_ _ _ _)
 by_cases hlt:i < its.length
 ·have ei:its[i]?=some its[i]:=b_ hlt
  obtain⟨hgo,hy⟩:=ok.turn i its[i] H2 _ ei rp2
  refine .inr ⟨hgo,fun σ' H'=>∃ env',W (i + 1) env'/\Rs X.K H' env' σ' (Fg++Fr)/\Kept κ σ σ',fun σ' H' ⟨env',w',r',k'⟩=>⟨m - 1,by lia,env',w',r',k',by lia⟩,fun x H' hx=>?_⟩
  have rp3:=hy x H' hx
  have rs3:Rs X.K H' env2 σ1 ((its[i],some x)::(Fg++Fr)):=.of rs2.1 (rp3.perm (.cons _ (p_ _ _ _)))
  refine⟨its[i],env2,Fg++Fr,_,rs3,wt i its[i] env2 w2 ei,fun env3 σ3 H3 q3 rs4 k4=>?_⟩
  refine⟨env3,Fg++Fr,_,rs4,q3,⟨?_,?_,?_,?_⟩⟩
  ·exact fun env' σ' H' w' r' k'=>⟨env',w',r',k2.trans (k4.trans k')⟩
  ·exact fun t env' v σ' H' p r' k'=>c.rt _ _ _ _ _ p (kh (Fg:=Fg) (r'.perm d_.symm)) (k2.trans (k4.trans k'))
  ·exact fun env' σ' H' p r' k'=>c.nx _ _ _ p (kh r') (k2.trans (k4.trans k'))
  exact fun env' σ' H' w' r' k'=>⟨env',w',r',k2.trans (k4.trans k')⟩
 have:i=its.length:=by lia
 subst this
 exact .inl ⟨ok.stop H2 _ rp2,c.nx _ _ _ (we env2 w2) (kh rs2) k2⟩
end
section
variable{X:Cx}{pos:Pos}{e tg:KC}{fe:PF}
def F4(fe:PF):PIt:=fun env k=>fe env fun t env1=>got (items t) fun ts=>k (erL ts) env1
theorem Bs{K:Kk}{t:T}{ts:List T}{a:Kl}(e:items t=some ts)(n:aN t=true):ItOk K (Its K (kY t) a) ts [(t,some (.ref a))] where
 turn:=fun i u H Γ ei rp=>by
  obtain⟨a',vs,ea,hq,l,rp2⟩:=aB e (iD rp n)
  cases ea
  obtain⟨w,ew⟩:=n9 l ei
  refine⟨BO hq rfl i H .bh (by have:=(c_.mp ew).1;exact this),fun x H' hy=>?_⟩
  obtain⟨rfl,hx⟩:=zf hq .bh hy
  rw[ew]at hx
  cases hx
  exact gB rp2 ei ew
 stop:=fun H Γ rp=>by
  obtain⟨a',vs,ea,hq,l,rp2⟩:=aB e rp
  cases ea
  exact x9 hq l.symm H .bh
theorem pW{t:T}{ts:List T}(e:items t=some ts):items (er t)=some (erL ts)/\kY (er t)=kY t:=by
 cases t <;> cases e <;> exact⟨rfl,rfl⟩
theorem bS(h:GE X e fe):GI X tg e (F4 fe):=by
 rintro pins s σ H R I ⟨env,Fr,k,rs,q,c⟩
 refine CA h pins s σ H R I ⟨env,Fr,_,rs,q,fun t env1 v H1 q1 rs1=>?_⟩
 obtain⟨ts,e1,kt⟩:=az q1
 have rf:Rp X.K H1 ((er t,some v)::(env1.zip σ++Fr)):=mW rs1.head
 obtain⟨e2,e3⟩:=pW e1
 obtain⟨a,vs,rfl,hq,l,rp2⟩:=aB e2 rf
 exact⟨kY (er t),a,vs,rfl,hq,c _ _ _ _ _ kt (Rs.of (Fr:=Fr) rs1.1 rf) (Bs e2 (bq t))⟩
def fC(lo:Int)(n:Nat):List T:=(m_ n).map fun(i:Nat)=>.int (lo + (i:Int))
theorem Bp{K:Kk}(lo:Int)(n:Nat):ItOk K (Itr lo n) (fC lo n) [] where
 turn:=fun i t H Γ ei rp=>by
  unfold fC at ei
  rw[A']at ei
  have hi:i < n:=by
   cases h:(m_ n)[i]? with
   | none=>rw[h]at ei;cases ei
   | some j=>
    have:=(c_.mp h).1
    simpa using this
  rw[G2 hi]at ei
  cases ei
  refine⟨hi,fun x H' ⟨e1,e2⟩=>?_⟩
  subst e1;subst e2
  exact b9 rp fun _=>.int
 stop:=fun H Γ rp=>by
  show n<=_
  unfold fC
  rw[a_,z_]
  exact e_ _
noncomputable def iR1(fr:PFs):PIt:=fun env k=>fr env fun ts env1=>match ts with
 | [.int j]=>(-(2 ^ 62)<=j/\j < 2 ^ 62)/\k (fC 0 j.toNat) env1
 | _=>False
variable{a b c:KC}{fr:PFs}{p:Pos}
theorem cP(hg:Gl X "range")(hm:X.mg "range"=none)(ha:GA X [a] fr)(hs:KG [a] X.env=[(false,KR a X.env)]:=by rfl):GI X tg (.Call (.Name "range" p) [a] [] pos) (iR1 fr):=by
 rintro pins s σ H R I ⟨env,Fr,k,rs,q,c⟩
 refine uJ hg hm ha hs pins s σ H R I ⟨env,Fr,_,rs,q,fun ts env1 vs H1 q1 l rs1=>?_⟩
 rcases ts with _ | ⟨t,_ | ⟨t2,ts⟩⟩
 ·exact q1.elim
 ·cases t <;> first | exact q1.elim | skip
  rename_i j
  rcases vs with _ | ⟨v,_ | ⟨v2,vs⟩⟩
  ·cases l
  ·have rs1:Rs X.K H1 env1 σ ((.int j,some v)::Fr):=rs1
   rw[aM rs1.head]
   exact⟨j,rfl,q1.1.1,q1.1.2,c _ _ _ [] _ q1.2 rs1.drop (Bp 0 _)⟩
  cases l
 cases t <;> exact q1.elim
def dnT(lo:Int)(n:Nat):List T:=(m_ n).map fun(i:Nat)=>.int (lo - (i:Int))
theorem DU{K:Kk}(lo:Int)(n:Nat):ItOk K (Idn lo n) (dnT lo n) [] where
 turn:=fun i t H Γ ei rp=>by
  unfold dnT at ei
  rw[A']at ei
  have hi:i < n:=by
   cases h:(m_ n)[i]? with
   | none=>rw[h]at ei;cases ei
   | some j=>
    have:=(c_.mp h).1
    simpa using this
  rw[G2 hi]at ei
  cases ei
  refine⟨hi,fun x H' ⟨e1,e2⟩=>?_⟩
  subst e1;subst e2
  exact b9 rp fun _=>.int
 stop:=fun H Γ rp=>by
  show n<=_
  unfold dnT
  rw[a_,z_]
  exact e_ _
noncomputable def iR3(fr:PFs):PIt:=fun env k=>fr env fun ts env1=>match ts with
 | [.int i,.int j,.int m]=>m=-1/\(-(2 ^ 60)<=i/\i < 2 ^ 60/\-(2 ^ 60)<=j/\j < 2 ^ 60)/\k (dnT i (i - j).toNat) env1
 | _=>False
theorem uz(hg:Gl X "range")(hm:X.mg "range"=none)(ha:GA X [a,b,c] fr)(hs:KG [a,b,c] X.env=[(false,KR a X.env),(false,KR b X.env),(false,KR c X.env)]:=by rfl)(hs2:KG [b,c] X.env=[(false,KR b X.env),(false,KR c X.env)]:=by rfl):GI X tg (.Call (.Name "range" p) [a,b,c] [] pos) (iR3 fr):=by
 rintro pins s σ H R I ⟨env,Fr,k,rs,q,c⟩
 refine uj hg hm ha hs hs2 pins s σ H R I ⟨env,Fr,_,rs,q,fun ts env1 vs H1 q1 l rs1=>?_⟩
 match ts,vs,l,q1 with
 | [.int i,.int j,.int m],[v,w,z],l,q1=>
  have rs1:Rs X.K H1 env1 σ ((.int i,some v)::(.int j,some w)::(.int m,some z)::Fr):=rs1
  rw[aM rs1.head,aM rs1.drop.head,aM rs1.drop.drop.head,q1.1]
  exact⟨i,j,rfl,q1.2.1,c _ _ _ [] _ q1.2.2 rs1.drop.drop.drop (DU i _)⟩
theorem Ci{K:Kk}{H H':Hp}{Γ:Fm}{t u:T}{x y:V}{p:Kl}(h:Rp K H ((t,some x)::(u,some y)::Γ))(s:aH H H')(e:H' p=some (.tup [x,y])):Rp K H' ((.tup [t,u],some (.ref p))::Γ):=
 fB (ts:=[t,u]) (vs:=[x,y]) h rfl s e
noncomputable def iEn(fr:PFs):PIt:=fun env k=>fr env fun ts env1=>match ts with
 | [t]=>got (items t) fun as=>k ((m_ as.length).zipWith (fun(i:Nat) (x:T)=>T.tup [.int (i:Int),x]) (erL as)) env1
 | _=>False
theorem C9{K:Kk}{t:T}{as:List T}{a:Kl}(e1:items t=some as)(n1:aN t=true) :
  ItOk K (Ite K (kY t) a) ((m_ as.length).zipWith (fun(i:Nat) (x:T)=>T.tup [.int (i:Int),x]) as) [(t,some (.ref a))] where
 turn:=fun i w H Γ ei rp=>by
  have rp0:Rp K H ((t,some (.ref a))::Γ):=rp
  rw[Jm]at ei
  cases h1:(m_ as.length)[i]? with
  | none=>rw[h1]at ei;cases ei
  | some j=>
   cases h2:as[i]? with
   | none=>rw[h1,h2]at ei;cases ei
   | some u=>
    rw[h1,h2]at ei
    cases ei
    have hi:i < as.length:=(c_.mp h2).1
    rw[G2 hi]at h1
    cases h1
    obtain⟨a',vs,ea,ha,la,rp2⟩:=aB e1 (iD rp0 n1)
    cases ea
    obtain⟨x,ex⟩:=n9 la h2
    have rp3:=gB rp2 h2 ex
    refine⟨⟨vs,x,ha,ex⟩,fun v H' hy=>?_⟩
    obtain⟨p,x',hp,ev,eH,h3⟩:=hy
    have ex':=h3 vs ha
    rw[ex]at ex'
    cases ex'
    subst ev;subst eH
    exact Ci (b9 rp3 fun _=>.int) (aO hp _) ax
 stop:=fun H Γ rp=>by
  have rp0:Rp K H ((t,some (.ref a))::Γ):=rp
  obtain⟨a',vs,ea,ha,la,_⟩:=aB e1 rp0
  cases ea
  refine⟨vs,ha,?_⟩
  rw[Ju,z_,la,J6]
theorem mQ{es:List KC}{x1:Nat}{tp:Pos}(hg:Gl X "enumerate")(hm:X.mg "enumerate"=none)(ha:GA X [a] fr)(hs:KG [a] X.env=[(false,KR a X.env)]:=by rfl) :
  GI X (.Tuple es x1 tp) (.Call (.Name "enumerate" p) [a] [] pos) (iEn fr):=by
 rintro pins s σ H R I ⟨env,Fr,k,rs,q,c⟩
 refine A9 hg hm ha hs pins s σ H R I ⟨env,Fr,_,rs,q,fun ts env1 vs H1 q1 l rs1=>?_⟩
 rcases ts with _ | ⟨t,_ | ⟨t2,ts⟩⟩
 ·exact q1.elim
 ·obtain⟨v,rfl⟩:=zz1 l rfl
  obtain⟨as,ea,kt⟩:=az q1
  have rs1:Rs X.K H1 env1 σ ((t,some v)::Fr):=rs1
  have r2:Rs X.K H1 env1 σ ((er t,some v)::Fr):=.of rs1.1 (mW rs1.head)
  obtain⟨e1,_⟩:=pW ea
  obtain⟨a',xs,rfl,hq,l1,_⟩:=aB e1 r2.head
  rw[<-jm as]at kt
  exact⟨_,a',rfl,⟨xs,hq⟩,c _ _ _ [(er t,_)] _ kt r2 (C9 e1 (bq t))⟩
 exact q1.elim
end
open PySem PySem.Spec PyProof.Rows L2
def frA(fr:List (Option Nat)):List Arg:=fr.map fun o=>match o with
 | some j=>.bor j
 | none=>.val .any
def κc(fr:List (Option Nat))(j:Nat):Bool:=match fr[j]? with
 | some (some _)=>true
 | _=>false
theorem dh:∀(fr:List (Option Nat)) (σ:L2.St),hZ (frA fr) (bo fr σ) σ
 | [],σ=>trivial
 | none::r,σ=>dh r σ
 | some j::r,σ=>by
  refine⟨?_,dh r σ⟩
  by_cases h:j < σ.length
  ·refine .inl ?_
   show σ[j]?=some ((σ[j]?).join)
   rw[b_ h]
   rfl
  exact .inr (by lia)
theorem fq:∀(fr:List (Option Nat)) (τ τ':List (Option V)) (σ:L2.St),τ'.length=τ.length->(∀ j,κc fr j=true->τ'[j]?=τ[j]?)->hZ (frA fr) τ σ->hZ (frA fr) τ' σ
 | [],[],τ',σ,l,_,_=>by
  have:τ'=[]:=by cases τ' with | nil=>rfl | cons _ _=>cases l
  subst this
  trivial
 | [],_::_,_,_,_,_,o=>o.elim
 | none::r,[],_,_,_,_,o=>o.elim
 | some j::r,[],_,_,_,_,o=>o.elim
 | none::r,x::τ,[],σ,l,_,_=>by cases l
 | some j::r,x::τ,[],σ,l,_,_=>by cases l
 | none::r,x::τ,y::τ',σ,l,k,o=>fq r τ τ' σ (by simpa using l) (fun j hj=>by simpa using k (j + 1) hj) o
 | some i::r,x::τ,y::τ',σ,l,k,o=>by
  have e:y=x:=by
   have:=k 0 rfl
   simpa using this
  subst e
  exact⟨o.1,fq r τ τ' σ (by simpa using l) (fun j hj=>by simpa using k (j + 1) hj) o.2⟩
noncomputable def AE(fr:List (Option Nat))(its:List T)(g:PG')(ft:PB)(fe:PF)(env1:Ev)(k:T->Ev->Prop):Prop:=its.length < sizeLine/\∃ W:Nat->List T->Ev->Prop,W 0 [] (lend (frA fr) env1).1/\
 (∀ i t acc ie,W i acc ie->its[i]?=some t->g t ie fun ie2=>ft ie2 fun b ie3=>cnd b (fe ie3 fun u ie4=>W (i + 1) (acc++[u]) ie4) (W (i + 1) acc ie3))/\
 ∀ acc ie,W its.length acc ie->k (.lst true acc) (back (frA fr) ie (lend (frA fr) env1).2)
noncomputable def og(fr:List (Option Nat))(fi:PIt)(g:PG')(ft:PB)(fe:PF):PF:=fun env k=>fi env fun its env1=>AE fr its g ft fe env1 k
theorem mM:∀ fr:List (Option Nat),(frA fr).map kO=fr.map fun _=>T.any
 | []=>rfl
 | none::r=>by
  show T.any::(frA r).map kO=T.any::r.map fun _=>T.any
  rw[mM r]
 | some j::r=>by
  show T.any::(frA r).map kO=T.any::r.map fun _=>T.any
  rw[mM r]
theorem tO{K:Kk}{H:Hp}{Γ:Fm}:∀(fr:List (Option Nat)) (xs:List (Option V)),Rp K H Γ->Rp K H ((fr.map fun _=>T.any).zip xs++Γ)
 | [],xs,h=>h
 | _::r,[],h=>h
 | _::r,x::xs,h=>dD (tO r xs h)
theorem yt(fr:List (Option Nat)):(frA fr).length=fr.length:=by unfold frA;rw[a_]
theorem qk(fr:List (Option Nat))(σ:L2.St):(bo fr σ).length=fr.length:=by unfold bo;rw[a_]
theorem rB{K:Kk}{fr:List (Option Nat)}{fi:PIt}{g:PG'}{ft:PB}{fe:PF}:∀ σ H Q,wE K (og fr fi g ft fe) σ H Q->sh (wI K fi) fr (fun _ _ _=>wG K (κc fr) g) (fun _ _ _=>wB K ft) (fun _ _ _=>wE K fe) σ H Q:=by
 rintro σ H Q ⟨env,Fr,k,rs,q,c⟩
 refine⟨env,Fr,_,rs,q,?_⟩
 rintro its env1 J Fg H1 ⟨hz,W,w0,wt,we⟩ rs1 ok
 intro p hp s3 H3' fp
 have l0:Rs K H1 env1 σ (((frA fr).map kO).zip (bo fr σ)++(Fg++Fr)):=⟨rs1.1,by
  refine Rp.perm ?_ (p_ _ _ _)
  rw[mM]
  exact tO fr _ rs1.2⟩
 have l1:=gf (dh fr σ) l0
 obtain⟨ie0,ou,e0⟩:∃ ie0 ou,lend (frA fr) env1=(ie0,ou):=⟨_,_,rfl⟩
 have lie:ie0.length=(bo fr σ).length:=by
  have:=dC (frA fr) env1
  rw[e0,yt]at this
  rw[qk];exact this
 rw[e0]at l1 w0
 have rp0:Rp K (upd H1 p (.lst [])) ((.lst true [],some (.ref p))::(ie0.zip (bo fr σ)++(Fg++(ou.zip σ++Fr)))):=by
  refine fy (ts:=[]) (vs:=[]) (l1.2.perm ?_) rfl hp (aO hp _) ax
  show JZ (ou.zip σ++(ie0.zip (bo fr σ)++(Fg++Fr))) (ie0.zip (bo fr σ)++(Fg++(ou.zip σ++Fr)))
  exact(p_ _ _ _).trans ((p_ _ _ _).append_left _)
 refine⟨fun i m σ' H'=>∃ acc ie,W i acc ie/\Rs K H' ie σ' ((.lst true acc,some (.ref p))::(Fg++(ou.zip σ++Fr)))/\Kept (κc fr) (bo fr σ) σ'/\m + i=its.length/\acc.length<=i,⟨its.length,[],ie0,w0,.of lie rp0,.refl,rfl,e_ _⟩,?_⟩
 rintro i m σ1 H2 ⟨acc,ie,w2,rs2,k2,hm,ha⟩
 have rp2:Rp K H2 (Fg++((.lst true acc,some (.ref p))::(ie.zip σ1++(ou.zip σ++Fr)))):=by
  refine rs2.head.perm ?_
  refine r_ ?_ d_.symm
  exact .cons _ (p_ _ _ _)
 by_cases hlt:i < its.length
 ·have ei:its[i]?=some its[i]:=b_ hlt
  obtain⟨hgo,hy⟩:=ok.turn i its[i] H2 _ ei rp2
  refine .inr ⟨hgo,fun x H' hx=>?_⟩
  have rp3:=hy x H' hx
  have rs3:Rs K H' ie σ1 ((its[i],some x)::((.lst true acc,some (.ref p))::(Fg++(ou.zip σ++Fr)))):=.of rs2.1 (rp3.perm (.cons _ (by
   refine d_.trans ?_
   refine r_ ?_ d_.symm
   exact .cons _ (p_ _ _ _))))
  refine⟨its[i],ie,_,_,rs3,wt i its[i] acc ie w2 ei,fun ie3 σ3 H3 q3 rs4 k4=>?_⟩
  refine⟨ie3,_,_,rs4,q3,fun b ie4 H4 q4 rs5=>eO ⟨fun hb=>?_,fun hb=>?_⟩⟩
  ·refine⟨ie4,_,_,rs5,q4.1 hb,fun u ie5 v H5 q5 rs6=>?_⟩
   have r7:=rs6.perm (.swap _ _ _)
   obtain⟨a',ys,ea,hys,ly,r8⟩:=bY r7.head
   cases ea
   refine⟨ys,hys,by rw[<-ly];exact FW ha (Ik hlt hz),m - 1,by lia,acc++[u],ie5,q5,.of r7.1 ?_,k2.trans k4,by lia,by rw[h_];simp;omega⟩
   refine cn (ts:=acc++[u]) (vs:=ys++[v]) (r8.perm (.cons _ ?_)) (by rw[h_,h_,ly];rfl) Put.up
   rw[fj ly,i_]
   refine FQ _ ?_
   exact d_
  exact⟨m - 1,by lia,acc,ie4,q4.2 hb,rs5,k2.trans k4,by lia,by lia⟩
 have:i=its.length:=by lia
 subst this
 refine .inl ⟨ok.stop H2 _ rp2,c _ _ _ _ (we acc ie w2) ?_⟩
 rw[e0]
 have ao:hZ (frA fr) σ1 σ:=fq fr (bo fr σ) σ1 σ k2.1 k2.2 (dh fr σ)
 refine gc ao (env:=ou) ⟨l1.1,?_⟩
 refine rp2.part.perm ?_
 refine r_ ?_ (p_ _ _ _)
 refine r_ d_.symm ?_
 exact FQ _ d_.symm
def GTs(X:Cx)(ifs:List KC)(f:PB):Prop:=PTs X ifs (wB X.K f)
def uh:PB:=fun env k=>k true env
theorem bK{X:Cx}:GTs X [] uh:=fun pins s σ H Q I ⟨env,Fr,k,rs,q,c⟩=>si pins s σ H Q I (c _ _ _ q rs)
theorem mT{X:Cx}{c:KC}{f:PB}(h:GT X c f):GTs X [c] f:=yB h
theorem cv{X:Cx}{N ps:List Str}{esc:Lp}(S:FnScope N ps esc)(N':List Str)(fr:List (Option Nat))(nd:N'.Nodup){elt target iter:KC}{ifs:List KC}{sc:Lp}{pos:Pos}{fi:PIt}{g:PG'}{ft:PB}{fe:PF}(C:dJ N esc sc N' fr=true)
  (hi:GI X target iter fi) (hg:∀ s3 H3 fp,GG (κc fr) (aD X N' sc s3 H3 fp) target g) (ht:∀ s3 H3 fp,GTs (aD X N' sc s3 H3 fp) ifs ft) (he:∀ s3 H3 fp,GE (aD X N' sc s3 H3 fp) elt fe)
  (hc:X.calm=true:=by rfl) (hN:X.N=N:=by rfl) (hS:X.env.scope=esc:=by rfl) (hs:∀ x,Li iter X.env x=pure x:=by intro _;rfl):GE X (.ListComp elt [⟨target,iter,ifs,0⟩] sc pos) (og fr fi g ft fe):=
 PE.imp (pD S N' fr nd C hi hg ht he hc hN hS hs) rB
theorem nI{X:Cx}{κ:Nat->Bool}{N ps:List Str}{esc:Lp}(S:FnScope N ps esc){i:Nat}{x:Str}{pos pos':Pos}(N':List Str)(fr:List (Option Nat))(nd:N'.Nodup){elt target iter:KC}{ifs:List KC}{sc:Lp}{pos2:Pos}{fi:PIt}{g:PG'}{ft:PB}{fe:PF}(C:dJ N esc sc N' fr=true)
  (hi:X.N[i]?=some x) (hx:Loc X.env.scope x) (hκ:κ i=false) (hit:GI X target iter fi) (hg:∀ s3 H3 fp,GG (κc fr) (aD X N' sc s3 H3 fp) target g) (ht:∀ s3 H3 fp,GTs (aD X N' sc s3 H3 fp) ifs ft) (he:∀ s3 H3 fp,GE (aD X N' sc s3 H3 fp) elt fe)
  (hsw:ME (.ListComp elt [⟨target,iter,ifs,0⟩] sc pos2) (some (.Name x pos')) pos.line X.env=pure true) (hf:X.fn x=true:=by rfl)
  (hc:X.calm=true:=by rfl) (hN:X.N=N:=by rfl) (hS:X.env.scope=esc:=by rfl) (hs:∀ x,Li iter X.env x=pure x:=by intro _;rfl):GS κ X (.Assign [.Name x pos'] (.ListComp elt [⟨target,iter,ifs,0⟩] sc pos2) pos) (yW i (og fr fi g ft fe)):=by
 refine PS.imp (sr S N' fr nd C hi hx hit hg ht he hsw hf hc hN hS hs) ?_
 rintro D σ H ⟨env,Fr,pe,rs,q,c⟩
 exact rB σ H _ ⟨env,Fr,_,rs,q,fun t env' v H' q1 rs1=>c.nx _ _ _ q1 rs1.put (.set hκ)⟩
abbrev PM:=T->List T->(T->T->Prop)->Prop
noncomputable def MtP(X:Cx)(id:String)(m:PM):Prop:=MtM X id (fun x xs H Q=>∃ t ts Γ k,ts.length=xs.length/\Rp X.K H ((t,some x)::(zz ts xs++Γ))/\m t ts k/\∀ t' r v H',k t' r->Rp X.K H' ((r,some v)::(t',some x)::Γ)->Q v H')
def isL:T->Bool
 | .lst _ _=>true
 | _=>false
noncomputable def wW(i:Nat)(m:PM)(fr:PFs):PF:=fun env k=>got (env[i]?) fun t0=>isL t0=true/\fr env fun ts env1=>got (env1[i]?) fun t=>m t ts fun t' r=>k r (env1.set i t')
section
variable{X:Cx}{e o:KC}{es:List KC}{fr:PFs}{fe:PF}{m:PM}{name:Str}{id:String}{apos cpos pos:Pos}
theorem tN{H:Hp}{Γ:Fm}{t:T}{v:V}(h:isL t=true)(rp:Rp X.K H ((t,some v)::Γ)):tyV X.K "list" v H:=by
 cases t <;> first | cases h | skip
 obtain⟨a,vs,rfl,hq,l,_⟩:=nO rp
 exact .inl ⟨rfl,vs,.inl hq⟩
theorem yi{t:T}(h:isL t=true):isAny t=false:=by cases t <;> first | rfl | cases h
theorem Ej{i:Nat}:∀ σ H Q,wE X.K (wW i m fr) σ H Q->tBM X.K "list" (fun x xs H Q=>∃ t ts Γ k,ts.length=xs.length/\Rp X.K H ((t,some x)::(zz ts xs++Γ))/\m t ts k/\∀ t' r v H',k t' r->Rp X.K H' ((r,some v)::(t',some x)::Γ)->Q v H') (zu i) (wA X.K fr) σ H Q:=by
 rintro σ H Q ⟨env,Fr,k,rs,q,c⟩
 obtain⟨t0,e0,hl,q⟩:=az q
 obtain⟨y,ey,rs2⟩:=rs.slot e0
 obtain⟨v,rfl⟩:=bO rs2 (yi hl)
 refine⟨v,ey,tN hl rs2.head,env,Fr,_,rs,q,fun ts env1 vs H1 q1 l rs1=>?_⟩
 obtain⟨t,et,q1⟩:=az q1
 obtain⟨y',ey',rs3⟩:=rs1.slot et
 rw[ey]at ey'
 cases ey'
 have hi:i < env1.length:=(c_.mp et).1
 refine⟨t,ts,(env1.set i .any).zip σ++Fr,_,l,?_,q1,fun t' r w H' kt rp=>c _ _ _ _ kt ?_⟩
 ·refine rs3.head.perm (.cons _ ?_)
  exact p_ _ _ _
 have r4:Rs X.K H' (env1.set i .any) σ ((t',some v)::(r,some w)::Fr):=.of rs3.1 (rp.perm (by
  refine r_ (.swap _ _ _) ?_
  exact .cons _ d_.symm))
 have r5:=Rs.eY (i:=i) r4 (by rw[FJ];exact hi) ey
 rw[IY]at r5
 exact r5
theorem jy(i:Nat){x:Str}{xp:Pos}(slot:Qg "list" name id)(hty:PV (.builtin id)=pure (.type "method_descriptor"))(hm:MtP X id m)(ha:GA X (e::es) fr)(hN:X.N[i]?=some x:=by rfl)(hv:Vis X.env.scope x:=by first | exact j' rfl | exact j_ (j' rfl) | exact j_ (j_ rfl))(hd:(x ==("__debug__":Str))=false:=by decide)(hcd:(x ==("__classdict__":Str))=false:=by decide)
  (hbase:M6 (.Name x xp) name X.env (KR (.Name x xp) X.env)=KR (.Name x xp) X.env:=by rfl)
  (hfew:((Mc cpos (KG (e::es) X.env)).all (fun x=>!x.1) && (Rk cpos (Pe [] X.env)).all (fun x=>x.1.isSome) && decide ((e::es).length + ([]:List Oc).length + (if([]:List Oc).isEmpty then 0 else 1) < 30))=true:=by rfl)
  (hline:(apos.endLine == cpos.line)=true:=by rfl) (hs:KG (e::es) X.env=(false,KR e X.env)::KG es X.env:=by rfl) (hplain:(Mc cpos (KG es X.env)).any (·.1)=false:=by rfl) :
  GE X (.Call (.Attribute (.Name x xp) name apos) (e::es) [] cpos) (wW i m fr):=PE.imp (AX MV slot hty hm (d8 hN hv hd hcd) ha hbase hfew hline hs hplain) Ej
def nE:PM
 | .lst true ts,[t],k=>ts.length < sizeLine/\k (.lst true (ts++[t])) .non
 | _,_,_=>False
noncomputable def n6:PM
 | .lst true ts,[.lst true us],k=>ts.length + us.length<=sizeLine/\k (.lst true (ts++us)) .non
 | _,_,_=>False
def jQ:PM
 | .lst true ts,[],k=>k (.lst true ts.reverse) .non
 | _,_,_=>False
theorem fD:MtP X "list.append" nE:=by
 rintro pins s σ H x xs v us Q I rx r ⟨t,ts,Γ,k,l,rp,g,c⟩
 unfold nE at g
 split at g
 ·rename_i k ts t
  obtain⟨y,rfl⟩:=zz1 l rfl
  obtain⟨a,vs,ea,ha,la,rp2⟩:=bY rp
  cases ea
  refine qt pins s σ H _ _ v us Q I rx r ⟨a,vs,y,rfl,rfl,ha,by rw[<-la];exact g.1,fun H' hp=>c _ _ _ _ g.2 (b9 ?_ fun _=>.non)⟩
  refine cn (ts:=ts++[t]) (vs:=vs++[y]) ?_ (by rw[h_,h_,la];rfl) hp
  rw[fj la,i_]
  exact rp2
 exact KJ g
theorem rq:MtP X "list.extend" n6:=by
 rintro pins s σ H x xs v us Q I rx r ⟨t,ts,Γ,k,l,rp,g,c⟩
 unfold n6 at g
 split at g
 ·rename_i k ts us'
  obtain⟨y,rfl⟩:=zz1 l rfl
  obtain⟨a,vs,ea,ha,la,rp2⟩:=bY rp
  cases ea
  have rp3:Rp X.K H ((.lst true us',some y)::(.bare,some (.ref a))::(zz ts vs++Γ)):=rp2.perm (by
   refine r_ (.cons _ d_) ?_
   exact .swap _ _ _)
  obtain⟨b,ws,eb,hb,lb,rp4⟩:=bY rp3
  cases eb
  have rp5:Rp X.K H ((.bare,some (.ref a))::(zz (ts++us') (vs++ws)++Γ)):=by
   rw[fj la,i_]
   refine rp4.tail.perm ?_
   refine d_.trans (.cons _ ?_)
   exact p_ _ _ _
  exact qF pins s σ H _ _ v us Q I rx r ⟨a,b,vs,ws,rfl,rfl,ha,hb,by rw[<-la,<-lb];exact g.1,fun H' hp=>c _ _ _ _ g.2 (b9 (cn rp5 (by rw[h_,h_,la,lb]) hp) fun _=>.non)⟩
 exact KJ g
theorem wM:∀ {ts:List T} {vs:List V},ts.length=vs.length->zz ts.reverse vs.reverse=(zz ts vs).reverse
 | [],[],_=>rfl
 | [],_::_,l=>by cases l
 | _::_,[],l=>by cases l
 | t::ts,v::vs,l=>by
  have l':ts.length=vs.length:=by simpa using l
  rw[Hc,Hc,fj (by rw[GF,GF];exact l'),wM l']
  show _=((t,some v)::zz ts vs).reverse
  rw[Hc]
  rfl
theorem qb:MtP X "list.reverse" jQ:=by
 rintro pins s σ H x xs v us Q I rx r ⟨t,ts,Γ,k,l,rp,g,c⟩
 unfold jQ at g
 split at g
 ·rename_i k ts
  have:xs=[]:=by cases xs with | nil=>rfl | cons _ _=>cases l
  subst this
  obtain⟨a,vs,ea,ha,la,rp2⟩:=bY rp
  cases ea
  refine rO pins s σ H _ _ v us Q I rx r ⟨a,vs,rfl,rfl,ha,c _ _ _ _ g (b9 (cn (ts:=ts.reverse) (vs:=vs.reverse) (rp2.perm (.cons _ ?_)) (by rw[GF,GF,la]) Put.up) fun _=>.non)⟩
  rw[wM la]
  exact(List.reverse_perm _).symm.append_right _
 exact KJ g
end
def outs(ms:List Bool)(env:Ev):List T:=ms.zipWith (fun b t=>if b then t else .any) env
def κm(ms:List Bool)(j:Nat):Bool:=match ms[j]? with
 | some b=>b
 | none=>false
theorem gy{K:Kk}{H:Hp}{Γ:Fm}:∀ {ms:List Bool} {env:Ev} {σ:L2.St} {vs:List V},ms.length=vs.length->(∀ j,κm ms j=true->σ[j]?=(vs[j]?).map some)->Rp K H (env.zip σ++Γ)->Rp K H (zz (outs ms env) vs++Γ)
 | [],env,σ,vs,l,k,h=>h.part
 | _::_,_,_,[],l,_,_=>by cases l
 | m::ms,[],σ,v::vs,l,k,h=>h
 | m::ms,t::env,[],v::vs,l,k,h=>by
  have ih:=gy (ms:=ms) (env:=env) (σ:=[]) (vs:=vs) (by simpa using l) (fun j hj=>by
   have:=k (j + 1) hj
   simpa using this) (by simpa using h)
  cases m with
  | true=>have:=k 0 rfl;simp at this
  | false=>exact dD ih
 | m::ms,t::env,x::σ,v::vs,l,k,h=>by
  have h:Rp K H ((t,x)::(env.zip σ++Γ)):=h
  have ks:∀ j,κm ms j=true->σ[j]?=(vs[j]?).map some:=fun j hj=>by
   have:=k (j + 1) hj
   simpa using this
  cases m with
  | true=>
   have e:x=some v:=by
    have:=k 0 rfl
    simpa using this
   subst e
   have h2:Rp K H (env.zip σ++((t,some v)::Γ)):=h.perm d_.symm
   exact(gy (ms:=ms) (by simpa using l) ks h2).perm d_
  | false=>exact dD (gy (ms:=ms) (by simpa using l) ks h.tail)
theorem wO{K:Kk}{H:Hp}{Γ:Fm}{ts:List T}{vs:List V}(l:ts.length=vs.length)(n:Nat)(h:Rp K H (zz ts vs++Γ)):Rp K H ((ts++s_ n T.any).zip (vs.map some++s_ n none)++Γ):=by
 rw[JV (by rw[a_];exact l),i_]
 have:∀ n,Rp K H (zz ts vs++((s_ n T.any).zip (s_ n (none:Option V))++Γ)):=by
  intro n
  induction n with
  | zero=>exact h
  | succ n ih=>
   rw[Ge,Ge]
   exact(dD (x:=none) ih).perm d_.symm
 exact this n
theorem bT{P:Kz}{w:KD}{K:Kk}{mg:Str->Option Kj}{base:KH}{x qual:Str}{st:K8}{f:Kl}{fd:KP}{N ps:List Str}{k:Nat}{Pr:FP}(F:Fun K x qual st f fd)(S:FnScope N ps (ai st))(ms:List Bool)(hms:ms.length=ps.length)
  (body:∀(cdv:Kj) (A:KN) (outer:List Env) (s:Km) (H:Hp) (E:XK),Room k (A.deeper (Na qual (ai st) s.heap.objs.size f cdv))->
   ∃ fb,GSs (κm ms) (qm CX0 P w K mg base N qual (ai st) f cdv A outer s H E).nox (bL st) fb/\∀ ts kk,ts.length=ps.length->Pr ts kk->fb { nx:=fun env=>kk .non (outs ms env),rt:=fun t env=>kk t (outs ms env) } (ts++s_ (N.length - ps.length) .any)) :
  FnOk P w K mg base CX0 (k + 1) f fd ps (aE K ps.length Pr):=by
 refine F.ok S (fun vs H Q E ⟨ts,Fr,kk,h1,h2,_⟩=>h2) (fun cdv A outer s H vs Q E hr ⟨ts,Fr,kk,h1,h2,rp,pr,c⟩=>?_)
 obtain⟨fb,hb,q⟩:=body cdv A outer s H E hr
 refine⟨_,hb,ts++s_ (N.length - ps.length) .any,Fr,_,?_,q ts kk (by rw[h1,h2]) pr,?_⟩
 ·unfold L2.start
  rw[h2]
  refine⟨by simp[h1],wO h1 _ rp⟩
 have kv:∀ {σ'},Kept (κm ms) (L2.start N vs) σ'->∀ j,κm ms j=true->σ'[j]?=(vs[j]?).map some:=fun{σ'} kp j hj=>by
  rw[kp.2 j hj]
  unfold L2.start
  have hj2:j < vs.length:=by
   rw[h2,<-hms]
   unfold κm at hj
   split at hj
   ·rename_i b e
    exact(c_.mp e).1
   cases hj
  rw[Gq (by rw[a_];exact hj2),A']
 refine⟨fun env' σ' H' q' rs' k'=>c _ _ _ _ q' ?_,fun t env' v σ' H' q' rs' k'=>c _ _ _ _ q' ?_,fun _ _ _ z=>z.elim,fun _ _ _ z=>z.elim⟩
 ·exact b9 (gy (by rw[hms,h2]) (kv k') rs'.2) fun _=>.non
 exact(gy (Γ:=(t,some v)::Fr) (by rw[hms,h2]) (kv k') rs'.2).perm d_
open PySem PySem.Spec PyProof.Rows L2
section
variable{X:Cx}{pos:Pos}
theorem y0{st:K8}{te:TE}{i:Nat}(h:PS X st (yH te (tF i))):PS X st (fun D σ H=>te σ H fun v H'=>Gr H H'/\D.nx (σ.set i (some v)) (over H H')):=by
 intro pins s σ H D I q
 have key:=h pins s σ H { nx:=fun σ' H'=>Gr H H'/\D.nx σ' (over H H'),rt:=fun _ _=>False } I q
 refine thn key fun f s' hs=>?_
 cases f with
 | next=>
  obtain⟨σ',H',I',g,q'⟩:=hs
  exact⟨σ',over H H',kG I I' g,q'⟩
 | brk=>obtain⟨_,_,_,z⟩:=hs;exact z.elim
 | cont=>obtain⟨_,_,_,z⟩:=hs;exact z.elim
 | ret u=>obtain⟨_,_,_,_,_,z⟩:=hs;exact z.elim
theorem A6{K:Kk}{f:PF}{σ:L2.St}{H:Hp}{Q:VK}(h:wE K (fQ f) σ H Q):wE K f σ H fun v H'=>Gr H H'/\Q v (over H H'):=by
 obtain⟨env,Fr,k,rs,q,c⟩:=h
 have rv:Rs K H (erL env) σ ((Fr.map fun p=>(er p.1,p.2))++[(.kp H,some .non)]):=by
  refine⟨by rw[jm];exact rs.1,?_⟩
  have:=nk rs.2
  rw[v_,ju,i_]at this
  exact this
 refine⟨erL env,_,_,rv,q,?_⟩
 rintro t env' v H' ⟨n,kt⟩ rs'
 obtain⟨g,r2⟩:=mY rs.2 (Δ:=env'.zip σ++(Fr.map fun p=>(er p.1,p.2))) (by rw[i_];exact rs'.head) n
 exact⟨g,c t env v _ kt (.of rs.1 r2)⟩
theorem oj{κ:Nat->Bool}{N ps:List Str}{esc:Lp}(S:FnScope N ps esc){i:Nat}{x:Str}{pos pos':Pos}(N':List Str)(fr:List (Option Nat))(nd:N'.Nodup){elt target iter:KC}{ifs:List KC}{sc:Lp}{pos2:Pos}{fi:PIt}{g:PG'}{ft:PB}{fe:PF}(C:dJ N esc sc N' fr=true)
  (hi:X.N[i]?=some x) (hx:Loc X.env.scope x) (hκ:κ i=false) (hit:GI X target iter fi) (hg:∀ s3 H3 fp,GG (κc fr) (aD X N' sc s3 H3 fp) target g) (ht:∀ s3 H3 fp,GTs (aD X N' sc s3 H3 fp) ifs ft) (he:∀ s3 H3 fp,GE (aD X N' sc s3 H3 fp) elt fe)
  (hsw:ME (.ListComp elt [⟨target,iter,ifs,0⟩] sc pos2) (some (.Name x pos')) pos.line X.env=pure true) (hf:X.fn x=true:=by rfl)
  (hc:X.calm=true:=by rfl) (hN:X.N=N:=by rfl) (hS:X.env.scope=esc:=by rfl) (hs:∀ x,Li iter X.env x=pure x:=by intro _;rfl):GS κ X (.Assign [.Name x pos'] (.ListComp elt [⟨target,iter,ifs,0⟩] sc pos2) pos) (yW i (fQ (og fr fi g ft fe))):=by
 refine PS.imp (y0 (sr S N' fr nd C hi hx hit hg ht he hsw hf hc hN hS hs)) ?_
 rintro D σ H ⟨env,Fr,pe,rs,q,c⟩
 exact rB σ H _ (A6 (Q:=fun v H'=>D.nx (σ.set i (some v)) H') ⟨env,Fr,_,rs,q,fun t env' v H' q1 rs1=>c.nx _ _ _ q1 rs1.put (.set hκ)⟩)
theorem Dm:GE X (.Dict [] [] pos) (fK (.dT true [])):=PE.imp vD fun σ H Q ⟨env,Fr,k,rs,q,c⟩=>fun p hp=>c _ _ _ _ q (.of rs.1 (ze rs.2 hp (aO hp _) ax))
end
section
variable{κ':Type}[DecidableEq κ']
theorem oO:∀ {ts:List (κ' × T)} {vs:List (κ' × V)} (q:κ') (t:T) (w:V),ts.map (·.1)=vs.map (·.1)->(ip ts q t).map (·.1)=(putK vs q w).map (·.1):=by
 intro ts vs q t w e
 have ha:(ts.any fun kv=>decide (kv.1=q))=(vs.any fun kv=>decide (kv.1=q)):=by
  have e1:(ts.any fun kv=>decide (kv.1=q))=(ts.map (·.1)).any fun k=>decide (k=q):=by rw[JC];rfl
  have e2:(vs.any fun kv=>decide (kv.1=q))=(vs.map (·.1)).any fun k=>decide (k=q):=by rw[JC];rfl
  rw[e1,e2,e]
 unfold ip putK
 rw[ha]
 split
 ·rw[FZ,FZ]
  have f1:((fun x:κ' × T=>x.1) ∘ fun kv=>if kv.1=q then(kv.1,t)else kv)=fun x=>x.1:=by funext kv;show(if kv.1=q then(kv.1,t)else kv).1=kv.1;split <;> rfl
  have f2:((fun x:κ' × V=>x.1) ∘ fun kv=>if kv.1=q then(kv.1,w)else kv)=fun x=>x.1:=by funext kv;show(if kv.1=q then(kv.1,w)else kv).1=kv.1;split <;> rfl
  rw[f1,f2,e]
 rw[v_,v_,e]
 rfl
theorem lI:∀ {ts:List (κ' × T)} {vs:List (κ' × V)} (q:κ') (t:T) (w:V),ts.map (·.1)=vs.map (·.1)->(vs.map (·.1)).Nodup->∃ r,((t,some w)::zz (ts.map (·.2)) (vs.map (·.2))).Perm (r++zz ((ip ts q t).map (·.2)) ((putK vs q w).map (·.2))):=by
 intro ts vs q t w e nd
 by_cases hm:q∈vs.map (·.1)
 ·
  have ha:(vs.any fun kv=>decide (kv.1=q))=true:=by
   obtain⟨kv,h1,h2⟩:=FG.mp hm
   exact Ho.mpr ⟨kv,h1,decide_eq_true h2⟩
  have hb:(ts.any fun kv=>decide (kv.1=q))=true:=by
   rw[<-e]at hm
   obtain⟨kv,h1,h2⟩:=FG.mp hm
   exact Ho.mpr ⟨kv,h1,decide_eq_true h2⟩
  unfold ip putK
  rw[if_pos ha,if_pos hb]
  clear ha hb
  induction ts generalizing vs with
  | nil=>
   have:vs=[]:=by cases vs with | nil=>rfl | cons _ _=>cases e
   subst this
   cases hm
  | cons a ts ih=>
   cases vs with
   | nil=>cases e
   | cons b vs=>
    obtain⟨k1,t1⟩:=a
    obtain⟨k2,v1⟩:=b
    rw[g_,g_,HH]at e
    have ek:k1=k2:=e.1
    subst ek
    rw[g_,D_]at nd
    by_cases hk:k1=q
    ·subst hk
     have n1:∀ kv∈ts,kv.1≠k1:=fun kv hkv z=>nd.1 (by
      rw[<-e.2]
      exact FG.mpr ⟨kv,hkv,z⟩)
     have n2:∀ kv∈vs,kv.1≠k1:=fun kv hkv z=>nd.1 (FG.mpr ⟨kv,hkv,z⟩)
     have m1:ts.map (fun kv=>if kv.1=k1 then(kv.1,t)else kv)=ts:=by
      conv=>rhs;rw[<-JJ ts]
      exact Gh fun kv hkv=>if_neg (n1 kv hkv)
     have m2:vs.map (fun kv=>if kv.1=k1 then(kv.1,w)else kv)=vs:=by
      conv=>rhs;rw[<-JJ vs]
      exact Gh fun kv hkv=>if_neg (n2 kv hkv)
     refine⟨[(t1,some v1)],?_⟩
     simp only[g_,if_true,m1,m2]
     exact .swap _ _ _
    have hm':q∈vs.map (·.1):=by
     rcases t_.mp hm with z | z
     ·exact absurd z.symm hk
     exact z
    obtain⟨r,p⟩:=ih e.2 nd.2 hm'
    refine⟨r,?_⟩
    simp only[g_,if_neg hk]
    show JZ ((t,some w)::(t1,some v1)::zz (ts.map (·.2)) (vs.map (·.2))) (r++((t1,some v1)::zz ((ts.map fun kv=>if kv.1=q then(kv.1,t)else kv).map (·.2)) ((vs.map fun kv=>if kv.1=q then(kv.1,w)else kv).map (·.2))))
    exact(Iy _ _ _).trans ((p.cons _).trans d_.symm)
 have ha:(vs.any fun kv=>decide (kv.1=q))=false:=by
  rw[GV]
  intro z
  obtain⟨kv,h1,h2⟩:=Ho.mp z
  exact hm (FG.mpr ⟨kv,h1,of_decide_eq_true h2⟩)
 have hb:(ts.any fun kv=>decide (kv.1=q))=false:=by
  rw[GV]
  intro z
  obtain⟨kv,h1,h2⟩:=Ho.mp z
  exact hm (by rw[<-e];exact FG.mpr ⟨kv,h1,of_decide_eq_true h2⟩)
 unfold ip putK
 rw[ha,hb]
 refine⟨[],?_⟩
 simp only[Ga,if_false,GO]
 rw[v_,v_,fj (by rw[a_,a_];exact ba e)]
 exact(Gm (l₁:=[(t,some w)]))
end
noncomputable def uv:T->T->T->(T->Prop)->Prop
 | .lst true ts,.int i,v,k=>got (ixN ts.length i) fun j=>k (.lst true (ts.set j v))
 | .dK true kvs,y,v,k=>got (oI y) fun q=>kvs.length < sizeLine/\k (.dK true (ip kvs q v))
 | .dT true kvs,.tup ks,v,k=>got (dg ks) fun q=>kvs.length < sizeLine/\k (.dT true (ip kvs q v))
 | _,_,_,_=>False
section
variable{X:Cx}{κ:Nat->Bool}{pos:Pos}
theorem y6{P:Kz}{w:KD}{H:Hp}{h:KH}{a:Kl}{kvs:List (List Key × V)}(ok:HOk P w H h)(e:H a=some (.dT kvs)):(kvs.map (·.1)).Nodup:=by
 obtain⟨z,y,xs,r,o,es,ep,h1,h2,h3,h4,h5⟩:=ok a _ e
 have:kvs.map (·.1)=xs.map (·.1):=by
  clear h4 h5 h1 z e
  induction r with
  | nil=>rfl
  | cons q _ ih=>rw[g_,g_,ih,q.1]
 rw[this];exact h5
theorem wF{P:Kz}{w:KD}{H:Hp}{h:KH}{a:Kl}{kvs:List (Key × V)}(ok:HOk P w H h)(e:H a=some (.dK kvs)):(kvs.map (·.1)).Nodup:=by
 obtain⟨z,y,vs,r,o,es,ep,h1,h2,h3,h4,h5,h6⟩:=ok a _ e
 have:kvs.map (·.1)=vs.map (·.1):=by
  clear h6 h5 h4 h1 z e
  induction r with
  | nil=>rfl
  | cons q _ ih=>rw[g_,g_,ih,q.1]
 rw[this];exact h6
theorem wj:∀ {ts:List T} {vs:List V} {j:Nat} {t:T} {w:V},ts.length=vs.length->j < ts.length->∃ r,((t,some w)::zz ts vs).Perm (r::zz (ts.set j t) (vs.set j w))
 | [],vs,j,t,w,l,h=>by cases h
 | a::ts,[],j,t,w,l,h=>by cases l
 | a::ts,b::vs,0,t,w,l,h=>⟨(a,some b),.swap _ _ _⟩
 | a::ts,b::vs,j + 1,t,w,l,h=>by
  obtain⟨r,p⟩:=wj (ts:=ts) (vs:=vs) (j:=j) (t:=t) (w:=w) (by simpa using l) (by simpa using h)
  exact⟨r,(Iy _ _ _).trans ((p.cons _).trans (.swap _ _ _))⟩
theorem DC{kr:Nat}(hr:Room kr X.A):rJ X (fun o i v H Q=>∃ t ti tv Γ k,Rp X.K H ((t,some o)::(ti,some i)::(tv,some v)::Γ)/\uv t ti tv k/\∀ t' H',k t'->Rp X.K H' ((t',some o)::Γ)->Q H'):=by
 rintro pins s σ H o i v ov iv u Q I ro ri rv ⟨t,ti,tv,Γ,k,rp,g,c⟩
 cases t with
 | lst own ts=>
  cases own <;> cases ti <;> first | exact KJ g | skip
  rename_i j
  obtain⟨m,em,kt⟩:=az g
  rw[aM rp.tail]at ri
  obtain⟨a,vs,ea,ha,la,rp2⟩:=bY rp
  cases ea
  have hm:m < ts.length:=by have:=(ny em).2.1;exact this
  rw[la]at em
  refine uT pins s σ H _ _ v ov iv u Q I ro ri rv ⟨a,vs,j,m,rfl,rfl,ha,em,fun H' hp=>c _ _ kt ?_⟩
  obtain⟨r,p⟩:=wj (t:=tv) (w:=v) la hm
  have rp3:Rp X.K H ((.bare,some (.ref a))::(zz ts vs++((tv,some v)::Γ))):=by
   have:Rp X.K H ((.int j,some i)::((.bare,some (.ref a))::(zz ts vs++((tv,some v)::Γ)))):=rp2.perm (by
    refine r_ (.cons _ d_) ?_
    exact .swap _ _ _)
   exact this.tail
  have rp4:Rp X.K H (r::((.bare,some (.ref a))::(zz (ts.set m tv) (vs.set m v)++Γ))):=rp3.perm (by
   refine r_ (.cons _ (d_.trans (p.append_right Γ))) ?_
   exact .swap _ _ _)
  exact cn rp4.tail (by rw[FJ,FJ,la]) hp
 | dK own kvs=>
  cases own <;> first | exact KJ g | skip
  have g:got (oI ti) fun q=>kvs.length < sizeLine/\k (.dK true (ip kvs q tv)):=by cases ti <;> exact g
  obtain⟨q,eq,hz,kt⟩:=az g
  rw[jx eq rp.tail]at ri
  obtain⟨a,vs,ea,ha,la,rp2⟩:=qa rp
  cases ea
  cases ro
  have hl:vs.length < sizeLine:=by rw[<-ba la];exact hz
  refine iB (eV hr) I (.inl ⟨vs,q,ha,rfl,hl,rfl⟩) ri rv fun s' I'=>⟨_,I',c _ _ kt ?_⟩
  obtain⟨r,p⟩:=lI q tv v la (wF I.hok ha)
  have rp3:Rp X.K H ((.bare,some (.ref a))::(zz (kvs.map (·.2)) (vs.map (·.2))++((tv,some v)::Γ))):=by
   have:Rp X.K H ((ti,some i)::((.bare,some (.ref a))::(zz (kvs.map (·.2)) (vs.map (·.2))++((tv,some v)::Γ)))):=rp2.perm (by
    refine r_ (.cons _ d_) ?_
    exact .swap _ _ _)
   exact this.tail
  have rp4:Rp X.K H (r++((.bare,some (.ref a))::(zz ((ip kvs q tv).map (·.2)) ((putK vs q v).map (·.2))++Γ))):=rp3.perm (by
   refine r_ (.cons _ (d_.trans (p.append_right Γ))) ?_
   rw[i_]
   exact d_.symm)
  exact mw rp4.part (oO q tv v la) Put.up
 | dT own kvs=>
  cases own <;> cases ti <;> first | exact KJ g | skip
  rename_i ks
  obtain⟨q,eq,hz,kt⟩:=az g
  obtain⟨b,rfl,hb⟩:=jt eq rp.tail
  obtain⟨a,vs,ea,ha,la,rp2⟩:=xN rp
  cases ea
  cases ro
  have hl:vs.length < sizeLine:=by rw[<-ba la];exact hz
  refine iB (eV hr) I (.inr ⟨vs,q,b,ha,rfl,hb,hl,rfl⟩) ri rv fun s' I'=>⟨_,I',c _ _ kt ?_⟩
  obtain⟨r,p⟩:=lI q tv v la (y6 I.hok ha)
  have rp3:Rp X.K H ((.bare,some (.ref a))::(zz (kvs.map (·.2)) (vs.map (·.2))++((tv,some v)::Γ))):=by
   have:Rp X.K H ((.tup ks,some (.ref b))::((.bare,some (.ref a))::(zz (kvs.map (·.2)) (vs.map (·.2))++((tv,some v)::Γ)))):=rp2.perm (by
    refine r_ (.cons _ d_) ?_
    exact .swap _ _ _)
   exact this.tail
  have rp4:Rp X.K H (r++((.bare,some (.ref a))::(zz ((ip kvs q tv).map (·.2)) ((putK vs q v).map (·.2))++Γ))):=rp3.perm (by
   refine r_ (.cons _ (d_.trans (p.append_right Γ))) ?_
   rw[i_]
   exact d_.symm)
  exact uk rp4.part (oO q tv v la) Put.up
 | _=>cases ti <;> exact KJ g
noncomputable def Az(i:Nat)(fi:PF):PG':=fun v env k=>got (env[i]?) fun t0=>isAny t0=false/\fi env fun ti env1=>got (env1[i]?) fun t=>uv t ti v fun t'=>k (env1.set i t')
theorem xQ{kr i:Nat}{x:Str}{xp:Pos}{ix:KC}{fi:PF}(hr:Room kr X.A)(hi:GE X ix fi)(hN:X.N[i]?=some x:=by rfl)(hv:Vis X.env.scope x:=by first | exact j' rfl | exact j_ (j' rfl) | exact j_ (j_ rfl))(hd:(x ==("__debug__":Str))=false:=by decide)(hcd:(x ==("__classdict__":Str))=false:=by decide)
  (ha:∀ v,MZ (.Subscript (.Name x xp) ix pos) X.env v=(do
   let ov <-MA [v] (KR (.Name x xp) X.env)
   let iv <-MA [v,ov] (KR ix X.env)
   O0 pos
   MA [v,ov,iv] (Qf ov iv v)
   release [v,ov,iv] []):=by intro _;rfl):GG κ X (.Subscript (.Name x xp) ix pos) (Az i fi):=by
 rintro pins s σ H v u Q I r ⟨tv,env,Fr,k,rs,q,c⟩
 obtain⟨t0,e0,na,q⟩:=az q
 obtain⟨y,ey,rs2⟩:=rs.slot e0
 obtain⟨w,rfl⟩:=bO rs2 na
 refine wm (d8 hN hv hd hcd) hi (DC hr) ha pins s σ H v u Q I r ⟨w,ey,env,(tv,some v)::Fr,_,rs,q,fun ti env1 iv H1 q1 rs1=>?_⟩
 obtain⟨t,et,q1⟩:=az q1
 obtain⟨y',ey',rs3⟩:=rs1.slot et
 rw[ey]at ey'
 cases ey'
 have hi':i < env1.length:=(c_.mp et).1
 refine⟨t,ti,tv,(env1.set i .any).zip σ++Fr,_,?_,q1,fun t' H' kt rp=>c _ _ _ kt ?_ .refl⟩
 ·refine rs3.head.perm (.cons _ ?_)
  refine r_ d_ (.cons _ ?_)
  exact d_
 have r4:Rs X.K H' (env1.set i .any) σ ((t',some w)::Fr):=.of rs3.1 rp
 have r5:=Rs.eY (i:=i) r4 (by rw[FJ];exact hi') ey
 rw[IY]at r5
 exact r5
end
open PySem PySem.Spec PyProof.Rows L2
class Th (α:Type) where
 v:α
def EJ(P:FP)(ts:List T)[k:Th (T->List T->Prop)]:Prop:=P ts k.v
def iN(b:Bool)[A:Th Prop][B:Th Prop]:Prop:=cnd b A.v B.v
def bU{α:Type}(o:Option α)[k:Th (α->Prop)]:Prop:=got o k.v
noncomputable def B4(fr:List (Option Nat))(its:List T)(g:PG')(ft:PB)(fe:PF)(env:Ev)[k:Th (T->Ev->Prop)]:Prop:=AE fr its g ft fe env k.v
theorem cX{α:Type}{u:α}{k:Th (α->Prop)}:bU (some u) (k:=k)=k.v u:=rfl
theorem aF{α:Type}{o:Option α}{u:α}{k:Th (α->Prop)}(e:o=some u)(h:k.v u):bU o (k:=k):=BF e h
theorem p0{A B:Th Prop}:iN true (A:=A) (B:=B)=A.v:=propext ⟨fun h=>h.1 rfl,fun h=>AU h⟩
theorem m4{A B:Th Prop}:iN false (A:=A) (B:=B)=B.v:=propext ⟨fun h=>h.2 rfl,fun h=>E7 h⟩
theorem yY{b:Bool}{A B:Th Prop}:iN (!b) (A:=A) (B:=B)=iN b (A:=B) (B:=A):=by cases b <;> simp only[Jt,Jk,p0,m4]
theorem mC{b:Bool}{A B:Th Prop}(h1:b=true->A.v)(h2:b=false->B.v):iN b (A:=A) (B:=B):=⟨h1,h2⟩
theorem d9{p:Prop}{d:Decidable p}{A B:Th Prop}(h1:p->A.v)(h2:¬ p->B.v):iN (decide p) (A:=A) (B:=B):=⟨fun h=>h1 (of_decide_eq_true h),fun h=>h2 (of_decide_eq_false h)⟩
theorem Af{b:Bool}{A B:Th Prop}(e:b=true)(h:A.v):iN b (A:=A) (B:=B):=by rw[e];exact AU h
section
variable{f g:PF}{env:Ev}{k:T->Ev->Prop}{kb:Bool->Ev->Prop}{tc td:PB}{pe:PEn}{u v:PSt}{fs:PFs}{fa:PAs}{ks:List T->Ev->Prop}{ka:List Arg->Ev->Prop}
theorem o7:fQ f env k=f (erL env) fun t _=>bP t=true/\k t env:=rfl
theorem Cr:fQT tc env kb=tc (erL env) fun b _=>kb b env:=rfl
theorem qg{t:T}:fK t env k=k t env:=rfl
theorem yd{i:Nat}:zE i env k=bU (env[i]?) (k:=⟨fun t=>isAny t=false/\aN t=true/\k t env⟩):=by unfold zE;cases env[i]? <;> rfl
theorem Dj{i:Nat}:fFz i env k=bU (env[i]?) (k:=⟨fun t=>isAny t=false/\k (er t) (env.set i (er t))⟩):=by unfold fFz;cases env[i]? <;> rfl
theorem CV{i:Nat}:fMv i env k=bU (env[i]?) (k:=⟨fun t=>isAny t=false/\k t (env.set i .any)⟩):=by unfold fMv;cases env[i]? <;> rfl
theorem gU{p:P2}:ur p f g env k=f env fun x env1=>g env1 fun y env2=>p x y fun t=>k t env2:=rfl
theorem Du{p:T->(T->Prop)->Prop}:fUn p f env k=f env fun t env1=>p t fun u=>k u env1:=rfl
def asB(t:T)[k:Th (Bool->Prop)]:Prop:=match t with
 | .bl b=>k.v b
 | _=>False
theorem Ct{b:Bool}{k:Th (Bool->Prop)}:asB (.bl b) (k:=k)=k.v b:=rfl
theorem zG:CB f env kb=f env fun t env1=>asB t (k:=⟨fun b=>kb b env1⟩):=rfl
theorem zU:E3 f env kb=f env fun t env1=>wy t fun b=>kb b env1:=rfl
theorem xn:B1 tc td env kb=tc env fun b env1=>iN b (A:=⟨td env1 kb⟩) (B:=⟨kb false env1⟩):=rfl
theorem xP:B6 tc env kb=tc env fun b env1=>kb (!b) env1:=rfl
theorem yo:Es f g env k=f env fun t env1=>asB t (k:=⟨fun b=>iN b (A:=⟨g env1 k⟩) (B:=⟨k (.bl false) env1⟩)⟩):=rfl
theorem Ce:fIf tc f g env k=tc env fun b env1=>iN b (A:=⟨f env1 k⟩) (B:=⟨g env1 k⟩):=rfl
theorem fF:Dn env ks=ks [] env:=rfl
theorem eA:B0 f fs env ks=f env fun t env1=>fs env1 fun ts env2=>ks (t::ts) env2:=rfl
theorem fE:ED fs env k=fs env fun ts env1=>ts.length<=sizeLine/\k (.tup ts) env1:=rfl
theorem gA:E1 fs env k=fs env fun ts env1=>ts.length<=sizeLine/\k (.lst true ts) env1:=rfl
theorem Dv{p:P1s}:fCl p fs env k=fs env fun ts env1=>p ts fun t=>k t env1:=rfl
theorem gQ:En env ka=ka [] env:=rfl
theorem gE:DM f fa env ka=f env fun t env1=>fa env1 fun as env2=>ka (.val t::as) env2:=rfl
theorem yT{i:Nat}:CM i fa env ka=bU (env[i]?) (k:=⟨fun t=>isAny t=false/\fa env fun as env2=>ka (.bor i::as) env2⟩):=by
 unfold CM
 cases env[i]? with
 | none=>exact propext ⟨fun h=>h.1,fun h=>h.elim⟩
 | some t=>rfl
theorem fZ{n:Nat}{P:FP}:BJ n P fa env k=fa env fun as env1=>as.length=n/\EJ P (lend as env1).1 (k:=⟨fun t ts'=>k t (back as ts' (lend as env1).2)⟩):=rfl
theorem vZ{fr:List (Option Nat)}{fi:PIt}{gt:PG'}{ft:PB}{fe:PF}:og fr fi gt ft fe env k=fi env fun its env1=>B4 fr its gt ft fe env1 (k:=⟨k⟩):=rfl
theorem xW{i:Nat}{m:PM}:wW i m fs env k=bU (env[i]?) (k:=⟨fun t0=>isL t0=true/\fs env fun ts env1=>bU (env1[i]?) (k:=⟨fun t=>m t ts fun t' r=>k r (env1.set i t')⟩)⟩):=rfl
theorem vR:AZ pe env=pe.nx env:=rfl
theorem fS:DB u v pe env=u { pe with nx:=v pe } env:=rfl
theorem x5:AI f pe env=f env fun _ env1=>pe.nx env1:=rfl
theorem fJ:EB f pe env=f env fun t env1=>pe.rt t env1:=rfl
theorem Dh:sIf tc u v pe env=tc env fun b env1=>iN b (A:=⟨u pe env1⟩) (B:=⟨v pe env1⟩):=rfl
theorem gL{i:Nat}:yW i f pe env=f env fun t env1=>pe.nx (env1.set i t):=rfl
theorem A0{gt:PG'}:DN f gt pe env=f env fun t env1=>gt t env1 pe.nx:=rfl
theorem yy{i:Nat}{p:P2}:BG i f p pe env=bU (env[i]?) (k:=⟨fun t=>isAny t=false/\aN t=true/\f env fun u env1=>p t u fun w=>pe.nx (env1.set i w)⟩):=by
 unfold BG
 cases env[i]? with
 | none=>exact propext ⟨fun h=>h.1,fun h=>h.elim⟩
 | some t=>exact propext ⟨fun⟨⟨a,b⟩,c⟩=>⟨a,b,c⟩,fun⟨a,b,c⟩=>⟨⟨a,b⟩,c⟩⟩
theorem uL:vk tc u pe env=rm tc u pe env:=rfl
theorem zj{fi:PIt}{gt:PG'}:F1 fi gt u pe env=fi env fun its env1=>forL its gt u pe env1:=rfl
variable{t:T}{ke:Ev->Prop}{ts:List T}{gt:PG'}{gts:oT}
theorem oG{i:Nat}:gN i t env ke=ke (env.set i t):=rfl
theorem yA:AF [] env ke=ke env:=propext ⟨fun h=>h.2,fun h=>⟨rfl,h⟩⟩
theorem wx:xI gt gts (t::ts) env ke=gt t env fun env1=>gts ts env1 ke:=rfl
theorem yP{n:Nat}:gTp n gts (.tup ts) env ke=(ts.length=n/\gts ts env ke):=rfl
theorem vq{i:Nat}{fi:PF}:Az i fi t env ke=bU (env[i]?) (k:=⟨fun t0=>isAny t0=false/\fi env fun ti env1=>bU (env1[i]?) (k:=⟨fun t1=>uv t1 ti t fun t'=>ke (env1.set i t')⟩)⟩):=rfl
variable{ki:List T->Ev->Prop}
theorem zI:F4 f env ki=f env fun t env1=>bU (items t) (k:=⟨fun ts=>ki (erL ts) env1⟩):=rfl
def as1(ts:List T)(k:Int->Prop):Prop:=match ts with
 | [.int j]=>k j
 | _=>False
def as3(ts:List T)(k:Int->Int->Int->Prop):Prop:=match ts with
 | [.int i,.int j,.int m]=>k i j m
 | _=>False
theorem CZ{j:Int}{k:Int->Prop}:as1 [.int j] k=k j:=rfl
theorem Cy{i j m:Int}{k:Int->Int->Int->Prop}:as3 [.int i,.int j,.int m] k=k i j m:=rfl
theorem CK:iR1 fs env ki=fs env fun ts env1=>as1 ts fun j=>(-(2 ^ 62)<=j/\j < 2 ^ 62)/\ki (fC 0 j.toNat) env1:=rfl
theorem Di:iR3 fs env ki=fs env fun ts env1=>as3 ts fun i j m=>m=-1/\(-(2 ^ 60)<=i/\i < 2 ^ 60/\-(2 ^ 60)<=j/\j < 2 ^ 60)/\ki (dnT i (i - j).toNat) env1:=rfl
def asO(ts:List T)(k:T->Prop):Prop:=match ts with
 | [t]=>k t
 | _=>False
theorem C4{t:T}{k:T->Prop}:asO [t] k=k t:=rfl
theorem Bn:iEn fs env ki=fs env fun ts env1=>asO ts fun t=>bU (items t) (k:=⟨fun as=>ki ((m_ as.length).zipWith (fun(i:Nat) (x:T)=>T.tup [.int (i:Int),x]) (erL as)) env1⟩):=rfl
end
section
variable{k:T->Prop}{i j l:Int}{x y:Str}{ts us:List T}{o o' b c:Bool}{t:T}
theorem zb:CC (.int i) (.int j) k=k (.int (i + j)):=rfl
theorem yD:CC (.lst o ts) (.lst o' us) k=(ts.length + us.length<=sizeLine/\k (.lst true (ts++us))):=rfl
theorem ym:Eb (.int i) (.int j) k=k (.int (i - j)):=rfl
theorem yq:Ei (.int i) (.int j) k=(v9 i j/\k (.int (i * 2 ^ j.toNat))):=rfl
theorem Ab:Ew (.int i) (.int j) k=k (.int (MM i j)):=rfl
theorem Dg:orT (.int i) (.int j) k=k (.int (LR i j)):=rfl
theorem Cp:gtT (.int i) (.int j) k=k (.bl (decide (j < i))):=rfl
theorem CI:EH (.int i) k=k (.int (-i)):=rfl
theorem xu:eqT (.int i) (.int j) k=k (.bl (decide (i=j))):=by
 unfold eqT
 refine propext ⟨fun h=>?_,fun h=>⟨rfl,rfl,show(0:Nat) < 190 by decide,?_⟩⟩
 ·have:=h.2.2.2
  rw[dt,dt,eqD]at this
  rw[GP]at this
  exact this
 rw[dt,dt,eqD,GP];exact h
theorem CY:neT (.int i) (.int j) k=k (.bl (!decide (i=j))):=by
 unfold neT
 refine propext ⟨fun h=>?_,fun h=>⟨rfl,rfl,show(0:Nat) < 190 by decide,?_⟩⟩
 ·have:=h.2.2.2
  rw[dt,dt,eqD,GP]at this
  exact this
 rw[dt,dt,eqD,GP];exact h
theorem gq:ixT (.lst o ts) (.int i) k=bU (atI ts i) (k:=⟨k⟩):=rfl
theorem Bh{kvs:List (List Key × T)}:ixT (.dT o kvs) (.tup ts) k=bU (dg ts) (k:=⟨fun q=>bU (kB kvs q) (k:=⟨k⟩)⟩):=rfl
theorem zR:inT t (.lst o ts) k=(isD t=true/\cA ts=true/\b7 (dtL ts) < 180/\k (.bl (kW t ts))):=rfl
theorem Aa{u:T}:BP t u k=inT t u fun w=>asB w (k:=⟨fun b=>k (.bl (!b))⟩):=rfl
theorem vE:dg []=some []:=rfl
theorem vf:dg (.int i::ts)=(dg ts).map fun ks=>NG i::ks:=by
 rw[dg]
 cases dg ts <;> rfl
theorem dU:dg (.non::ts)=(dg ts).map fun ks=>KQ none::ks:=by
 rw[dg]
 cases dg ts <;> rfl
theorem DK{α:Type}(a:α)(l:List α):atI (a::l) 0=some a:=nK (j:=0) rfl
theorem wk:Ey [.lst o ts] k=k (.int ts.length):=rfl
theorem xT:mL [.lst o ts] k=k (.tup ts):=rfl
theorem BD:Cv [.lst o ts] k=bU (boolsOf ts) (k:=⟨fun bs=>k (.bl (bs.all id))⟩):=rfl
theorem BB{kb:Bool->Prop}:wy (.bl b) kb=kb b:=rfl
theorem CU{kb:Bool->Prop}:wy (.int i) kb=kb (i != 0):=rfl
theorem Bm{kb:Bool->Prop}:wy (.lst o ts) kb=kb (!ts.isEmpty):=rfl
variable{km:T->T->Prop}
theorem qC:nE (.lst true ts) [t] km=(ts.length < sizeLine/\km (.lst true (ts++[t])) .non):=rfl
theorem qN:n6 (.lst true ts) [.lst true us] km=(ts.length + us.length<=sizeLine/\km (.lst true (ts++us)) .non):=rfl
theorem pP:jQ (.lst true ts) [] km=km (.lst true ts.reverse) .non:=rfl
theorem Bu{ti:T}:uv (.lst true ts) (.int i) t k=bU (ixN ts.length i) (k:=⟨fun j=>k (.lst true (ts.set j t))⟩):=rfl
theorem A5{kvs:List (List Key × T)}:uv (.dT true kvs) (.tup ts) t k=bU (dg ts) (k:=⟨fun q=>kvs.length < sizeLine/\k (.dT true (ip kvs q t))⟩):=rfl
end
theorem qQ{α:Type}(g:α->T)(l:List α):bg (l.map g)=l.all fun x=>aN (g x):=by rw[kI,HL];rfl
theorem iq{α:Type}(g:α->T)(l:List α):bz (l.map g)=l.all fun x=>bP (g x):=by rw[cZ,HL];rfl
theorem uN(l m:List T):bz (l++m)=(bz l && bz m):=by rw[cZ,cZ,cZ,List.all_append]
theorem vK{α:Type}(l:List α):(l.all fun _=>true)=true:=by induction l with | nil=>rfl | cons _ _ ih=>rw[IG,ih];rfl
theorem d3{i:Int}:isAny (.int i)=false:=rfl
theorem ui{ts:List T}:isAny (.tup ts)=false:=rfl
theorem cR{o:Bool}{ts:List T}:isAny (.lst o ts)=false:=rfl
theorem vc{o:Bool}{kvs:List (List Key × T)}:isAny (.dT o kvs)=false:=rfl
theorem yR{o:Bool}{ts:List T}:isL (.lst o ts)=true:=rfl
theorem uV{o:Bool}{ts:List T}:items (.lst o ts)=some ts:=rfl
theorem bX{its:List T}{g:PG'}{fb:PSt}{pe:PEn}{env:Ev}(W:Nat->Ev->Prop)(h0:W 0 env)(ht:∀ i t env,W i env->its[i]?=some t->g t env fun env2=>fb { pe with nx:=W (i + 1),ct:=W (i + 1),bk:=pe.nx } env2)(he:∀ env,W its.length env->pe.nx env):forL its g fb pe env:=⟨W,h0,ht,he⟩
theorem mf{tc:PB}{fb:PSt}{pe:PEn}{env:Ev}(W:Nat->Ev->Prop)(m:Nat)(h0:W m env)(ht:∀ m env,W m env->tc env fun b env1=>iN b (A:=⟨fb { pe with nx:=fun e=>∃ m',m' < m/\W m' e,ct:=fun e=>∃ m',m' < m/\W m' e,bk:=pe.nx } env1⟩) (B:=⟨pe.nx env1⟩)):rm tc fb pe env:=⟨W,⟨m,h0⟩,ht⟩
theorem aY{fr:List (Option Nat)}{its:List T}{g:PG'}{ft:PB}{fe:PF}{env:Ev}{k:Th (T->Ev->Prop)}(hz:its.length < sizeLine)(W:Nat->List T->Ev->Prop)(h0:W 0 [] (lend (frA fr) env).1)(ht:∀ i t acc ie,W i acc ie->its[i]?=some t->g t ie fun ie2=>ft ie2 fun b ie3=>iN b (A:=⟨fe ie3 fun u ie4=>W (i + 1) (acc++[u]) ie4⟩) (B:=⟨W (i + 1) acc ie3⟩))
  (he:∀ acc ie,W its.length acc ie->k.v (.lst true acc) (back (frA fr) ie (lend (frA fr) env).2)):B4 fr its g ft fe env (k:=k):=⟨hz,W,h0,ht,he⟩
def sq(b:Bool)(ts:List T):T:=match b with
 | true=>.tup ts
 | false=>.lst false ts
abbrev pt(x y:Int):T:=.tup [.int x,.int y]
end PL
namespace ZS
open PySem PyProof.Rows
def ltI(a b:Int):Bool:=decide (a < b)
theorem E8:Tot ltI:=⟨fun a=>decide_eq_false (Int.lt_irrefl a),fun a b c h g=>decide_eq_true (Int.lt_trans (of_decide_eq_true h) (of_decide_eq_true g)),fun a b h g=>by
 have h:=of_decide_eq_false h
 have g:=of_decide_eq_false g
 lia⟩
section
variable{prog:Kz}{w:KD}{A:KN}{E:Kj->Km->Prop}{s:Km}
theorem xM{ns:List Int}{S:Kq->Prop}(hS:∀ x,S x->∃ i t,x.1=.int i t/\i∈ns):bW (Kw prog w) A E s Pt (fun x=>rnk ltI ns (cF x.1)) S:=by
 intro x y st Q sx sy kd q
 obtain⟨i,t,ex,mi⟩:=hS x sx
 obtain⟨j,u,ey,mj⟩:=hS y sy
 rw[lt'_eq]
 refine Ku (MP ?_)
 rw[kd,ex,ey,keyLt'_oneType]
 refine Ku (Ov (Ml (oneLt_int ⟨rfl,?_⟩)))
 refine KA ?_
 dsimp only at q
 rw[Ah E8 (show cF x.1∈ns by rw[ex];exact mi),ex,ey]at q
 exact q
theorem xU{M:Mv}{v1:Kj}{vs:List Kj}{ns:List Int}{Q:Mh->Km->Prop}(hI:IntsAre (v1::vs) ns)(q:Q Pt s):Kr M A (Rv (v1::vs).toArray) Q E s:=by
 have e:Rv (v1::vs).toArray=pure Pt:=by
  rw[keyKind'_eq,JH,mapM_first_ints hI]
  simp only[map_pure,pure_bind]
  rw[if_neg (by simp),if_neg (by simp),oneTypeOnly'_eq,JH,mapM_typeOf_ints hI]
  simp only[map_pure,pure_bind]
  have hal:((G1 (fun _=>Lo "int") (v1::vs)).toArray.all fun x=>x == Lo "int")=true:=by
   simp only[List.all_toArray,HL,Hj]
   exact fun _ _=>rfl
  have hz:(G1 (fun _=>Lo "int") (v1::vs)).toArray[0]?=some (Lo "int"):=by simp
  rw[hz]
  simp only[hal,if_true,pure_bind,Jz]
 rw[e]
 exact Ko q
end
end ZS
namespace PL
open PySem PySem.Spec PyProof.Rows L2
section
variable{X:Cx}
theorem nV{K:Kk}{H:Hp}{Γ:Fm}:∀(ns:List Int),Rp K H Γ->Rp K H (zz (ns.map T.int) (ns.map V.int)++Γ)
 | [],h=>h
 | _::r,h=>b9 (nV r h) fun _=>.int
end
section
variable{X:Cx}
theorem kX{acc:Array Kj}{lo:Int}{n:Nat}(h:Qm (fun(i:Nat) (v:Kj)=>∃ t:Tok,v=Mm (lo + i * 1) t) acc n):Vals (((m_ n).map fun(i:Nat)=>lo + (i:Int)).map V.int) acc.toList:=by
 have gen:∀(m:Nat) (l:List Kj),l.length=m->(∀(j:Nat) (v:Kj),l[j]?=some v->∃ t:Tok,v=Mm (lo + (j:Int)) t)->Vals (((m_ m).map fun(i:Nat)=>lo + (i:Int)).map V.int) l:=by
  intro m
  induction m with
  | zero=>intro l hl _;have:l=[]:=List.length_eq_zero_iff.mp hl;subst this;exact .nil
  | succ m ih=>
   intro l hl hv
   have hne:l≠[]:=by intro z;subst z;simp at hl
   obtain⟨l',v,rfl⟩:∃ l' v,l=l'++[v]:=⟨l.dropLast,l.getLast hne,(List.dropLast_concat_getLast hne).symm⟩
   have hl':l'.length=m:=by simpa using hl
   rw[HD,v_,v_]
   refine Vals.append (ih l' hl' fun j w e=>hv j w ?_) ?_
   ·rw[Gq (c_.mp e).1];exact e
   obtain⟨t,e⟩:=hv m v (by rw[Gf (by lia),hl',Il];rfl)
   exact .cons ⟨t,e⟩ .nil
 refine gen n _ (by rw[f_];exact h.1) fun j v e=>?_
 rw[fk]at e
 obtain⟨t,q⟩:=h.2 j v e
 exact⟨t,by rw[q,Kc]⟩
theorem jg{pins:List (Kl × Obj)}{σ:L2.St}{H:Hp}{s:Km}{lo hi:Int}{t u v:Tok}{tk:Nat}{Q:VK}(I:Inv X pins σ H s)(hc:X.calm=true)(h1:-(2 ^ 62)<=lo)(h2:lo < 2 ^ 62)(h3:-(2 ^ 62)<=hi)(h4:hi < 2 ^ 62)(hz:(hi - lo).toNat<=2 ^ 24)
  (q:New (.lst (((m_ (hi - lo).toNat).map fun(i:Nat)=>lo + (i:Int)).map V.int)) H Q):Kr (Kw X.prog X.w) X.A (call (.type "list") [.ref s.heap.objs.size]) (EP X pins σ Q) X.xe { s with heap:=s.heap.push { cls:=.type "range",data:=.fields #[.int lo t,.int hi u,.int 1 v] },toks:=tk }:=by
 refine call_list_range (n:=(hi - lo).toNat) (I.ok.hd hc) (Pb ..) (small_one h1 h2 h3 h4) (rangeSize_nat _ _) hz fun h' tk' acc c hk e it=>?_
 have esz:(s.heap.push { cls:=.type "range",data:=.fields #[.int lo t,.int hi u,.int 1 v] }).objs.size=s.heap.objs.size + 1:=by simp[Heap.push]
 dsimp only at hk e ⊢
 rw[esz]at e ⊢
 have hfr:H (s.heap.objs.size + 1)=none:=I.hok.fresh (Hv _)
 have rv:=kX it
 refine⟨.ref (s.heap.objs.size + 1),_,I.laid (t':=tk') (h':=h') (fun b o z=>hk b o (Kn _ z)) (Hv _) (show aW X.prog X.w _ h' _ (.lst _)from⟨?_,acc.toList,c,rv,by simpa using e⟩),rfl,q _ _ hfr (aO hfr _) ax⟩
 rw[a_,a_,z_,K5]
 exact hz
variable{e a b:KC}{fr:PFs}{p1 p2 pos1 pos2:Pos}
def lr1:P1s
 | [.int j],k=>(-(2 ^ 62)<=j/\j<=2 ^ 24)/\k (.lst true (fC 0 j.toNat))
 | _,_=>False
theorem jD{j:Int}{k:T->Prop}:lr1 [.int j] k=((-(2 ^ 62)<=j/\j<=2 ^ 24)/\k (.lst true (fC 0 j.toNat))):=rfl
def DL(fr:PFs):PF:=fCl lr1 fr
theorem hV{env:Ev}{k:T->Ev->Prop}:DL fr env k=fr env fun ts env1=>lr1 ts fun t=>k t env1:=rfl
theorem l8(hc:X.calm=true)(hg1:Gl X "list")(hm1:X.mg "list"=none)(hg2:Gl X "range")(hm2:X.mg "range"=none)(ha:GA X [a] fr)
  (hs1:KG [a] X.env=[(false,KR a X.env)]:=by rfl) (hs2:KG [.Call (.Name "range" p2) [a] [] pos2] X.env=[(false,KR (.Call (.Name "range" p2) [a] [] pos2) X.env)]:=by rfl) :
  GE X (.Call (.Name "list" p1) [.Call (.Name "range" p2) [a] [] pos2] [] pos1) (DL fr):=by
 rintro pins s σ H Q I ⟨env,Fr,k,rs,q,c⟩
 refine Lz (bQ I hg1 hm1 boot_list (callWith_type1 ?_ (by rw[hs2];rfl) rfl))
 rw[hs2]
 refine Mn ?_
 refine Lz (bQ I hg2 hm2 PK (callWith_type1 ?_ (by rw[hs1];rfl) rfl))
 refine thn (ha pos2 pins s σ H (fun vs H1=>∃ ts env1,(lr1 ts fun t=>k t env1)/\ts.length=vs.length/\Rs X.K H1 env1 σ (zz ts vs++Fr)) I ⟨env,Fr,_,rs,q,fun ts env1 vs H1 q1 l rs1=>⟨ts,env1,q1,l,rs1⟩⟩) fun us s1 ⟨vs,H1,I1,r1,ts,env1,q1,l,rs1⟩=>?_
 match ts,vs,l,q1 with
 | [.int j],[v],l,q1=>
  have rs1:Rs X.K H1 env1 σ ((.int j,some v)::Fr):=rs1
  have ev:=aM rs1.head
  subst ev
  cases r1 with
  | cons r rr=>
   cases rr
   obtain⟨t,rfl⟩:=r
   refine Q5 ?_
   refine O3 ?_
   refine jg I1 hc (by lia) (by lia) q1.1.1 (Int.lt_of_le_of_lt q1.1.2 (by decide)) (by rw[J8];exact Int.toNat_le.mpr q1.1.2) fun p H' hp g e=>c _ _ _ _ q1.2 (.of rs1.1 ?_)
   have rp2:=nV ((m_ (j - 0).toNat).map fun(i:Nat)=>(0:Int) + (i:Int)) rs1.drop.2
   have er:fC 0 j.toNat=((m_ (j - 0).toNat).map fun(i:Nat)=>(0:Int) + (i:Int)).map T.int:=by rw[FZ,J8];rfl
   rw[er]
   exact fy rp2 (by simp only[a_]) hp g e
end
section
variable{b:Bool}{ts us:List T}{k:T->Prop}{i:Int}{t u:T}{env:Ev}{ke:T->Ev->Prop}
theorem dw(lo:Int)(n:Nat):(fC lo n).length=n:=by rw[fC,a_,z_]
theorem kP{lo:Int}{n i:Nat}{t:T}(h:(fC lo n)[i]?=some t):i < n:=by
 have:=(c_.mp h).1
 rwa[dw]at this
theorem Bx{lo:Int}{n i:Nat}{t:T}(h:(fC lo n)[i]?=some t):t=.int (lo + (i:Int)):=by
 have hi:=kP h
 rw[fC,A',G2 hi]at h
 cases h
 rfl
theorem bI{α:Type}{g:α->T}{l:List α}{i:Nat}{t:T}(h:(l.map g)[i]?=some t):∃ x,l[i]?=some x/\t=g x:=by
 rw[A']at h
 cases e:l[i]? with
 | none=>rw[e]at h;cases h
 | some x=>rw[e]at h;cases h;exact⟨x,rfl,rfl⟩
end
theorem vP{K:Kk}{Hz H:Hp}{vs:List V}:∀ {us:List V} {L:List Kl},RepTs K Hz H (vs.map T.hole) us L->us=vs:=by
 induction vs with
 | nil=>intro us L h;cases h;rfl
 | cons v vs ih=>
  intro us L h
  cases h with
  | cons e h c=>cases h;rw[ih c]
theorem qx{K:Kk}{H:Hp}{vs us:List V}{Γ:Fm}(h:Rp K H (zz (vs.map T.hole) us++Γ))(l:vs.length=us.length):us=vs:=by
 obtain⟨Hz,N,h,nd,g,d⟩:=h
 obtain⟨L,M,_,h1,_⟩:=h.split
 exact vP (h1.oF (by rw[a_];exact l))
theorem AL:∀ {ts:List T} {vs:List V} {i:Nat} {t:T} {w:V},ts[i]?=some t->vs[i]?=some w->∃ r,(zz ts vs).Perm ((t,some w)::r)/\∀ t',(zz (ts.set i t') vs).Perm ((t',some w)::r)
 | [],vs,i,t,w,e,f=>by simp at e
 | t::ts,[],i,_,w,e,f=>by simp at f
 | t::ts,v::vs,0,u,w,e,f=>by
  cases e;cases f
  exact⟨zz ts vs,.refl _,fun t'=>.refl _⟩
 | t::ts,v::vs,i + 1,u,w,e,f=>by
  obtain⟨r,p1,p2⟩:=AL (ts:=ts) (vs:=vs) (i:=i) e f
  exact⟨(t,some v)::r,(p1.cons _).trans (.swap _ _ _),fun t'=>((p2 t').cons _).trans (.swap _ _ _)⟩
end PL
namespace ZS
open PySem PyProof.Rows
open PySem.SeqAt PySem.MeetsSeq PySem.MeetsSeq2 PySem.MeetsSeq3
open AutoSeq1 (wpAny_loadPart')
theorem yG:∀(x y:List Int),x=[]\/y=[]->ltL x y=decide (x.length < y.length)
 | [],[],_=>rfl
 | [],_::_,_=>by rw[ltL];simp
 | _::_,[],_=>by rw[ltL];simp
 | _::_,_::_,h=>by rcases h with h | h <;> cases h
theorem vQ(l b:Kl)(items items2:Array Kj)(n n2:Nat)(dd dd2:Option Kl)(sl sl2:Array (Option Kj))(ia:AllInt items.toList)(ib:AllInt items2.toList)(k:Nat) :
  ∀ i:Nat,items.size - i=k->QZ (LC.«list.__eq__.loop» ⟨[.ref l,.ref b,Lr i,Lr 0],[]⟩)
   (fun A R s=>s.heap.get? l=some { cls:=.type "list",dict:=dd,data:=.seq items n,slots:=sl }/\s.heap.get? b=some { cls:=.type "list",dict:=dd2,data:=.seq items2 n2,slots:=sl2 }/\i<=items.size/\i<=items2.size/\
    R (.ok (.ret (.bool (ltL ((items.toList.map cF).drop i) ((items2.toList.map cF).drop i))))) s):=by
 have fin:∀ i:Nat,i<=items.size->i<=items2.size->(i=items.size\/i=items2.size)->QZ (LC.«list.__eq__.loop» ⟨[.ref l,.ref b,Lr i,Lr 0],[]⟩)
   (fun A R s=>s.heap.get? l=some { cls:=.type "list",dict:=dd,data:=.seq items n,slots:=sl }/\s.heap.get? b=some { cls:=.type "list",dict:=dd2,data:=.seq items2 n2,slots:=sl2 }/\R (.ok (.ret (.bool (ltL ((items.toList.map cF).drop i) ((items2.toList.map cF).drop i))))) s):=by
  intro i h1 h2 h3 prog w A R s h
  obtain⟨hp,g,d,tk,os⟩:=s;obtain⟨hl,hb,h⟩:=h
  have e1:ltL ((items.toList.map cF).drop i) ((items2.toList.map cF).drop i)=decide (items.size < items2.size):=by
   rw[yG _ _ (by rw[Jq,Jq,a_,a_,f_,f_];omega),FU,FU,a_,a_,f_,f_,decide_eq_decide]
   omega
  rw[e1]at h
  wp_walk using Lx hl,Lx hb
  have hi:items[((i:Nat):Int).toNat]?=none\/items2[((i:Nat):Int).toNat]?=none:=by
   rcases h3 with h3 | h3
   ·left;simp;omega
   right;simp;omega
  split
  ·rename_i e2
   rcases hi with hi | hi
   ·rw[hi]at e2;cases (JI e2).1
   rw[hi]at e2;cases (JI e2).2
  wp_walk using Lx hl,Lx hb
  exact h
 have at':∀(xs:Array Kj) (i:Nat) (h:i < xs.size),AllInt xs.toList->∃ a t,xs[i]=.int a t/\(xs.toList.map cF).drop i=a::(xs.toList.map cF).drop (i + 1):=fun xs i h ha=>by
  have hm:xs[i]∈xs.toList:=by simp
  obtain⟨a,t,e⟩:=ha _ hm
  refine⟨a,t,e,?_⟩
  rw[GY (by rw[a_,f_];exact h)]
  congr 1
  rw[List.getElem_map,Array.getElem_toList,e]
  rfl
 induction k with
 | zero=>
  intro i hk prog w A R s h
  exact fin i h.2.2.1 h.2.2.2.1 (by omega) prog w A R s ⟨h.1,h.2.1,h.2.2.2.2⟩
 | succ k ih=>
  intro i hk prog w A R s h
  by_cases h3:i=items2.size
  ·exact fin i h.2.2.1 h.2.2.2.1 (.inr h3) prog w A R s ⟨h.1,h.2.1,h.2.2.2.2⟩
  obtain⟨hp,g,d,tk,os⟩:=s;obtain⟨hl,hb,l1,l2,h⟩:=h
  have hlt:i < items.size:=by omega
  have hlt2:i < items2.size:=by omega
  obtain⟨a,ta,ea,da⟩:=at' items i hlt ia
  obtain⟨c,tc,ec,dc⟩:=at' items2 i hlt2 ib
  have hi1:items[((i:Nat):Int).toNat]?=some (.int a ta):=by simp[hlt,ea]
  have hi2:items2[((i:Nat):Int).toNat]?=some (.int c tc):=by simp[hlt2,ec]
  have hc:((i:Int) + 1)=((i + 1:Nat):Int):=by push_cast;rfl
  rw[da,dc,ltL]at h
  wp_walk using Lx hl,Lx hb
  rw[hi1,hi2]
  refine Ki (NJ ?_)
  by_cases z:a=c
  ·rw[if_pos z]at h
   rw[show(a == c)=true by simpa using z]
   wp_walk
   rw[hc]
   exact⟨Lu plain_eq_loop _,Lh entry_eq_loop (by
    rw[K9 plain_eq_loop _]
    exact ih (i + 1) (by omega) prog w A R _ ⟨hl,hb,by omega,by omega,h⟩)⟩
  rw[if_neg z]at h
  rw[show(a == c)=false by simpa using z]
  wp_walk using Lx hl,Lx hb
  rw[hi1,hi2]
  show Kr _ _ (Nk .Lt (.int a ta) (.int c tc) >>= fun r=>ret r) _ _ _
  exact Ki (Nz (op:=.Lt) (Mo _ a ta) (Mo _ c tc) F.slot_int_lt F.entry_int_lt (F.args_int_lt_2 _ _) (OV a c ta tc) (fun x=>nomatch x) (Ko h))
theorem xG(l b:Kl)(items items2:Array Kj)(n n2:Nat)(dd dd2:Option Kl)(sl sl2:Array (Option Kj))(ia:AllInt items.toList)(ib:AllInt items2.toList) :
  QZ (LC.«list.__lt__» ⟨[.ref l,.ref b],[]⟩)
   (fun A R s=>s.heap.get? l=some { cls:=.type "list",dict:=dd,data:=.seq items n,slots:=sl }/\s.heap.get? b=some { cls:=.type "list",dict:=dd2,data:=.seq items2 n2,slots:=sl2 }/\
    R (.ok (.ret (.bool (ltL (items.toList.map cF) (items2.toList.map cF))))) s):=by
 intro prog w A R s h
 obtain⟨hp,g,d,tk,os⟩:=s;obtain⟨hl,hb,h⟩:=h
 have f3:=RQ
 wp_walk using Lx hl,Lx hb
 exact⟨Lu plain_eq_loop _,Lh entry_eq_loop (by
  rw[K9 plain_eq_loop _]
  exact vQ l b items items2 n n2 dd dd2 sl sl2 ia ib _ 0 rfl prog w A R _ ⟨hl,hb,B' _,B' _,h⟩)⟩
end ZS
namespace ZT
open PySem
abbrev Up(l:List Nat):Prop:=l.Pairwise (· < ·)
theorem tH{l:List Nat}(h:Up l){i j:Nat}{x y:Nat}(hi:l[i]?=some x)(hj:l[j]?=some y)(hij:i < j):x < y:=by
 obtain⟨a,rfl⟩:=c_.mp hi
 obtain⟨b,rfl⟩:=c_.mp hj
 exact HG.mp h i j a b hij
theorem mI{xs:Array Nat}{j:Nat}(hu:Up xs.toList):∀(f lo hi:Nat),lo<=hi->hi<=xs.size->hi - lo<=f->(∀ k x,k < lo->xs[k]?=some x->x < j)->(∀ k x,hi<=k->xs[k]?=some x->j<=x)->
  MY xs j f lo hi<=xs.size/\(∀ k x,k < MY xs j f lo hi->xs[k]?=some x->x < j)/\∀ k x,MY xs j f lo hi<=k->xs[k]?=some x->j<=x
 | 0,lo,hi,h1,h2,h3,a,b=>by
  have e:lo=hi:=by omega
  subst e
  exact⟨h2,a,b⟩
 | f + 1,lo,hi,h1,h2,h3,a,b=>by
  unfold MY
  by_cases hl:lo < hi
  ·rw[if_pos hl]
   have hm:(lo + hi) / 2 < xs.size:=by omega
   have e:xs.getD ((lo + hi) / 2) j=xs[(lo + hi) / 2]:=by rw[GK,gV hm];rfl
   have em:xs.toList[(lo + hi) / 2]?=some xs[(lo + hi) / 2]:=by rw[fk];exact gV hm
   dsimp only
   rw[e]
   by_cases hx:xs[(lo + hi) / 2] < j
   ·rw[if_pos hx]
    refine mI hu f _ _ (by omega) h2 (by omega) (fun k x hk ek=>?_) b
    by_cases hk2:k=(lo + hi) / 2
    ·subst hk2
     rw[gV hm]at ek
     cases ek
     exact hx
    exact Ik (tH hu (by rw[fk];exact ek) em (by omega)) hx
   rw[if_neg hx]
   refine mI hu f _ _ (by omega) (by omega) (by omega) a fun k x hk ek=>?_
   by_cases hk2:k=(lo + hi) / 2
   ·subst hk2
    rw[gV hm]at ek
    cases ek
    exact FV hx
   have:=tH hu em (by rw[fk];exact ek) (by omega)
   omega
  rw[if_neg hl]
  have e:lo=hi:=by omega
  subst e
  exact⟨h2,a,b⟩
theorem fm{xs:Array Nat}(j:Nat)(hu:Up xs.toList):KU xs j<=xs.size/\(∀ k x,k < KU xs j->xs[k]?=some x->x < j)/\∀ k x,KU xs j<=k->xs[k]?=some x->j<=x:=
 mI hu _ _ _ (B' _) (e_ _) (by omega) (fun k x hk=>by omega) fun k x hk ek=>by rw[Ha hk]at ek;cases ek
theorem below_at{xs:Array Nat}(hu:Up xs.toList){i:Nat}{x:Nat}(hi:xs[i]?=some x):KU xs (x + 1)=i + 1:=by
 obtain⟨h1,h2,h3⟩:=fm (x + 1) hu
 have hlt:i < xs.size:=(Ht.mp hi).1
 have a:i < KU xs (x + 1):=IT fun z=>by have:=h3 i x z hi;omega
 by_cases c:i + 1 < KU xs (x + 1)
 ·have hn:i + 1 < xs.size:=by omega
  have:=h2 (i + 1) _ c (gV hn)
  have g:=tH hu (by rw[fk];exact hi) (by rw[fk];exact gV hn) (Hq i)
  omega
 omega
theorem zA{xs:Array Nat}(hu:Up xs.toList):KU xs 0=0:=by
 obtain⟨h1,h2,h3⟩:=fm 0 hu
 refine Nat.eq_zero_of_not_pos fun z=>?_
 have hn:0 < xs.size:=by omega
 have:=h2 0 _ z (gV hn)
 omega
theorem tR{xs:Array Nat}{j:Nat}(hu:Up xs.toList)(hj:xs[KU xs j]?≠some j):Up (Sl xs (KU xs j) j).toList:=by
 obtain⟨h1,h2,h3⟩:=fm j hu
 rw[Rw]
 have sp:xs.toList=xs.toList.take (KU xs j)++xs.toList.drop (KU xs j):=(FL _ _).symm
 have hu':=hu
 rw[sp]at hu'
 obtain⟨p,q,r⟩:=C'.mp hu'
 have lt:∀ x∈xs.toList.take (KU xs j),x < j:=fun x hx=>by
  obtain⟨k,hk,e⟩:=Gv.mp hx
  rw[FO]at hk
  rw[List.getElem_take]at e
  exact h2 k x (by omega) (by rw[<-fk,c_];exact⟨by omega,e⟩)
 have gt:∀ x∈xs.toList.drop (KU xs j),j < x:=fun x hx=>by
  obtain⟨k,hk,e⟩:=Gv.mp hx
  rw[FU]at hk
  rw[List.getElem_drop]at e
  have e2:xs[KU xs j + k]?=some x:=by rw[<-fk,c_];exact⟨by omega,e⟩
  refine Gp (h3 _ x (by omega) e2) fun z=>?_
  subst z
  by_cases k0:k=0
  ·subst k0
   exact hj e2
  have hb:KU xs j < xs.size:=by rw[f_]at hk;omega
  have g:=tH hu (i:=KU xs j) (j:=KU xs j + k) (by rw[fk];exact gV hb) (by rw[fk];exact e2) (by omega)
  have:=h3 _ _ (e_ _) (gV hb)
  omega
 exact C'.mpr ⟨p,IA.mpr ⟨gt,q⟩,fun a ha b hb=>by
  rcases t_.mp hb with e | hb
  ·rw[e]
   exact lt a ha
  exact r a ha b hb⟩
structure Gd (bt:Bool) (t:Lg):Prop where
 up:Up t.place.toList
 no:t.dummies=#[]
 led:bt=false->t.led=true
theorem wJ(bt:Bool)(f m:Nat):Gd bt (.fresh f m (!bt)):=⟨.nil,rfl,fun e=>by rw[e];rfl⟩
theorem gI{bt:Bool}{t:Lg}(h:Gd bt t)(n:Nat):Gd bt (t.standIn n):=⟨by
 show Up (Array.range n).toList
 rw[Array.toList_range]
 exact HZ,rfl,h.led⟩
theorem Ed{bt:Bool}{t:Lg}(h:Gd bt t)(n:Nat):Gd bt (t.orStandIn n):=by
 unfold Sh
 split
 ·exact h
 exact gI h n
theorem yO(j:Nat):Rx #[] j=false:=rfl
theorem rG{bt:Bool}{t:Lg}(h:Gd bt t){j:Nat}(e:t.slot j=.empty):t.place[KU t.place j]?≠some j:=fun z=>by
 unfold QK at e
 dsimp only at e
 rw[z,if_pos (beq_self_eq_true _)]at e
 cases e
theorem jd{t:Lg}(hd:t.dummies=#[]){H:Nat->Int}{h:Int}:∀(f:Nat) (p:SJ) (j:Nat) (d:Option Nat),p.dummy=none->O7 t H h f p=some (.empty j d)->t.slot j=.empty/\d=none
 | 0,p,j,d,_,e=>by cases e
 | f + 1,p,j,d,hp,e=>by
  unfold O7 at e
  split at e
  ·rename_i z
   cases e
   exact⟨z,hp⟩
  ·rename_i z
   unfold QK at z
   dsimp only at z
   rw[hd,yO]at z
   split at z <;> first | cases z | (rename_i q;split at z <;> cases z)
  have ad:(t.advance p).dummy=none:=by unfold Sw;split <;> exact hp
  split at e
  ·cases e
  exact jd hd f _ j d ad e
theorem BH{bt:Bool}{t:Lg}(h:Gd bt t){j:Nat}(e:t.slot j=.empty):Gd bt (t.put j).1:=by
 refine⟨tR h.up (rG h e),?_,h.led⟩
 show(if Rx t.dummies j then _ else t.dummies)=#[]
 rw[h.no]
 rfl
theorem By{bt:Bool}{t:Lg}(h:Gd bt t)(es:Array (Int × Kj))(k:Int)(x:Kj):Gd bt (layNew t es k x).2.1:=by
 unfold layNew
 split
 ·rename_i slot wd e
  have hs:t.slot slot=.empty:=by
   unfold Sm at e
   split at e
   ·rename_i j d q
    cases e
    obtain⟨a,b⟩:=jd h.no _ _ _ _ rfl q
    rw[b]
    exact a
   cases e
  exact Ed (BH h hs) _
 exact gI h _
theorem xH{bt:Bool}{t:Lg}(h:Gd bt t)(es:Array (Int × Kj))(n:Nat):Gd bt (NP t es n).2.1:=by
 unfold NP
 split
 ·rename_i t' order e
  dsimp only
  split
  ·unfold SE SM at e
   cases q:Sn (OW n - 1) (es.map fun x=>x.1)with
   | none=>rw[q]at e;cases e
   | some ow=>
    rw[q]at e
    cases e
    refine⟨?_,rfl,h.led⟩
    show List.Pairwise (fun x y=>x < y) (G1 (fun x=>x.1) (List.filterMap (fun j=>(ow.getD j none).map fun y=>(j,y)) (m_ (OW n - 1 + 1))))
    rw[HX,List.pairwise_filterMap]
    refine List.Pairwise.imp (fun{a b} hab c hc d hd=>?_) HZ
    obtain⟨_,_,ec⟩:=HY.mp hc
    obtain⟨_,_,ed⟩:=HY.mp hd
    rw[<-ec,<-ed]
    exact hab
  exact gI h _
 exact gI h _
open PySem PyProof.Rows
section
variable{prog:Kz}{w:KD}{A:KN}{E:Kj->Km->Prop}{s:Km}
abbrev bt(w:KD):Bool:=w.params.followText "set-order"
structure SI (prog:Kz) (w:KD) (o:Obj) (ks:List Int) (es:Array (Int × Kj)) (ep:Nat) (t:Lg):Prop where
 ex:o.ExactSet
 dat:o.data=.set es ep t
 el:ElemsOf (Mk prog w) es.toList
 rd:IntsAre (es.toList.map (·.2)) ks
 nd:ks.Nodup
 sm:es.size < scanBound
 ft:t.fits es.size=true
 gd:Gd (bt w) t
noncomputable def SG(prog:Kz)(w:KD)(h:KH)(a:Kl)(S:Int->Prop)(n:Nat):Prop:=∃ o ks es ep t,h.get? a=some o/\SI prog w o ks es ep t/\(∀ z,z∈ks↔S z)/\ks.length<=n
theorem fY:∀ {vs:List Kj} {ns:List Int},IntsAre vs ns->vs.length=ns.length
 | _,_,.nil=>rfl
 | _,_,.cons n t h=>by rw[k_,k_,fY h]
theorem BX{k i:Int}{t:Tok}:(Mk prog w).is k (.int i t)=decide (k=i):=KeyKind.is_eq_decide (Ox prog w i t) k
theorem jX:∀ {es:List (Int × Kj)} {ks:List Int},IntsAre (es.map (·.2)) ks->∀ k,k∈ks↔∃ e∈es,(Mk prog w).is k e.2=true
 | [],_,.nil,k=>⟨fun h=>(nomatch h),fun⟨e,h,_⟩=>(nomatch h)⟩
 | (h0,_)::es,_,.cons n t h,k=>by
  rw[t_,jX h k]
  constructor
  ·rintro(rfl | ⟨e,m,q⟩)
   ·exact⟨_,.head _,Ox _ _ _ _⟩
   exact⟨e,.tail _ m,q⟩
  rintro⟨e,m,q⟩
  rcases t_.mp m with rfl | m
  ·exact .inl (of_decide_eq_true (by rw[<-BX (prog:=prog) (w:=w) (t:=t)];exact q))
  exact .inr ⟨e,m,q⟩
theorem eD:∀ {us vs:List Kj},us.Perm vs->∀ {ns:List Int},IntsAre us ns->∃ ms,IntsAre vs ms/\ns.Perm ms:=by
 intro us vs p
 induction p with
 | nil=>exact fun h=>⟨_,h,.refl _⟩
 | cons x p ih=>
  intro ns h
  cases h with
  | cons n t h=>
   obtain⟨ms,a,b⟩:=ih h
   exact⟨n::ms,.cons n t a,.cons n b⟩
 | swap x y l=>
  intro ns h
  cases h with
  | cons n t h=>
   cases h with
   | cons m u h=>exact⟨_,.cons m u (.cons n t h),.swap _ _ _⟩
 | trans p q ih jh=>
  intro ns h
  obtain⟨ms,a,b⟩:=ih h
  obtain⟨ls,c,d⟩:=jh a
  exact⟨ls,c,b.trans d⟩
theorem uB{vs:List Kj}{ns:List Int}{n:Int}{t:Tok}(h:IntsAre vs ns):IntsAre (vs++[.int n t]) (ns++[n]):=by
 induction h with
 | nil=>exact .cons n t .nil
 | cons m u h ih=>exact .cons m u ih
theorem stored{h:KH}{a:Kl}{o:Obj}{es:Array (Int × Kj)}{ep:Nat}{t:Lg}{es':Array (Int × Kj)}{t':Lg}(ho:h.get? a=some o)(hd:o.data=.set es ep t) :
  (h.update a (P9 es' t')).get? a=some { o with data:=.set es' (ep + 1) t' }:=by
 have e:=K6 (P9 es' t') ho (by rw[putSet_of es' t' hd];rfl)
 rw[putSet_of es' t' hd]at e
 exact e
theorem pB{g:Bool->Sem Unit}(hg:∀(b:Bool) (s₁:Km) (Q':Unit->Km->Prop),Q' () s₁->Kr (Kw prog w) A (g b) Q' E s₁)
  {a:Kl} {o:Obj} {es es1:Array (Int × Kj)} {ep:Nat} {t t2:Lg} {ks:List Int} (ho:s.heap.get? a=some o) (hd:o.data=.set es ep t)
  (hI:SI prog w { o with data:=.set es1 (ep + 1) t2 } ks es1 (ep + 1) t2) {wd:Bool} {R:Option Bool->Km->Prop}
  (h:∀ h' o' es' ep' t' ks',Lj a s.heap h'->h'.get? a=some o'->SI prog w o' ks' es' ep' t'->ks'.Perm ks->R (some true) { s with heap:=h' }) :
  Kr (Kw prog w) A (storeSet a es1 t2 >>= fun _=>if(!wd && t2.tooFull)=true then g (NP t2 es1 (Ma es1.size)).2.2 >>= fun _=>storeSet a (NP t2 es1 (Ma es1.size)).1 (NP t2 es1 (Ma es1.size)).2.1 >>= fun _=>pure (some true)else pure (some true)) R E s:=by
 refine Ki (O8 ho hd ?_ (Mt hI.sm))
 have e1:=stored (es':=es1) (t':=t2) ho hd
 have b1:=Le s.heap a (P9 es1 t2)
 split
 ·have hp:=relayAll_perm t2 es1 (Ma es1.size)
  have hf:=relayAll_fits t2 es1 (Ma es1.size)
  have hG:=xH hI.gd es1 (Ma es1.size)
  generalize NP t2 es1 (Ma es1.size)=Rl at hp hf hG ⊢
  obtain⟨es2,t3,gave⟩:=Rl
  dsimp only at hp hf hG ⊢
  have sz:es2.size=es1.size:=by rw[<-f_,hp.length_eq,f_]
  have sm2:es2.size < scanBound:=by rw[sz];exact hI.sm
  obtain⟨ks2,rd2,kp⟩:=eD (hp.symm.map (·.2)) hI.rd
  refine Ki (hg _ _ _ (Ki (O8 e1 rfl ?_ (Mt sm2))))
  have e2:=stored (es':=es2) (t':=t3) e1 rfl
  exact Ko (h _ _ es2 _ t3 ks2 (b1.trans (Le _ a _)) e2 ⟨hI.ex,rfl,hI.el.perm hp,rd2,kp.nodup_iff.mp hI.nd,sm2,hf,hG⟩ kp.symm)
 exact Ko (h _ _ es1 _ t2 ks b1 e1 hI (.refl _))
theorem add_int{a:Kl}{S:Int->Prop}{m:Nat}{n:Int}{tk:Tok}{Q:Bool->Km->Prop}(hS:SG prog w s.heap a S m)(hm:m + 1 < scanBound)
  (h:∀ b h',Lj a s.heap h'->SG prog w h' a (fun z=>S z\/z=n) (m + 1)->Q b { s with heap:=h' }) :
  Kr (Kw prog w) A (Ry a (.int n tk) ((Mk prog w).hash n)) Q E s:=by
 obtain⟨o,ks,es,ep,t,ho,I,mem,kl⟩:=hS
 have kn:es.size=ks.length:=by rw[<-fY I.rd,a_,f_]
 have hk:=Ox prog w n tk
 unfold Ry setAddHashedIn
 refine KY (Ki (L8 ho I.dat I.ft ?_))
 dsimp only
 rw[byScan_of rfl I.sm I.el,if_pos rfl]
 unfold setAddByScan
 refine Ki (Ki (LW (Ki (wpAny_setScan_of hk ho I.dat I.ft I.el ?_))))
 cases hr:List.findIdx? (fun e=>(Mk prog w).is n e.2) es.toList with
 | some j=>
  dsimp only
  obtain⟨hj,pj,_⟩:=List.findIdx?_eq_some_iff_getElem.mp hr
  have hn:n∈ks:=(jX (prog:=prog) (w:=w) I.rd n).mpr ⟨_,Hk hj,pj⟩
  refine Ko (Ko ?_)
  exact h _ s.heap (So a s.heap) ⟨o,ks,es,ep,t,ho,I,fun z=>by rw[mem z];exact⟨.inl,fun q=>q.elim id fun e=>by rw[e];exact(mem n).mp hn⟩,by omega⟩
 | none=>
  dsimp only
  have hn:n ∉ ks:=fun z=>by
   obtain⟨e,me,q⟩:=(jX (prog:=prog) (w:=w) I.rd n).mp z
   have:=List.findIdx?_eq_none_iff.mp hr e me
   rw[q]at this
   cases this
  have pm:=layNew_perm t es ((Mk prog w).hash n) (.int n tk)
  have ft:=layNew_fits t es ((Mk prog w).hash n) (.int n tk)
  have gd:=By I.gd es ((Mk prog w).hash n) (.int n tk)
  generalize layNew t es ((Mk prog w).hash n) (.int n tk)=L at pm ft gd ⊢
  obtain⟨es1,t1,wd,gave⟩:=L
  dsimp only at pm ft gd ⊢
  rw[Gx]at pm
  have s1:es1.size=es.size + 1:=by rw[<-f_,pm.length_eq,h_,f_];rfl
  have el1:ElemsOf (Mk prog w) es1.toList:=(I.el.push hk rfl).perm pm
  have rdp:IntsAre (G1 (·.2) (es.toList++[((Mk prog w).hash n,Mm n tk)])) (ks++[n]):=by rw[v_];exact uB I.rd
  obtain⟨ks1,rd1,kp⟩:=eD (pm.symm.map (·.2)) rdp
  have nd1:ks1.Nodup:=kp.nodup_iff.mp (Gz.mpr ⟨I.nd,D_.mpr ⟨(nomatch ·),GZ⟩,fun x hx y hy e=>by rw[A_.mp hy]at e;exact hn (e ▸ hx)⟩)
  have fin:∀ h' o' es' ep' t' ks',Lj a s.heap h'->h'.get? a=some o'->SI prog w o' ks' es' ep' t'->ks'.Perm ks1->Q true { s with heap:=h' }:=fun h' o' es' ep' t' ks' b g I' p=>by
   refine h _ h' b ⟨o',ks',es',ep',t',g,I',fun z=>?_,?_⟩
   ·rw[p.mem_iff,<-kp.mem_iff,FF,mem z,A_]
   rw[p.length_eq,<-kp.length_eq,h_]
   exact H_ kl
  have gw:∀(b:Bool) (s₁:Km) (Q':Unit->Km->Prop),Q' () s₁->Kr (Kw prog w) A (match b with | true=>rule "set.scan.the-table-gave-way" | false=>pure ()) Q' E s₁:=fun b s₁ Q' q=>by cases b <;> first | exact Ko q | exact LW q
  refine Ki (?_:Kr _ _ (match gave with | true=>_ | false=>_) _ _ _)
  have sm1:es1.size < scanBound:=by omega
  refine gw gave s _ ?_
  split
  ·refine Ki ?_
   rw[hashByValue_scannable 8 (x:=.int n tk) rfl]
   refine Ko ?_
   refine pB (ks:=ks1) gw ho I.dat ⟨I.ex,rfl,el1,rd1,nd1,sm1,?_,?_⟩ fun h' o' es' ep' t' ks' b g I' p=>Ko (fin h' o' es' ep' t' ks' b g I' p)
   ·exact ft
   exact gd
  refine Ki (Ko ?_)
  rw[if_pos rfl]
  exact pB (ks:=ks1) gw ho I.dat ⟨I.ex,rfl,el1,rd1,nd1,sm1,ft,gd⟩ fun h' o' es' ep' t' ks' b g I' p=>Ko (fin h' o' es' ep' t' ks' b g I' p)
end
open PySem PyProof.Rows
theorem yz:Pu RY "set.__iter__"=some LC.«frozenset.__iter__»:=Qn (id':="frozenset.__iter__") (by kernel_rfl) rfl (by decide +kernel) (by kernel_rfl)
theorem cw:Qg "set_iterator" "__next__" "set_iterator.__next__":=
 .of (owner:="set_iterator") (n:="__next__") (by rw[P_,Og];kernel_rfl) (by decide +kernel) (by decide +kernel) (by decide +kernel) (by first | exact .inl (by decide +kernel) | exact .inr (by decide +kernel)) (by rw[Ni];kernel_rfl)
theorem sJ:Qg "set_iterator" "__iter__" "set_iterator.__iter__":=
 .of (owner:="set_iterator") (n:="__iter__") (by rw[P_,Og];kernel_rfl) (by decide +kernel) (by decide +kernel) (by decide +kernel) (by first | exact .inl (by decide +kernel) | exact .inr (by decide +kernel)) (by rw[Ni];kernel_rfl)
theorem yM:Pu RY "set_iterator.__iter__"=some LC.«dict_keyiterator.__iter__»:=Qn (id':="dict_keyiterator.__iter__") (by kernel_rfl) rfl (by decide +kernel) (by kernel_rfl)
theorem sW:Pu RY "set_iterator.__next__"=some LC.«set_iterator.__next__»:=entryFor_of_tree (by kernel_rfl)
theorem AN:SF.lookup (String.ofList ['r','o','t','a','r','e','t','i','_','t','e','s'].reverse)=some Q1:=by kernel_rfl
theorem sg(a:Kj):NQ "set_iterator.__next__" ⟨[a],[]⟩:=by
 unfold NQ;rw[QL (id:="set_iterator.__next__") (n:=['_','_','t','x','e','n','_','_']) (o:=['r','o','t','a','r','e','t','i','_','t','e','s']) (by kernel_rfl) AN];kernel_rfl
theorem zH(a:Kj):NQ "set_iterator.__iter__" ⟨[a],[]⟩:=by
 unfold NQ;rw[QL (id:="set_iterator.__iter__") (n:=['_','_','r','e','t','i','_','_']) (o:=['r','o','t','a','r','e','t','i','_','t','e','s']) (by kernel_rfl) AN];kernel_rfl
theorem nP{α:Type}:∀ {l:List α} {i:Nat} (h:i < l.length),(l[i]::l.eraseIdx i).Perm l
 | x::l,0,_=>.refl _
 | x::l,i + 1,h=>by
  have g:i < l.length:=Nat.lt_of_succ_lt_succ h
  show(l[i]::x::l.eraseIdx i).Perm (x::l)
  exact(Iy ..).trans (.cons x (nP g))
theorem lU{α:Type}{next:Nat->Nat}:∀(f k:Nat) (l:List α) (out:Array α),l.length=f->(RA next f k l out).toList.Perm (out.toList++l)
 | 0,k,l,out,h=>by
  rw[FH h,FX]
  exact .refl _
 | f + 1,k,l,out,h=>by
  unfold RA
  have lt:next k % l.length < l.length:=Kh _ (by omega)
  rw[b_ lt]
  refine(lU f _ _ _ (by rw[IJ lt];omega)).trans ?_
  rw[Gx,i_]
  refine FQ _ ?_
  exact nP lt
section
variable{prog:Kz}{w:KD}{A:KN}{E:Kj->Km->Prop}{s:Km}
theorem wp_choose{src:Source}{n:Nat}{Q:Nat->Km->Prop}(hn:n≠0)(h:∀ i d,i < n->Q i { s with drawn:=d }):Kr (Kw prog w) A (choose src n) Q E s:=
 fun _ _ _=>⟨hn,h _ _ (Kh _ (GL hn))⟩
theorem sQ{α:Type}:∀(n:Nat) (xs:List α) {s:Km} {Q:List α->Km->Prop},xs.length=n->(∀ ys d,ys.Perm xs->Q ys { s with drawn:=d })->Kr (Kw prog w) A (drawOrder n xs) Q E s
 | 0,xs,s,Q,hl,h=>by
  rw[FH hl]at h ⊢
  exact Ko (h [] s.drawn (.refl _))
 | n + 1,[],s,Q,hl,h=>by cases hl
 | n + 1,x::xs,s,Q,hl,h=>by
  unfold drawOrder
  refine Ki (wp_choose (by simp) fun i d hi=>?_)
  rw[b_ hi]
  dsimp only
  refine Ki (sQ n _ (by rw[IJ hi,hl];rfl) fun ys d' p=>Ko (h _ d' ?_))
  exact(Iz _ p).trans (nP hi)
noncomputable def Itr(h:KH)(it:Kl)(first:Kj)(i:Nat)(a:Kl)(n ep:Nat):Prop:=∃ o,h.get? it=some o/\o.cls=.type "set_iterator"/\o.data=.fields #[first,.int i 0,.ref a,.int n 0,.int ep 0]
theorem Itr.ty {it a:Kl}{f:Kj}{i n ep:Nat}(x:Itr s.heap it f i a n ep):s.TypeIs (.ref it) "set_iterator":=let ⟨o,ho,hc,_⟩:=x;⟨o,ho,hc⟩
theorem Itr.at {h h':KH}{it a:Kl}{f:Kj}{i n ep:Nat}(x:Itr h it f i a n ep)(e:∀ o,h.get? it=some o->h'.get? it=some o):Itr h' it f i a n ep:=let ⟨o,ho,r⟩:=x;⟨o,e _ ho,r⟩
theorem tJ{it a:Kl}{f:Kj}{i n ep:Nat}{Q:Kj->Km->Prop}(x:Itr s.heap it f i a n ep)(h:Q (.ref it) s):Kr (Kw prog w) A (M' (.ref it)) Q E s:=by
 refine O9 x.ty sJ (Lq sJ x.ty yM ?_ (zH _))
 show Kr _ _ (ret (.ref it)) _ _ s
 exact Ko ⟨_,rfl,"set_iterator",_,x.ty,cw.lookup,h⟩
noncomputable def Nx(prog:Kz)(w:KD)(a:Kl)(o:Obj)(ep:Nat)(vs:List Kj)(sl:Nat->Nat):Prop:=∀(A:KN) (E:Kj->Km->Prop) (s:Km) (i:Nat) (Q:Option (Kj × Nat)->Km->Prop),s.heap.get? a=some o->i<=vs.length->Q (vs[i]?.map fun v=>(v,sl (i + 1))) s->Kr (Kw prog w) A (Qo a (sl i) i ep) Q E s
theorem sI{it a:Kl}{o:Obj}{es:Array (Int × Kj)}{ep:Nat}{t:Lg}{i:Nat}{sl:Nat->Nat}{Q:Option Kj->Km->Prop}(x:Itr s.heap it (.int (sl i) 0) i a es.size ep)(ho:s.heap.get? a=some o)(hd:o.data=.set es ep t)(hf:t.fits es.size=true){vs:List Kj}(N:Nx prog w a o ep vs sl)(hi:i<=vs.length)(hh:A.handled=none)
  (h1:∀ v h',vs[i]?=some v->Itr h' it (.int (sl (i + 1)) 0) (i + 1) a es.size ep->Lj it s.heap h'->Q (some v) { s with heap:=h' }) (h2:∀ h',vs[i]?=none->M1 it s.heap h'->Q none { s with heap:=h' }):Kr (Kw prog w) A (L7 (.ref it)) Q E s:=by
 obtain⟨oi,hoi,hc,hdi⟩:=id x
 unfold L7
 refine Ki (Ml (Ln (name:=Ls "__next__") x.ty cw (Lq cw x.ty sW ?_ (sg _))))
 unfold LC.«set_iterator.__next__»
 refine Ki (Ko (Ki (Qp hoi hdi ?_)))
 show Kr _ _ (setEntries a >>= _) _ _ s
 refine Ki (Nf ho hd hf ?_)
 rw[if_neg (show ¬ _ by simp)]
 show Kr _ _ (Qo a _ _ _ >>= _) _ _ s
 refine Ki ?_
 rw[E_,E_,E_]
 refine N _ _ _ i _ ho hi ?_
 cases e:vs[i]? with
 | some v=>
  dsimp only[G8]
  refine Ki (LU hoi hdi (by simp) ?_)
  have e1:=K6 (Nw (·.setIfInBounds 0 (Lr (sl (i + 1))))) hoi (L5 (K_ hdi _))
  refine Ki (LU e1 (K_ hdi _) (by simp) ?_)
  have e2:=K6 (Nw (·.setIfInBounds 1 (Lr ((i:Int) + 1)))) e1 (L5 (K_ (K_ hdi _) _))
  refine Ko ⟨_,rfl,Ko (h1 v _ e ⟨_,e2,((MX ..).trans (MX ..)).trans hc,?_⟩ ((Le ..).trans (Le ..)))⟩
  rw[K_ (K_ hdi _)]
  simp[Lr]
 | none=>
  dsimp only[G8]
  refine Ki (LU hoi hdi (by simp) (show Kr _ _ (OU (.type "StopIteration") [] >>= _) _ _ _ from Ki ?_))
  simp only[OU,Rn]
  refine Ki (K7 (Ki (m:=Mu _ _) (Mq (a:=K') (by first | rfl | (simp only[Mu];rfl)) (K7 ?_ (by size_fits)))) (by size_fits))
  simp only[Ro]
  refine Ki (OC ?_)
  rw[show A.in1.handled=none from hh]
  refine Ki (Ko (Pg ?_))
  refine Ki (Mx (T:="StopIteration") (b:=true) (by exact⟨_,Kt _ rfl,rfl⟩) Oe (Ko ?_))
  exact h2 _ e (((Le ..).extBut.push _).push _)
theorem xf{it a:Kl}(hne:a≠it){o:Obj}{es:Array (Int × Kj)}{ep:Nat}{t:Lg}{sl:Nat->Nat}(hd:o.data=.set es ep t)(hf:t.fits es.size=true){vs:List Kj}(N:Nx prog w a o ep vs sl)(hh:A.handled=none) :
  P' prog w A it [it,a] [it] vs.length (fun i v=>vs[i]?=some v) (fun i h=>i<=vs.length/\Itr h it (.int (sl i) 0) i a es.size ep/\h.get? a=some o) where
 sub:=fun b hb=>by simp at hb;simp[hb]
 frame:=fun _ _ _ st hk=>⟨st.1,st.2.1.at fun o e=>hk it (by simp) o e,hk a (by simp) o st.2.2⟩
 item:=fun i s Q E hi st hQ=>sI st.2.1 st.2.2 hd hf N st.1 hh (fun v h' e x sb=>hQ v h' s.toks e ⟨hi,x,sb.extBut a o hne st.2.2⟩ fun b o hb e=>sb.extBut b o (fun z=>hb (by simp[z])) e) fun h' e=>by rw[b_ hi]at e;cases e
 done:=fun s Q E st hQ=>sI st.2.1 st.2.2 hd hf N st.1 hh (fun v h' e=>by rw[Ih (e_ _)]at e;cases e) fun h' _ eb=>hQ h' s.toks fun b o hb e=>eb b o (fun z=>hb (by simp[z])) e
 self:=fun _ _ _ _ st hQ=>tJ st.2.1 hQ
end
open PySem PyProof.Rows
section
variable{prog:Kz}{w:KD}{A:KN}{E:Kj->Km->Prop}{s:Km}
theorem wp_text{Q:Bool->Km->Prop}(h:Q (bt w) s):Kr (Kw prog w) A setsByText Q E s:=Ki (NR (Ko h))
theorem vm{es:Array (Int × Kj)}{i:Nat}:(es.toList.map (·.2))[i]?=es[i]?.map (·.2):=by rw[A',fk]
theorem zr{a:Kl}{o:Obj}{ks:List Int}{es:Array (Int × Kj)}{ep:Nat}{t:Lg}(I:SI prog w o ks es ep t)(hb:bt w=true) :
  Nx prog w a o ep ((pickOrder (w.params.setOrder a ep) es).toList.map (·.2)) (fun _=>0):=by
 intro A E s i Q ho hi h
 unfold Qo
 refine Ki (L8 ho I.dat I.ft (Ki (wp_text ?_)))
 rw[hb,if_pos rfl]
 dsimp only
 rw[if_neg (by simp)]
 refine Ki ?_
 unfold setWalk
 refine Ki (L8 ho I.dat I.ft (Ki (wp_text ?_)))
 rw[hb,if_pos rfl]
 refine Ki (NR (Ko (Ko ?_)))
 rw[vm,Option.map_map]at h
 exact h
def slP(t:Lg):Nat->Nat
 | 0=>0
 | i + 1=>t.place.getD i 0 + 1
theorem xy{a:Kl}{o:Obj}{ks:List Int}{es:Array (Int × Kj)}{ep:Nat}{t:Lg}(I:SI prog w o ks es ep t)(hb:bt w=false)(hdr:(!t.plain && decide (es.size > 1))=false) :
  Nx prog w a o ep (es.toList.map (·.2)) (slP t):=by
 intro A E s i Q ho hi h
 have hz:t.place.size=es.size:=by have:=I.ft;unfold SN at this;simp at this;exact this.1
 unfold Qo
 refine Ki (L8 ho I.dat I.ft (Ki (wp_text ?_)))
 rw[hb,if_neg (by simp)]
 dsimp only
 refine LH (fun z=>absurd (show(!t.plain && decide (es.size > 1))=true from z) (by rw[hdr];simp)) fun _=>Ki ?_
 show Kr _ _ (if(!t.led && !es.isEmpty)=true then _ else _) _ _ _
 rw[I.gd.led hb,if_neg (by simp)]
 refine Ko ?_
 have eb:KU t.place (slP t i)=i:=by
  match i,hi with
  | 0,_=>exact zA I.gd.up
  | i + 1,hi=>
   have hi:i < t.place.size:=by rw[a_,f_]at hi;omega
   have e:t.place[i]?=some (t.place.getD i 0):=by rw[gV hi,GK,gV hi];rfl
   exact below_at I.gd.up e
 rw[eb]
 refine Ko ?_
 rw[vm]at h
 by_cases c:i < es.size
 ·rw[gV c,gV (show i < t.place.size by omega)]
  rw[gV c]at h
  have e:slP t (i + 1)=t.place[i] + 1:=by show t.place.getD i 0 + 1=_;rw[GK,gV (by omega)];rfl
  dsimp only[G8]at h
  rw[e]at h
  exact h
 rw[Ha (by omega)]
 rw[Ha (by omega)]at h
 exact h
theorem sL{it a tp:Kl}{o ot:Obj}{es:Array (Int × Kj)}{ep:Nat}{t:Lg}{i:Nat}{ps:List Nat}{c:Nat}{Q:Option Kj->Km->Prop}(x:Itr s.heap it (.ref tp) i a es.size ep)(ho:s.heap.get? a=some o)(hd:o.data=.set es ep t)(hf:t.fits es.size=true)(hot:s.heap.get? tp=some ot)(hdt:ot.data=.seq (ps.map fun(j:Nat)=>Lr j).toArray c)(hps:∀ p∈ps,p < es.size)(hh:A.handled=none)
  (h1:∀ p v h',ps[i]?=some p->(es[p]?.map (·.2))=some v->Itr h' it (.ref tp) (i + 1) a es.size ep->Lj it s.heap h'->Q (some v) { s with heap:=h' }) (h2:∀ h',ps[i]?=none->M1 it s.heap h'->Q none { s with heap:=h' }):Kr (Kw prog w) A (L7 (.ref it)) Q E s:=by
 obtain⟨oi,hoi,hc,hdi⟩:=id x
 unfold L7
 refine Ki (Ml (Ln (name:=Ls "__next__") x.ty cw (Lq cw x.ty sW ?_ (sg _))))
 unfold LC.«set_iterator.__next__»
 refine Ki (Ko (Ki (Qp hoi hdi ?_)))
 show Kr _ _ (setEntries a >>= _) _ _ s
 refine Ki (Nf ho hd hf ?_)
 rw[if_neg (show ¬ _ by simp)]
 show Kr _ _ (MI (.ref tp) >>= _) _ _ s
 unfold MI
 refine Ki (Ki (PJ hot ?_))
 rw[hdt]
 refine Ko ?_
 dsimp only
 rw[E_,E_]
 have ea:((ps.map fun(j:Nat)=>Lr j).toArray)[i]?=ps[i]?.map fun(j:Nat)=>Lr j:=by rw[GQ,A']
 rw[ea]
 cases e:ps[i]? with
 | some p=>
  have hp:=hps p (C_ e)
  dsimp only[G8,Lr]
  unfold setNextDrawn
  refine Ki (Ki (L8 ho hd hf ?_))
  dsimp only
  rw[if_neg (by simp),E_,gV hp]
  refine Ko (Ki (LU hoi hdi (by simp) ?_))
  have e1:=K6 (Nw (·.setIfInBounds 1 (Lr ((i:Int) + 1)))) hoi (L5 (K_ hdi _))
  refine Ko ⟨_,rfl,Ko (h1 p _ _ e (by rw[gV hp];rfl) ⟨_,e1,(MX ..).trans hc,?_⟩ (Le ..))⟩
  rw[K_ hdi _]
  simp[Lr]
 | none=>
  dsimp only[G8]
  refine Ki (LU hoi hdi (by simp) ?_)
  have e1:=K6 (Nw (·.setIfInBounds 0 (Lr 0))) hoi (L5 (K_ hdi _))
  refine Ki (LU e1 (K_ hdi _) (by simp) (show Kr _ _ (OU (.type "StopIteration") [] >>= _) _ _ _ from Ki ?_))
  simp only[OU,Rn]
  refine Ki (K7 (Ki (m:=Mu _ _) (Mq (a:=K') (by first | rfl | (simp only[Mu];rfl)) (K7 ?_ (by size_fits)))) (by size_fits))
  simp only[Ro]
  refine Ki (OC ?_)
  rw[show A.in1.handled=none from hh]
  refine Ki (Ko (Pg ?_))
  refine Ki (Mx (T:="StopIteration") (b:=true) (by exact⟨_,Kt _ rfl,rfl⟩) Oe (Ko ?_))
  exact h2 _ e ((((Le ..).trans (Le ..)).extBut.push _).push _)
theorem xS{it a tp:Kl}(hne:a≠it)(hnt:tp≠it){o ot:Obj}{es:Array (Int × Kj)}{ep:Nat}{t:Lg}{ps:List Nat}{c:Nat}(hd:o.data=.set es ep t)(hf:t.fits es.size=true)(hdt:ot.data=.seq (ps.map fun(j:Nat)=>Lr j).toArray c)(hps:∀ p∈ps,p < es.size)(hh:A.handled=none) :
  P' prog w A it [it,a,tp] [it] ps.length (fun i v=>∃ p,ps[i]?=some p/\es[p]?.map (·.2)=some v) (fun i h=>Itr h it (.ref tp) i a es.size ep/\h.get? a=some o/\h.get? tp=some ot) where
 sub:=fun b hb=>by simp at hb;simp[hb]
 frame:=fun _ _ _ st hk=>⟨st.1.at fun o e=>hk it (by simp) o e,hk a (by simp) o st.2.1,hk tp (by simp) ot st.2.2⟩
 item:=fun i s Q E hi st hQ=>sL st.1 st.2.1 hd hf st.2.2 hdt hps hh (fun p v h' e1 e2 x sb=>hQ v h' s.toks ⟨p,e1,e2⟩ ⟨x,sb.extBut a o hne st.2.1,sb.extBut tp ot hnt st.2.2⟩ fun b o hb e=>sb.extBut b o (fun z=>hb (by simp[z])) e) fun h' e=>by rw[b_ hi]at e;cases e
 done:=fun s Q E st hQ=>sL st.1 st.2.1 hd hf st.2.2 hdt hps hh (fun p v h' e=>by rw[Ih (e_ _)]at e;cases e) fun h' _ eb=>hQ h' s.toks fun b o hb e=>eb b o (fun z=>hb (by simp[z])) e
 self:=fun _ _ _ _ st hQ=>tJ st.1 hQ
end
open PySem PyProof.Rows
section
variable{prog:Kz}{w:KD}{A:KN}{E:Kj->Km->Prop}{s:Km}
theorem xg{vs:List Kj}{acc:Array Kj}(h:Qm (fun i v=>vs[i]?=some v) acc vs.length):acc.toList=vs:=by
 refine List.ext_getElem? fun j=>?_
 rw[fk]
 by_cases hj:j < vs.length
 ·have hja:j < acc.size:=by rw[h.1];exact hj
  have e:=gV hja
  rw[e]
  exact(h.2 j _ e).symm
 rw[Ha (by rw[h.1];omega),Ih (by omega)]
theorem vN{es:Array (Int × Kj)}{ps:List Nat}(hp:ps.Perm (m_ es.size)){acc:Array Kj}(h:Qm (fun i v=>∃ p,ps[i]?=some p/\es[p]?.map (·.2)=some v) acc ps.length):acc.toList.Perm (es.toList.map (·.2)):=by
 have e:acc.toList=ps.filterMap fun p=>es[p]?.map fun(x:Int × Kj)=>x.2:=by
  have g:∀(qs:List Nat) (vs:List Kj),vs.length=qs.length->(∀(j:Nat) v,vs[j]?=some v->∃ p:Nat,qs[j]?=some p/\es[p]?.map (fun(x:Int × Kj)=>x.2)=some v)->vs=qs.filterMap fun p=>es[p]?.map fun(x:Int × Kj)=>x.2:=by
   intro qs
   induction qs with
   | nil=>exact fun vs l _=>FH l
   | cons q qs ih=>
    intro vs l k
    match vs,l,k with
    | v::vs,l,k=>
     obtain⟨p,e1,e2⟩:=k 0 v rfl
     cases e1
     rw[List.filterMap_cons_some (f:=fun p=>G8 (fun(x:Int × Kj)=>x.2) es[p]?) e2,<-ih vs (GJ l) fun j v e=>k (j + 1) v e]
  exact g ps acc.toList (by rw[f_];exact h.1) fun j v e=>h.2 j v (by rw[<-fk];exact e)
 rw[e]
 refine(hp.filterMap _).trans ?_
 have e2:(m_ es.size).filterMap (fun p=>es[p]?.map (·.2))=((m_ es.size).filterMap fun p=>es[p]?).map (·.2):=by rw[List.map_filterMap]
 rw[e2,filterMap_getElem?_range]
theorem wN{a:Kl}{o:Obj}{ks:List Int}{es:Array (Int × Kj)}{ep:Nat}{t:Lg}{Q:Kj->Km->Prop}(ho:s.heap.get? a=some o)(I:SI prog w o ks es ep t)(hh:A.handled=none)
  (h:∀(h1:KH) d (it:Kl) (fp:List Kl) (P:Nat->Kj->Prop) (St:Nat->KH->Prop),s.heap.objs.size<=it->it < h1.objs.size->(∀ b u,s.heap.get? b=some u->h1.get? b=some u)->(∀ b∈fp,b=a\/s.heap.objs.size<=b)->P' prog w A it fp [it] es.size P St->St 0 h1->(∀ acc,Qm P acc es.size->acc.toList.Perm (es.toList.map (·.2)))->Q (.ref it) { s with heap:=h1,drawn:=d }) :
  Kr (Kw prog w) A (M' (.ref a)) Q E s:=by
 have hT:s.TypeIs (.ref a) "set":=⟨o,ho,I.ex.1⟩
 have lt:=Ky ho
 have hz:es.size<=sizeLine:=Mt I.sm
 refine O9 hT Qa (Lq Qa hT yz ?_ (F.args_set_iter_1 _))
 unfold LC.«frozenset.__iter__»
 refine Ki ?_
 unfold RF
 refine Ki (Ko (Ko (Ki ?_)))
 unfold RB
 refine Ki (Nf ho I.dat I.ft (Ko (Ki ?_)))
 unfold setDrawn
 refine Ki (L8 ho I.dat I.ft (Ki (wp_text (Ko ?_))))
 have plain:∀(vs:List Kj) (sl:Nat->Nat),sl 0=0->vs.Perm (es.toList.map (·.2))->Nx prog w a o ep vs sl->Q (.ref s.heap.objs.size) { s with heap:=s.heap.push { cls:=.type "set_iterator",data:=.fields #[.int 0 0,.int 0 0,.ref a,.int es.size 0,.int ep 0] } }:=fun vs sl h0 pm N=>by
  have ln:vs.length=es.size:=by rw[pm.length_eq,a_,f_]
  have W:=xf (A:=A) (it:=s.heap.objs.size) (w_ lt) I.dat I.ft N hh
  rw[ln]at W
  refine h _ s.drawn _ _ _ _ (e_ _) (by rw[K0];exact Hq _) (fun b u e=>Kn _ e) (fun b hb=>?_) W ⟨B' _,⟨_,Kt _ rfl,rfl,?_⟩,Kn _ ho⟩ fun acc it=>?_
  ·rcases t_.mp hb with e | hb
   ·exact .inr (HK e.symm)
   exact .inl (A_.mp hb)
  ·rw[h0]
   rfl
  rw[<-ln]at it
  rw[xg it]
  exact pm
 cases hb:bt w with
 | true=>
  refine Ki ?_
  refine Ko ?_
  refine Ki (NA ho I.dat I.ft ?_)
  refine Ki (K7 ?_)
  refine Ko ⟨_,rfl,"set_iterator",_,⟨_,Kt _ rfl,rfl⟩,cw.lookup,?_⟩
  exact plain _ _ rfl ((lU _ _ _ _ (by rw[f_])).map _) (zr I hb)
 | false=>
  cases hdr:(!t.plain && decide (es.size > 1))with
  | false=>
   refine LH (fun z=>absurd (show(!false && (!t.plain && decide (es.size > 1)))=true from z) (by rw[hdr];simp)) fun _=>Ki (Ko ?_)
   refine Ki (NA ho I.dat I.ft ?_)
   refine Ki (K7 ?_)
   refine Ko ⟨_,rfl,"set_iterator",_,⟨_,Kt _ rfl,rfl⟩,cw.lookup,?_⟩
   exact plain _ _ rfl (.refl _) (xy I hb hdr)
  | true=>
   refine LH (fun _=>?_) fun z=>absurd (show(!false && (!t.plain && decide (es.size > 1)))=true by rw[hdr];rfl) z
   refine Ki (sQ _ _ (by rw[z_]) fun ys d pm=>?_)
   refine Ki (K7 ?_ ?_)
   refine Ki (NA (Kn _ ho) I.dat I.ft ?_)
   refine Ki (K7 ?_)
   refine Ko ⟨_,rfl,"set_iterator",_,⟨_,Kt _ rfl,rfl⟩,cw.lookup,?_⟩
   ·have yl:ys.length=es.size:=by rw[pm.length_eq,z_]
    have hz2:∀ x:Obj,(s.heap.push x).objs.size=s.heap.objs.size + 1:=fun x=>K0 ..
    have W:=xS (prog:=prog) (w:=w) (A:=A) (it:=s.heap.objs.size + 1) (a:=a) (tp:=s.heap.objs.size) (w_ (IP lt)) (w_ (Hq _)) (ot:={ cls:=.type "tuple",data:=.seq (ys.map fun(j:Nat)=>Lr j).toArray }) I.dat I.ft rfl (fun p hp=>Gg.mp (pm.mem_iff.mp hp)) hh
    rw[yl]at W
    have e2:∀ x y:Obj,y.isFreed=false->((s.heap.push x).push y).get? (s.heap.objs.size + 1)=some y:=fun x y q=>by rw[<-hz2 x];exact Kt _ q
    have r:=h ((s.heap.push { cls:=.type "tuple",data:=.seq (ys.map fun(j:Nat)=>Lr j).toArray }).push { cls:=.type "set_iterator",data:=.fields #[.ref s.heap.objs.size,.int 0 0,.ref a,.int es.size 0,.int ep 0] }) d (s.heap.objs.size + 1) _ _ _ (Hv _) (by rw[K0,K0];exact Hq _) (fun b u e=>Kn _ (Kn _ e)) (fun b hb=>?_) W ⟨⟨_,e2 _ _ rfl,rfl,rfl⟩,Kn _ (Kn _ ho),Kn _ (Kt _ rfl)⟩ fun acc it=>vN pm (by rw[yl];exact it)
    ·rw[<-hz2]at r
     exact r
    simp only[t_,IZ,or_false]at hb
    rcases hb with e | e | e
    ·exact .inr (by rw[e];exact Hv _)
    ·exact .inl e
    exact .inr (HK e.symm)
   show _<=_
   rw[l_,a_,pm.length_eq,z_]
   exact hz
end
open PySem PyProof.Rows
section
variable{prog:Kz}{w:KD}{A:KN}{E:Kj->Km->Prop}{s:Km}
theorem wX{a:Kl}{Q:Bool->Km->Prop}(hT:s.TypeIs (.ref a) "set")(h:Q false s):Kr (Kw prog w) A (Nn (.ref a)) Q E s:=by
 unfold Nn
 refine Ki (NX hT F.slot_set_len.lookup ?_)
 generalize hid:("set.__len__":String)=id0
 wp_delta
 rw[show splitId id0=some ("set","__len__")from by subst hid;decide +kernel]
 subst hid
 refine Ki (Mx (T:="set") (b:=true) hT (by rw[Ni];kernel_rfl) ?_)
 refine LH (fun z=>absurd z (by decide)) fun _=>LH (fun _=>Ki (RC hT (Ko h))) fun z=>absurd (by decide +kernel) z
theorem zO{R:OP->Km->Prop}{a:Kl}{o:Obj}{ks:List Int}{es:Array (Int × Kj)}{ep:Nat}{t:Lg}(ho:s.heap.get? a=some o)(I:SI prog w o ks es ep t)(hh:A.handled=none)(S:Kl)(hSa:S≠a)(res:Kj)(c₀:Nat)(hS:s.heap.get? S=some { cls:=.type "list",data:=.seq #[] c₀ })
  (hR:∀ h' tk d acc c,(∀ b u,b≠S->s.heap.get? b=some u->h'.get? b=some u)->h'.get? S=some { cls:=.type "list",dict:=none,data:=.seq acc c,slots:=#[] }->acc.toList.Perm (es.toList.map (·.2))->R (.ok (.ret res)) { s with heap:=h',drawn:=d,toks:=tk }) :
  Kr (Kw prog w) A.in1 (Np (.ref S) (.ref a) res) (fun fin s'=>match fin with | .done f=>R (.ok f) s' | .again c'=>c'.quiet=true/\LQ (Kw prog w) A c' R s') (fun e s'=>R (.error e) s') s:=by
 have hz:es.size<=sizeLine:=Mt I.sm
 have lS:=Ky hS
 unfold Np
 refine Ki (RC (T:="set") ⟨o,ho,I.ex.1⟩ ?_)
 have h1:NS (.ref S) (.ref a)=false:=by simp[NS,hSa]
 have h2:(Lo "set" == Lo "list")=false:=by decide
 have h3:(Lo "set" == Lo "tuple")=false:=by decide
 simp only[h1,h2,h3,J0,Ga,if_false]
 refine Ki (wN ho I hh fun h1 d it fp P St hit hlt kp hfp W st pm=>?_)
 have hSf:S ∉ fp:=fun z=>(hfp S z).elim hSa fun z=>I_ z lS
 have hSi:S≠it:=fun z=>by rw[z]at lS;exact I_ hit lS
 have key:∀(h:KH) (c₁:Nat) (tk:Nat),St 0 h->(∀ b u,b≠S->h1.get? b=some u->h.get? b=some u)->h.get? S=some { cls:=.type "list",data:=.seq #[] c₁ }->LQ (Kw prog w) A (.builtin "list.extend.loop" ⟨[.ref S,.ref it,res],[]⟩) R { s with heap:=h,drawn:=d,toks:=tk }:=by
  intro h c₁ tk hst hk hS₁
  refine codeAny_extend_loopS W.toS hz S hSf res es.size 0 _ #[] c₁ rfl (B' _) hst hS₁ (ItemsOf.nil _) fun s' acc' c' hm hS' hacc=>?_
  rw[Moved.eq_with hm]
  refine hR s'.heap s'.toks d acc' c' (fun b u hb e=>hm.heap b u (fun z=>?_) (hk b u hb (kp b u e))) hS' (pm _ hacc)
  rcases t_.mp z with z | z
  ·exact hb z
  have:=Ky e
  rw[A_.mp z]at this
  exact I_ hit this
 have hS₁:=kp _ _ hS
 refine Ki (KY (wX ⟨o,kp _ _ ho,I.ex.1⟩ ?_))
 refine LH (fun _=>?_) (fun _=>Ko ⟨Lu NF _,key _ c₀ _ st (fun b u _ e=>e) hS₁⟩)
 refine Ki (LW ?_)
 refine Ki ?_
 show Kr _ _ (OX S (·.push .none) >>= fun _=>OX S (·.pop)) _ _ _
 refine Ki (MD hS₁ rfl ?_)
 have hS₂:=K6 (LB (·.push K')) hS₁ rfl
 refine MD (hz:=by seq_fits) hS₂ rfl ?_
 have hS₃:=K6 (LB (·.pop)) hS₂ rfl
 refine Ko ⟨Lu NF _,key _ _ _ ?_ (fun b u hb e=>?_) hS₃⟩
 ·refine W.frame 0 _ _ st fun b hb u e=>?_
  have hbS:b≠S:=fun z=>hSf (z ▸ hb)
  exact(KS _ _ (LJ hbS)).trans ((KS _ _ (LJ hbS)).trans e)
 exact(KS _ _ (LJ hb)).trans ((KS _ _ (LJ hb)).trans e)
theorem oM{a:Kl}{o:Obj}{ks:List Int}{es:Array (Int × Kj)}{ep:Nat}{t:Lg}{Q:List Kj->Km->Prop}(ho:s.heap.get? a=some o)(I:SI prog w o ks es ep t)(hh:A.handled=none)
  (h:∀ h' tk d (vs:List Kj),s.heap.objs.size<=h'.objs.size->(∀ b u,s.heap.get? b=some u->h'.get? b=some u)->vs.Perm (es.toList.map (·.2))->Q vs { s with heap:=h',drawn:=d,toks:=tk }):Kr (Kw prog w) A (collect (.ref a)) Q E s:=by
 unfold collect
 refine Ki (Qq (Lh F.entry_proto_collect ?_))
 rw[K9 F.plain_proto_collect _]
 show Kr _ A.in1 (newList [] >>= fun l=>again (.builtin "list.__iadd__" ⟨[l,.ref a],[]⟩)) _ _ s
 refine Ki (K7 ?_)
 refine Ko ⟨Lu O_ _,Lh F.entry_list_iadd ?_⟩
 rw[K9 O_ _]
 have hS:(s.heap.push { cls:=.type "list",data:=.seq ([]:List Kj).toArray }).get? s.heap.objs.size=some { cls:=.type "list",data:=.seq ([]:List Kj).toArray }:=Kt _ rfl
 have hne:s.heap.objs.size≠a:=G0 (Ky ho)
 have fin:∀(s':Km) (h':KH) (tk:Nat) (d:QO) (acc:Array Kj) (c:Nat),s'={ s with heap:=h',drawn:=d,toks:=tk }->(∀ b u,s.heap.get? b=some u->h'.get? b=some u)->h'.get? s.heap.objs.size=some { cls:=.type "list",dict:=none,data:=.seq acc c,slots:=#[] }->acc.toList.Perm (es.toList.map (·.2))->
   Kr (Kw prog w) A (load s.heap.objs.size >>= fun o=>match o.data with
    | .seq xs _=>pure xs.toList
    | _=>unsupported "internal:collect") Q E s':=fun s' h' tk d acc c es' kp e it=>by
  subst es'
  refine Ki (PJ e ?_)
  exact Ko (h h' tk d _ (FK (Ky e)) kp it)
 refine KW (zO (s:={ s with heap:=s.heap.push { cls:=.type "list",data:=.seq ([]:List Kj).toArray } }) (R:=fun r s'=>∃(h':KH) (tk:Nat) (d:QO) (acc:Array Kj) (c:Nat),r=.ok (.ret (.ref s.heap.objs.size))/\s'={ s with heap:=h',drawn:=d,toks:=tk }/\(∀ b u,s.heap.get? b=some u->h'.get? b=some u)/\h'.get? s.heap.objs.size=some { cls:=.type "list",dict:=none,data:=.seq acc c,slots:=#[] }/\acc.toList.Perm (es.toList.map (·.2)))
  (Kn _ ho) I hh s.heap.objs.size hne (.ref s.heap.objs.size) 0 hS (fun h' tk d acc c kp e it=>⟨h',tk,d,acc,c,rfl,rfl,fun b u eb=>kp b u (w_ (Ky eb)) (Kn _ eb),e,it⟩)) (fun fn s' hf=>?_) (fun e s' hf=>?_)
 ·cases fn with
  | done f=>
   obtain⟨h',tk,d,acc,c,ef,es',kp,e,it⟩:=hf
   cases ef
   exact fin s' h' tk d acc c es' kp e it
  | again c'=>
   refine⟨hf.1,Md hf.2 fun r s'' hr=>?_⟩
   obtain⟨h',tk,d,acc,c,er,es',kp,e,it⟩:=hr
   subst er
   exact fin s'' h' tk d acc c es' kp e it
 obtain⟨_,_,_,_,_,ef,_⟩:=hf
 cases ef
end
open PySem PyProof.Rows
section
variable{prog:Kz}{w:KD}{A:KN}{R:OP->Km->Prop}{I:Kl}{fp wr:List Kl}{G:Array Pj->Array Pj->Prop}{n:Nat}{P:Nat->Kj->Prop}{St:Nat->Km->Prop}
theorem SG.at {h h':KH}{a:Kl}{S:Int->Prop}{m:Nat}(x:SG prog w h a S m)(k:∀ o,h.get? a=some o->h'.get? a=some o):SG prog w h' a S m:=let ⟨o,ks,es,ep,t,e,r⟩:=x;⟨o,ks,es,ep,t,k _ e,r⟩
theorem SG.congr {h:KH}{a:Kl}{S S':Int->Prop}{m:Nat}(x:SG prog w h a S m)(k:∀ z,S z↔S' z):SG prog w h a S' m:=let ⟨o,ks,es,ep,t,e,r,q⟩:=x;⟨o,ks,es,ep,t,e,r,fun z=>(q.1 z).trans (k z),q.2⟩
theorem wU(W:WalksS prog w A.in1 I fp wr G n P St)(S:Kl)(hSf:S ∉ fp)(val:Nat->Int)(hval:∀ i v,P i v->∃ t,v=.int (val i) t)(hb:n + 1 < scanBound) :
  ∀(k i:Nat) (s:Km),n - i=k->i<=n->St i s->SG prog w s.heap S (fun z=>∃ j,j < i/\val j=z) i->(∀ s',Moved (S::wr) G s s'->SG prog w s'.heap S (fun z=>∃ j,j < n/\val j=z) n->R (.ok (.ret .none)) s')->LQ (Kw prog w) A (.builtin "set.update.loop" ⟨[.ref S,.ref I],[]⟩) R s:=by
 have hSw:S ∉ wr:=fun h=>hSf (W.sub _ h)
 have hsub:∀ b∈wr,b∈S::wr:=fun b hb=>o_ _ hb
 intro k
 induction k with
 | zero=>
  intro i s hk hi hst hS hR
  obtain rfl:i=n:=by omega
  refine Lh NT ?_
  rw[K9 MW _]
  show Kr _ A.in1 (L7 (.ref I) >>= _) _ _ s
  refine Ki (W.done s _ _ hst fun s' hm=>?_)
  show Kr _ A.in1 (ret K') _ _ s'
  exact Ko (hR s' (hm.mono hsub) (hS.at fun o e=>hm.heap S _ hSw e))
 | succ k ih=>
  intro i s hk hi hst hS hR
  have hlt:i < n:=by omega
  refine Lh NT ?_
  rw[K9 MW _]
  show Kr _ A.in1 (L7 (.ref I) >>= _) _ _ s
  refine Ki (W.item i s _ _ hlt hst fun v s' hP hst' hm=>?_)
  obtain⟨t,rfl⟩:=hval i v hP
  have hS':=hS.at (h':=s'.heap) fun o e=>hm.heap S _ hSw e
  show Kr _ A.in1 (MA [Mm (val i) t] (setAdd S (.int (val i) t)) >>= _) _ _ s'
  refine Ki (KY ?_)
  unfold setAdd
  refine KY (Ki ((Mk prog w).pyHash (k:=val i) (Ox _ _ _ _) ?_))
  refine add_int (s:={ s' with toks:=s'.toks + 1 }) hS' (by omega) fun _ h' sb hS2=>?_
  have hSi:SG prog w h' S (fun z=>∃ j,j < i + 1/\val j=z) (i + 1):=hS2.congr fun z=>⟨fun q=>q.elim (fun⟨j,a,b⟩=>⟨j,by omega,b⟩) fun e=>⟨i,by omega,e.symm⟩,fun⟨j,a,b⟩=>by
   by_cases c:j=i
   ·exact .inr (by rw[<-b,c])
   exact .inl ⟨j,by omega,b⟩⟩
  refine Ko ⟨Lu MW _,ih (i + 1) _ (by omega) hlt (W.frame _ s' _ _ hst' (Hv _) fun b hb o e=>?_) hSi fun s'' hm'' hS''=>?_⟩
  ·rw[sb.2 b (fun h:b=S=>hSf (by rw[<-h];exact hb))]
   exact e
  refine hR s'' (Moved.trans W.gtrans ((hm.mono hsub).then_heap (Hv _) fun b o hb e=>?_) hm'') hS''
  rw[sb.2 b (fun h:b=S=>hb (by rw[h];exact y_))]
  exact e
end
section
variable{prog:Kz}{w:KD}{A:KN}{E:Kj->Km->Prop}{s:Km}
abbrev nob(w:KD):Obj:={ cls:=.type "set",dict:=none,data:=.set #[] 0 (.fresh 0 0 (!bt w)) }
theorem yh(a:Kj){Q:Kj->Km->Prop}(h:Q (.ref s.heap.objs.size) { s with heap:=s.heap.push (nob w) }):LQ (Kw prog w) A (.call (.builtin "set.__new__") ⟨[.type "set",a],[]⟩) (wants Q E) s:=by
 refine Qb ?_
 show Kr _ A.in1 (Pw "set.__new__" ⟨[.type "set",a],[]⟩ >>= fun _=>again (.builtin "set.__new__" ⟨[.type "set",a],[]⟩)) _ _ s
 refine Ki (Mq (F.newCall_set_1 a) (Ko ⟨Lu Qc _,Lh F.entry_set_new ?_⟩))
 rw[K9 Qc _]
 unfold LC.«set.__new__» QM
 have hsub:=sub_set_self
 obtain⟨hp,g,d,tk,os⟩:=s
 dsimp only
 wp_walk
 refine NR (Ko ?_)
 dsimp only
 simp only[newObj]
 refine Ki (wpAny_alloc (Ko ?_))
 exact Ko h
theorem Bo{h:KH}:SG prog w (h.push (nob w)) h.objs.size (fun _=>False) 0:=
 ⟨_,[],#[],0,_,Kt _ rfl,⟨⟨rfl,rfl,rfl⟩,rfl,fun e he=>(nomatch he),.nil,GZ,by decide,rfl,wJ _ _ _⟩,fun z=>⟨(nomatch ·),KJ⟩,e_ _⟩
set_option maxHeartbeats 3200000 in
theorem xh{l:Kl}{items:Array Kj}{ns:List Int}{Q:Kj->Km->Prop}(hh:A.handled=none)(hl:s.heap.IsList l items)(hi:IntsAre items.toList ns)(hb:items.size + 1 < scanBound)
  (h:∀(h':KH) (tk:Nat),SG prog w h' s.heap.objs.size (fun z=>z∈ns) items.size->(∀ b o,b < s.heap.objs.size->s.heap.get? b=some o->h'.get? b=some o)->Q (.ref s.heap.objs.size) { s with heap:=h',toks:=tk }) :
  Kr (Kw prog w) A (call (.type "set") [.ref l]) Q E s:=by
 obtain⟨c,tl,hmro⟩:=Mi.mro
 have hmade:=Mi.made
 have hsub:=Mi.sub
 refine PN (Qb ?_)
 show Kr _ _ (callAny (.type "set") _) _ _ _
 refine Ko ⟨Code.quiet_builtin _ (by decide +kernel),Lh F.entry_type_call ?_⟩
 rw[Around.under_plain (weight_type_call_type "set" [.ref l] []) rfl]
 have h1:=Mi.notType
 have h2:=Mi.canCreate
 have hct:=F.typeCall_set_1 (.ref l)
 repeat (any_goals (first | assumption | wp_step))
 refine Md (yh (.ref l) (E:=E) (Q:=fun obj s₁=>obj=.ref s.heap.objs.size/\s₁={ s with heap:=s.heap.push (nob w) }) ⟨rfl,rfl⟩) fun r s₁ hr=>?_
 cases r with
 | error e=>exact hr
 | ok fl=>
  cases fl with
  | ret obj=>
   obtain⟨rfl,rfl⟩:=hr
   have hS:(s.heap.push (nob w)).get? s.heap.objs.size=some (nob w):=Kt _ rfl
   have hT:Shared.TypeIs { s with heap:=s.heap.push (nob w) } (.ref s.heap.objs.size) "set":=⟨_,hS,rfl⟩
   have hli:=Mi.init.lookup
   have hbi:=Mi.init.bind (.ref s.heap.objs.size)
   repeat (any_goals (first | assumption | wp_step))
   refine Md (Oy (R:=wants (fun r s₂=>r=.none/\∃ h' tk,s₂={ s with heap:=h',toks:=tk }/\SG prog w h' s.heap.objs.size (fun z=>z∈ns) items.size/\(∀ b o,b < s.heap.objs.size->s.heap.get? b=some o->h'.get? b=some o)) E) Mi.init.plain F.entry_set_init (check_set_init_1 hT ?_)) fun r₂ s₂ hr₂=>?_
   ·obtain⟨ol,hol,hcl,nl,hdl⟩:=hl
    obtain⟨ocls,odict,odata,oslots⟩:=ol
    simp only at hcl hdl
    subst hcl;subst hdl
    have hol':(s.heap.push (nob w)).get? l=some { cls:=.type "list",dict:=odict,data:=.seq items nl,slots:=oslots }:=Kn _ hol
    have hsls:=F.sub_list_set
    have hslf:=F.sub_list_frozenset
    have hne:(Lo "list" == Lo "dict")=false:=by decide
    have hl1:(s.heap.push (nob w)).IsList l items:=⟨_,hol',rfl,nl,rfl⟩
    unfold LC.«set.__init__» noKeywords Qr
    generalize hPI:M'=PI
    wp_walk
    subst hPI
    refine LG hl1 ?_
    refine Ki (Qq ?_)
    have hlS:l < s.heap.objs.size:=Ky hol
    have hh3:A.in1.in1.in1.handled=none:=by simp[hh]
    have hneI:l≠(s.heap.push (nob w)).objs.size:=by rw[K0];exact w_ (IP hlS)
    have hSf:s.heap.objs.size ∉ [(s.heap.push (nob w)).objs.size,l]:=by
     rw[K0]
     simp only[t_,A_,IZ,or_false,not_or]
     exact⟨w_ (Hq _),G0 hlS⟩
    have hval:∀(i:Nat) (v:Kj),items[i]?=some v->∃ t,v=.int ((fun i=>ns.getD i 0) i) t:=fun i v hv=>IntsAre.int_at hi i v (by rw[fk];exact hv)
    refine wU ((NC hh3 _ l hneI items).toS) s.heap.objs.size hSf (fun i=>ns.getD i 0) hval hb (items.size - 0) 0 _ (by omega) (B' _) ⟨⟨_,Kt _ rfl,rfl,rfl⟩,(hl1.push _)⟩ ?hS0 ?hR
    case hS0=>exact(Bo.at fun o e=>Kn _ e).congr fun z=>⟨KJ,fun⟨j,a,_⟩=>absurd a (by omega)⟩
    case hR=>
     intro s' hm hS'
     obtain⟨h',g',d',tk',os'⟩:=s'
     have eg:g'=s.gens:=hm.gens
     have ed:d'=s.drawn:=hm.drawn
     have eo:os'=s.os:=hm.os
     subst eg;subst ed;subst eo
     refine Ko ?_
     show Kr _ _ (ret K') _ _ _
     have nl:items.size=ns.length:=by rw[<-fY hi,f_]
     refine Ko ⟨rfl,h',tk',rfl,hS'.congr fun z=>⟨fun⟨j,a,b⟩=>?_,fun q=>?_⟩,fun b o hb e=>?_⟩
     ·rw[<-b,x_,b_ (by omega)]
      exact Hk _
     ·obtain⟨j,a,b⟩:=Gv.mp q
      exact⟨j,by omega,by rw[x_,b_ a];exact b⟩
     refine hm.heap b o ?_ (Kn _ (Kn _ e))
     rw[K0]
     simp only[t_,A_,IZ,or_false,not_or]
     exact⟨w_ hb,w_ (IP hb)⟩
   ·cases r₂ with
    | error e=>exact hr₂
    | ok fl₂=>
     cases fl₂ with
     | ret r=>
      obtain⟨rfl,h',tk,rfl,hS',hk'⟩:=hr₂
      repeat (any_goals (first | assumption | wp_step))
      exact h _ _ hS' hk'
     | _=>exact hr₂.elim
  | _=>exact hr.elim
end
open PySem PyProof.Rows
section
variable{prog:Kz}{w:KD}{A:KN}{E:Kj->Km->Prop}{s:Km}
theorem iw:∀ {vs:List Kj} {ns:List Int},IntsAre vs ns->vs.map ZS.cF=ns/\∀ v∈vs,∃ i t,v=.int i t/\i∈ns
 | _,_,.nil=>⟨rfl,fun v h=>(nomatch h)⟩
 | _,_,.cons n t h=>by
  obtain⟨a,b⟩:=iw h
  refine⟨by rw[g_,a];rfl,fun v hv=>?_⟩
  rcases t_.mp hv with e | hv
  ·exact⟨n,t,e,.head _⟩
  obtain⟨i,u,e,m⟩:=b v hv
  exact⟨i,u,e,.tail _ m⟩
theorem rC{a:Kl}{o:Obj}{ks:List Int}{es:Array (Int × Kj)}{ep:Nat}{t:Lg}{Q:Kj->Km->Prop}(ho:s.heap.get? a=some o)(I:SI prog w o ks es ep t)(hh:A.handled=none)
  (h:∀(out:List Kj) (ms:List Int) p c h' tk d,IntsAre out ms->ms.Perm ks->ms.Pairwise (·<=·)->s.heap.objs.size<=p->(∀ b u,s.heap.get? b=some u->h'.get? b=some u)->h'.get? p=some (L0 "list" out.toArray c)->Q (.ref p) { s with heap:=h',drawn:=d,toks:=tk }) :
  Kr (Kw prog w) A (call (.builtin "sorted") [.ref a]) Q E s:=by
 refine ND kind_sorted plain_sorted entry_sorted (args_sorted1 _) ?_
 unfold LC.«sorted»
 refine Ki (m:=checkCount "sorted" 1 1 _) (Ko ?_)
 refine Ki (oM ho I hh fun h0 tk d vs le k0 pm=>?_)
 obtain⟨ns,hI,kp⟩:=eD pm.symm I.rd
 obtain⟨keys,each⟩:=iw hI
 have hz:vs.length<=sizeLine:=by rw[pm.length_eq,a_,f_];exact Mt I.sm
 refine Ki (Nv ?_ hz)
 have hoL:(h0.push (L0 "list" vs.toArray 0)).get? h0.objs.size=some (L0 "list" vs.toArray 0):=Kt _ rfl
 have keep:∀ b o,s.heap.get? b=some o->(h0.push (L0 "list" vs.toArray 0)).get? b=some o:=fun b o q=>Kn _ (k0 b o q)
 show Kr _ _ _ _ _ { s with heap:=h0.push (L0 "list" vs.toArray 0),drawn:=d,toks:=tk }
 have ne:∀ b o,s.heap.get? b=some o->b≠h0.objs.size:=fun b o e=>w_ (Ky (k0 b o e))
 generalize h0.push (L0 "list" vs.toArray 0)=h1 at hoL keep ⊢
 refine Ki (KY (Lq slot_list_sort ⟨_,hoL,rfl⟩ entry_list_sort ?body (args_list_sort _)))
 case body=>
  refine ZS.uF (s:={ s with heap:=h1,drawn:=d,toks:=tk }) (kd:=Pt) (rk:=fun x=>ZS.rnk ZS.ltI ns (ZS.cF x.1)) (S:=fun x=>x.1∈vs) hoL hz (fun v hv=>hv) (fun h' k {Q} hne q=>?_) (fun h' k=>ZS.xM fun x hx=>each _ hx) fun out c h' g1 g2 g3 g4=>?_
  ·obtain⟨v1,vs',ev⟩:=List.exists_cons_of_ne_nil hne
   rw[ev]at hI ⊢
   exact ZS.xU hI q
  obtain⟨ms,om,mp⟩:=eD g1.symm hI
  have eo:=(iw om).1
  refine⟨_,rfl,Ko ⟨_,rfl,h out ms _ c h' tk d om (mp.symm.trans kp.symm) ?_ le (fun b u e=>g3 b u (ne b u e) (keep b u e)) g4⟩⟩
  rw[<-eo,HX]
  refine IX (fun{x y} hx hy hxy=>?_) g2
  by_cases z:ZS.cF x<=ZS.cF y
  ·exact z
  have:=ZS.vH ZS.E8 (ks:=ns) (a:=ZS.cF y) (b:=ZS.cF x) (by rw[<-keys];exact List.mem_map_of_mem (g1.mem_iff.mp hy)) (decide_eq_true (by omega))
  exact absurd this (Kg.mpr hxy)
end
end ZT
namespace L2
open PySem PySem.Spec PyProof.Rows
section
variable{X:Cx}
theorem Inv.drw {pins:List (Kl × Obj)}{s:Km}{σ:St}{H:Hp}{d:QO}(I:Inv X pins σ H s):Inv X pins σ H { s with drawn:=d }:=⟨I.ok,I.os,I.bare,I.base,I.loc,I.cell,I.free,I.freeC,I.pin,I.hok,I.len⟩
theorem wq:∀ {vs:List Kj} {ns:List Int},IntsAre vs ns->Vals (ns.map V.int) vs
 | _,_,.nil=>.nil
 | _,_,.cons n t h=>.cons ⟨t,rfl⟩ (wq h)
theorem uM{e:KC}{te:TE}{p1 p2 pos1 pos2:Pos}(hc:X.calm=true)(hg1:Gl X "sorted")(hm1:X.mg "sorted"=none)(hg2:Gl X "set")(hm2:X.mg "set"=none)(he:PE X e te)
  (hs1:KG [e] X.env=[(false,KR e X.env)]:=by rfl) (hs2:KG [.Call (.Name "set" p2) [e] [] pos2] X.env=[(false,KR (.Call (.Name "set" p2) [e] [] pos2) X.env)]:=by rfl) :
  PE X (.Call (.Name "sorted" p1) [.Call (.Name "set" p2) [e] [] pos2] [] pos1) (fun σ H Q=>te σ H fun x H1=>∃ l,∃ ns:List Int,x=.ref l/\SqL X.K H1 l (ns.map V.int)/\ns.length < 4095/\∀ ms:List Int,ms.Pairwise (· < ·)->(∀ z,z∈ms↔z∈ns)->New (.lst (ms.map V.int)) H1 Q):=by
 intro pins s σ H Q I h
 refine Lz (bQ I hg1 hm1 boot_sorted (callWith_builtin1 ?_ (by rw[hs2];rfl) rfl))
 rw[hs2]
 refine Mn ?_
 refine Lz (bQ I hg2 hm2 boot_set (callWith_type1 ?_ (by rw[hs1];rfl) rfl))
 rw[hs1]
 refine Mn (thn (he pins s σ H _ I h) ?_)
 rintro u s1 ⟨x,H1,I1,r1,l,ns,ex,hl,hz,q⟩
 subst ex
 cases r1
 obtain⟨its,rv,pl,_⟩:=I1.list hl
 have hI:=intsAre_of rv
 have ln:=ZT.fY hI
 refine Ko (ZT.xh (items:=its.toArray) (ns:=ns) (I1.ok.hd hc) pl.isList hI (by unfold scanBound;rw[l_];omega) fun h' tk SG kp=>?_)
 have k1:∀ b o,s1.heap.get? b=some o->h'.get? b=some o:=fun b o e=>kp b o (Ky e) e
 have I2:Inv X pins σ H1 { s1 with heap:=h',toks:=tk }:=I1.kept (t':=tk) k1
 obtain⟨o,ks,es,ep,t,ho,SI,mem,_⟩:=SG
 refine Ko (ZT.rC ho SI (I2.ok.hd hc) fun out ms p c h2 tk2 d om pm so le k2 e2=>?_)
 have hz2:ms.length<=16777216:=by
  have a:=SI.sm
  have b:=ZT.fY SI.rd
  rw[a_,f_]at b
  rw[pm.length_eq]
  unfold scanBound at a
  omega
 have I3:=(I2.drw (d:=d)).laid (a:=p) (o:=.lst (ms.map V.int)) (t':=tk2) k2 le (show aW X.prog X.w _ h2 _ (.lst (ms.map V.int))from⟨by rw[a_];exact hz2,out,c,wq om,e2⟩)
 refine⟨.ref p,_,I3,rfl,(q ms ?_ fun z=>?_).at (I2.hok.fresh le)⟩
 ·have nd:=pm.nodup_iff.mpr SI.nd
  exact(List.Pairwise.and so nd).imp fun⟨a,b⟩=>by omega
 rw[pm.mem_iff]
 exact mem z
end
end L2
namespace PL
open PySem PySem.Spec PyProof.Rows L2
section
variable{X:Cx}
noncomputable def Er:T->(T->Prop)->Prop
 | .lst _ ts,k=>got (intsOf ts) fun ns=>ns.length < 4095/\∀ ms:List Int,ms.Pairwise (· < ·)->(∀ z,z∈ms↔z∈ns)->k (.lst true (ms.map T.int))
 | _,_=>False
theorem nz{e:KC}{fe:PF}{p1 p2 pos1 pos2:Pos}(hc:X.calm=true)(hg1:Gl X "sorted")(hm1:X.mg "sorted"=none)(hg2:Gl X "set")(hm2:X.mg "set"=none)(he:GE X e fe)
  (hs1:KG [e] X.env=[(false,KR e X.env)]:=by rfl) (hs2:KG [.Call (.Name "set" p2) [e] [] pos2] X.env=[(false,KR (.Call (.Name "set" p2) [e] [] pos2) X.env)]:=by rfl) :
  GE X (.Call (.Name "sorted" p1) [.Call (.Name "set" p2) [e] [] pos2] [] pos1) (fUn Er fe):=by
 refine PE.imp (uM hc hg1 hm1 hg2 hm2 he hs1 hs2) ?_
 rintro σ H Q ⟨env,Fr,k,rs,q,c⟩
 refine⟨env,Fr,_,rs,q,fun t env1 v H1 q1 rs1=>?_⟩
 cases t <;> first | exact KJ q1 | skip
 obtain⟨ns,en,z,g⟩:=az q1
 have et:=eP en
 subst et
 obtain⟨a,vs,rfl,hq,l,rp⟩:=aB rfl rs1.head
 have ev:=eJ l rp
 subst ev
 exact⟨a,ns,rfl,hq,z,fun ms h1 h2 p H' hp g' e=>c _ _ _ _ (g ms h1 h2) (.of rs1.1 (fy (nV ms rs1.drop.2) (by rw[a_,a_]) hp g' e))⟩
theorem gH{o:Bool}{ts:List T}{k:T->Prop}:Er (.lst o ts) k=bU (intsOf ts) (k:=⟨fun ns=>ns.length < 4095/\∀ ms:List Int,ms.Pairwise (· < ·)->(∀ z,z∈ms↔z∈ns)->k (.lst true (ms.map T.int))⟩):=rfl
end
end PL
namespace ZN
open PySem
def Ka(h0 h:KH):Prop:=∀ b o,h0.get? b=some o->h.get? b=some o
section
variable{prog:Kz}{w:KD}{A:KN}{R:OP->Km->Prop}{I:Kl}{fp wr:List Kl}{n:Nat}{vs:Array Kj}{St:Nat->KH->Prop}{h0:KH}{bt:Nat->Nat->Bool}{kw:List (Str × Kj)}
noncomputable def Cm(prog:Kz)(w:KD)(A:KN)(h0:KH)(vs:Array Kj)(bt:Nat->Nat->Bool):Prop:=∀(i j:Nat) (x y:Kj) (z:Km) (Q:Kj->Km->Prop) (E:Kj->Km->Prop),vs[i]?=some x->vs[j]?=some y->Ka h0 z.heap->Q (.bool (bt i j)) z->Kr (Kw prog w) A (Nk .Lt x y) Q E z
theorem lpN(W:P' prog w A.in1 I fp wr n (fun i v=>vs[i]?=some v) St)(cm:Cm prog w A.in1 h0 vs bt)(S:Kl)(off:S ∉ fp)(tk:∀ b o,h0.get? b=some o->b ∉ wr/\b≠S) :
  ∀(k j:Nat) (z:Km) (x:Kj) (c:Nat),n - (j + 1)=k->j + 1<=n->St (j + 1) z.heap->vs[Lw bt j]?=some x->Ka h0 z.heap->z.heap.get? S=some { cls:=.type "list",dict:=none,data:=.seq #[x,x] c,slots:=#[] }->
  (∀ y h' t,vs[Lw bt (n - 1)]?=some y->(∀ b o,b ∉ wr->b≠S->z.heap.get? b=some o->h'.get? b=some o)->R (.ok (.ret y)) { z with heap:=h',toks:=t })->
  LQ (Kw prog w) A (.builtin "min.loop" ⟨[.ref I,.none,.ref S],kw⟩) R z:=by
 have so:S ∉ wr:=fun h=>off (W.sub _ h)
 have nm:(toString "min"++toString ".loop":String)="min.loop":=by decide
 intro k
 induction k with
 | zero=>
  intro j z x c hk hj st hx kt hS r
  have e:j + 1=n:=by omega
  refine Lh Ms ?_
  rw[K9 Ld _]
  show Kr _ A.in1 (MI (.ref S) >>= _) _ _ z
  refine Ki (Lk hS rfl ?_)
  show Kr _ A.in1 (tryCatch (L7 (.ref I)) _ >>= _) _ _ z
  refine Ki (MQ (W.done z _ _ (e ▸ st) fun h' t kp=>?_))
  have hS':=kp S _ so hS
  show Kr _ A.in1 (OX S (fun _=>#[]) >>= _) _ _ _
  refine Ki (MD hS' rfl (Ki (Mr (Ko ?_))))
  exact r x _ t (by rw[<-e];exact hx) fun b o h1 h2 q=>(KS _ _ (LJ h2)).trans (kp b o h1 q)
 | succ k ih=>
  intro j z x c hk hj st hx kt hS r
  have lt:j + 1 < n:=by omega
  refine Lh Ms ?_
  rw[K9 Ld _]
  show Kr _ A.in1 (MI (.ref S) >>= _) _ _ z
  refine Ki (Lk hS rfl ?_)
  show Kr _ A.in1 (tryCatch (L7 (.ref I)) _ >>= _) _ _ z
  refine Ki (MQ (W.item (j + 1) z _ _ lt st fun y h' t hy st' kp=>?_))
  have hS':=kp S _ so hS
  have kt':Ka h0 h':=fun b o q=>kp b o (tk b o q).1 (kt b o q)
  show Kr _ A.in1 (tryCatch (MA [y,y] (Nk .Lt y x >>= _)) _ >>= _) _ _ _
  refine Ki (MQ (KY (Ki (cm (j + 1) (Lw bt j) y x _ _ _ hy hx kt' ?_))))
  refine Ki (KY (LF ?_))
  refine Ki (Mr (Ko ?_))
  cases hb:bt (j + 1) (Lw bt j)with
  | true=>
   have ea:Lw bt (j + 1)=j + 1:=by rw[Lw,hb];rfl
   simp only[if_true]
   refine Ki (MD hS' rfl (Ki (Mr ?_)))
   rw[nm]
   refine Ko ⟨Lu Ld _,ih (j + 1) _ y _ (by omega) lt (W.frame _ _ _ st' fun b bf o q=>?_) (by rw[ea];exact hy) (fun b o q=>?_) (K6 _ hS' rfl) fun y2 h2 t2 g1 g2=>?_⟩
   ·exact(KS _ _ (fun e:S=b=>off (by rw[e];exact bf))).trans q
   ·exact(KS _ _ (LJ (tk b o q).2)).trans (kt' b o q)
   ·exact r y2 h2 t2 g1 fun b o m1 m2 q=>g2 b o m1 m2 ((KS _ _ (LJ m2)).trans (kp b o m1 q))
  | false=>
   have ea:Lw bt (j + 1)=Lw bt j:=by rw[Lw,hb];rfl
   simp only[Ga,if_false]
   refine Ki (Mr ?_)
   rw[nm]
   refine Ko ⟨Lu Ld _,ih (j + 1) _ x c (by omega) lt st' (by rw[ea];exact hx) kt' hS' fun y2 h2 t2 g1 g2=>?_⟩
   exact r y2 h2 t2 g1 fun b o m1 m2 q=>g2 b o m1 m2 (kp b o m1 q)
theorem EN(W:P' prog w A.in1 I fp wr n (fun i v=>vs[i]?=some v) St)(cm:Cm prog w A.in1 h0 vs bt)(S:Kl)(off:S ∉ fp)(tk:∀ b o,h0.get? b=some o->b ∉ wr/\b≠S)(hn:0 < n){z:Km}{c:Nat}(st:St 0 z.heap)(kt:Ka h0 z.heap)
  (hS:z.heap.get? S=some { cls:=.type "list",dict:=none,data:=.seq #[] c,slots:=#[] })
  (r:∀ y h' t,vs[Lw bt (n - 1)]?=some y->(∀ b o,b ∉ wr->b≠S->z.heap.get? b=some o->h'.get? b=some o)->R (.ok (.ret y)) { z with heap:=h',toks:=t }) :
  LQ (Kw prog w) A (.builtin "min.loop" ⟨[.ref I,.none,.ref S],kw⟩) R z:=by
 have so:S ∉ wr:=fun h=>off (W.sub _ h)
 have nm:(toString "min"++toString ".loop":String)="min.loop":=by decide
 refine Lh Ms ?_
 rw[K9 Ld _]
 show Kr _ A.in1 (MI (.ref S) >>= _) _ _ z
 refine Ki (Lk hS rfl ?_)
 show Kr _ A.in1 (tryCatch (L7 (.ref I)) _ >>= _) _ _ z
 refine Ki (MQ (W.item 0 z _ _ hn st fun y h' t hy st' kp=>?_))
 have hS':=kp S _ so hS
 have kt':Ka h0 h':=fun b o q=>kp b o (tk b o q).1 (kt b o q)
 show Kr _ A.in1 (OX S (fun _=>#[y,y]) >>= _) _ _ _
 refine Ki (MD hS' rfl ?_)
 rw[nm]
 refine Ko ⟨Lu Ld _,lpN W cm S off tk _ 0 _ y _ rfl hn (W.frame _ _ _ st' fun b bf o q=>?_) hy (fun b o q=>?_) (K6 _ hS' rfl) fun y2 h2 t2 g1 g2=>?_⟩
 ·exact(KS _ _ (fun e:S=b=>off (by rw[e];exact bf))).trans q
 ·exact(KS _ _ (LJ (tk b o q).2)).trans (kt' b o q)
 exact r y2 h2 t2 g1 fun b o m1 m2 q=>g2 b o m1 m2 ((KS _ _ (LJ m2)).trans (kp b o m1 q))
theorem EW{d:Kj}{nm':Str}(W:P' prog w A.in1 I fp wr 0 (fun i v=>vs[i]?=some v) St)(S:Kl)(off:S ∉ fp){z:Km}{c:Nat}(st:St 0 z.heap)
  (hS:z.heap.get? S=some { cls:=.type "list",dict:=none,data:=.seq #[] c,slots:=#[] })
  (r:∀ h' t,(∀ b o,b ∉ wr->z.heap.get? b=some o->h'.get? b=some o)->R (.ok (.ret d)) { z with heap:=h',toks:=t }) :
  LQ (Kw prog w) A (.builtin "min.loop" ⟨[.ref I,.none,.ref S],[(nm',d)]⟩) R z:=by
 refine Lh Ms ?_
 rw[K9 Ld _]
 show Kr _ A.in1 (MI (.ref S) >>= _) _ _ z
 refine Ki (Lk hS rfl ?_)
 show Kr _ A.in1 (tryCatch (L7 (.ref I)) _ >>= _) _ _ z
 refine Ki (MQ (W.done z _ _ st fun h' t kp=>?_))
 exact Ki (LW (Ko (r h' t kp)))
end
section
variable{prog:Kz}{w:KD}{A:KN}{E:Kj->Km->Prop}{s:Km}
theorem allI:∀ {l:List Kj} {n:List Int},ZM.IntsAre l n->ZS.AllInt l/\l.map ZS.cF=n/\RZ l n:=by
 intro l
 induction l with
 | nil=>
  intro n h
  cases n with
  | nil=>exact⟨(fun v m=>nomatch m),rfl,.nil⟩
  | cons a n=>exact h.elim
 | cons v l ih=>
  intro n h
  cases n with
  | nil=>exact h.elim
  | cons a n=>
   obtain⟨⟨t,rfl⟩,h⟩:=h
   obtain⟨i1,i2,i3⟩:=ih h
   refine⟨fun v m=>?_,by rw[g_,i2];rfl,.cons _ _ i3⟩
   rcases t_.mp m with rfl | m
   ·exact⟨_,_,rfl⟩
   exact i1 v m
theorem AH:∀(x y:List Int),ZM.lx x y=ZS.ltL x y
 | [],[]=>rfl
 | [],_::_=>rfl
 | _::_,[]=>rfl
 | a::x,b::y=>by
  rw[ZM.lx,ZS.ltL,AH x y]
theorem DY{c d:Kl}{xs ys:List Kj}{ns ms:List Int}{Q:Kj->Km->Prop}(hc:s.heap.IsList c xs.toArray)(hd:s.heap.IsList d ys.toArray)(ix:ZM.IntsAre xs ns)(iy:ZM.IntsAre ys ms)(hu:A.units < cLine)(q:Q (.bool (ZM.lx ns ms)) s):Kr (Kw prog w) A (Nk .Lt (.ref c) (.ref d)) Q E s:=by
 obtain⟨⟨cls,dd,data,sl⟩,ho,hc,n,hd'⟩:=id hc
 obtain⟨⟨cls2,dd2,data2,sl2⟩,ho2,hc2,n2,hd2⟩:=id hd
 simp only at hc hd' hc2 hd2
 subst hc hd' hc2 hd2
 obtain⟨a1,a2,_⟩:=allI ix
 obtain⟨b1,b2,_⟩:=allI iy
 refine Nq (T:="list") ⟨_,ho,rfl⟩ ⟨_,ho2,rfl⟩ Oz (MO Oz ⟨_,ho,rfl⟩ PySem.F.entry_list_lt (PySem.F.args_list_lt_2 _ _) (ZS.xG c d xs.toArray ys.toArray n n2 dd dd2 sl sl2 a1 b1) ⟨ho,ho2,?_⟩) hu
 refine⟨(fun z=>nomatch z),?_⟩
 show Q (.bool (ZS.ltL (xs.map ZS.cF) (ys.map ZS.cF))) s
 rw[a2,b2,<-AH]
 exact q
theorem DQ{a b c d:Kl}{oa ob:Obj}{na nb:Nat}{n m:Int}{t u:Tok}{xs ys:List Kj}{ns ms:List Int}{Q:Kj->Km->Prop}(ha:s.heap.get? a=some oa)(ca:oa.cls=.type "tuple")(da:oa.data=.seq #[.int n t,.ref c] na)(hb:s.heap.get? b=some ob)(cb:ob.cls=.type "tuple")(db:ob.data=.seq #[.int m u,.ref d] nb)
  (hc:s.heap.IsList c xs.toArray) (hd:s.heap.IsList d ys.toArray) (ix:ZM.IntsAre xs ns) (iy:ZM.IntsAre ys ms) (hu:A.units + 70 < cLine) (q:Q (.bool (ZM.lx (n::ns) (m::ms))) s):Kr (Kw prog w) A (Nk .Lt (.ref a) (.ref b)) Q E s:=by
 refine Nq (T:="tuple") ⟨_,ha,ca⟩ ⟨_,hb,cb⟩ Oh (Lq Oh ⟨_,ha,ca⟩ PySem.F.entry_tuple_lt ?_ (PySem.F.args_tuple_lt_2 _ _)) (by omega)
 show Kr _ _ (isInstance (.ref b) (.type "tuple") >>= _) _ _ _
 refine Ki (Mx (T:="tuple") (b:=true) ⟨_,hb,cb⟩ (by rw[Ni];rfl) ?_)
 refine LH (fun c=>absurd c (by decide)) (fun _=>?_)
 refine Ki (OY ha da (Ki (OY hb db (Ki ?_))))
 show Kr _ _ (forIn [(Mm n t,Mm m u),(KO c,KO d)] _ _) _ _ _
 rw[HC]
 refine Ki (Ki (ZM.A1 ?_))
 by_cases z:n=m
 ·rw[decide_eq_true z]
  refine Ko ?_
  rw[ZM.lx,if_pos z]at q
  show Kr _ _ (forIn [(KO c,KO d)] _ _) _ _ _
  rw[HC]
  refine Ki (Ki ((PySem.W.keq_ints (A:=A) hc (allI ix).2.2 hd (allI iy).2.2 (by show A.units + 1 + 64 < cLine;omega)) _ _ _ _ ?_))
  by_cases y:ns=ms
  ·rw[decide_eq_true y]
   refine Ko ?_
   show Kr _ _ (forIn [] _ _) _ _ _
   rw[y,ZM.wH]at q
   exact Ko (Ko ⟨_,rfl,(fun z=>nomatch z),q⟩)
  rw[decide_eq_false y]
  refine LH (fun _=>?_) (fun c=>absurd rfl c)
  refine Ki (LW (Ki (DY hc hd ix iy (by show A.units + 1 < cLine;omega) (Ki (Ko (Ko ?_))))))
  exact Ko (Ko ⟨_,rfl,(fun z=>nomatch z),q⟩)
 rw[decide_eq_false z]
 rw[ZM.lx,if_neg z]at q
 refine LH (fun _=>?_) (fun c=>absurd rfl c)
 refine Ki (LW (Ki (Nz (op:=.Lt) (Mo s n t) (Mo s m u) OJ OA (Oi _ _) (OV n m t u) (fun z=>nomatch z) (Ki (Ko (Ko ?_))))))
 exact Ko (Ko ⟨_,rfl,(fun z=>nomatch z),q⟩)
end
end ZN
namespace L2
open PySem PySem.Spec PyProof.Rows
section
variable{X:Cx}
def DF(K:Kk)(H:Hp)(p:Kl)(k:Int × List Int):Prop:=∃ c,SqT K H p [.int k.1,.ref c]/\SqL K H c (k.2.map V.int)
def prk(k:Int × List Int):List Int:=k.1::k.2
def gbP(ks:List (Int × List Int))(i j:Nat):Bool:=ZM.lx (prk (ks.getD i (0,[]))) (prk (ks.getD j (0,[])))
theorem qv{k:Nat}(hr:Room k X.A)(hc:X.calm=true):bG X (.builtin "min") (fun xs H Q=>∃(a:Kl) (ps:List Kl) (ks:List (Int × List Int)),xs=[.ref a]/\SqL X.K H a (ps.map V.ref)/\ps≠[]/\ks.length=ps.length/\(∀(i:Nat) (p:Kl) (n:Int × List Int),ps[i]?=some p->ks[i]?=some n->DF X.K H p n)/\∀(i:Nat) (p:Kl) (m:Int × List Int),ps[i]?=some p->ks[i]?=some m->(∀ n,n∈ks->ZM.lx (prk n) (prk m)=false)->Q (.ref p) H):=by
 intro pins s σ H xs us Q I r h
 obtain⟨a,ps,ks,rfl,hq,hne,hl,ht,q⟩:=h
 obtain⟨u,rfl,ru⟩:=vals1 r
 cases ru
 obtain⟨its,rv,p,z⟩:=I.sq (b:=false) hq
 have ei:=qK rv
 subst ei
 have hlt:a < s.heap.objs.size:=by
  obtain⟨o,e,_⟩:=(show s.heap.IsList a _ from p)
  exact Ky e
 have hh:X.A.in1.handled=none:=I.ok.hd hc
 have hpos:0 < ps.length:=GL fun z=>hne (FH z)
 have es:((ps.map KO).toArray).size=ps.length:=by simp
 have tup:∀(i:Nat) (x:Kj),((ps.map KO).toArray)[i]?=some x->∃ c oc n m t d xs,x=.ref c/\s.heap.get? c=some oc/\oc.cls=.type "tuple"/\oc.data=.seq #[.int m.1 t,.ref d] n/\ks[i]?=some m/\s.heap.IsList d (List.toArray xs)/\ZM.IntsAre xs m.2:=fun i x hx=>by
  rw[GQ,A']at hx
  cases hp:ps[i]? with
  | none=>rw[hp]at hx;cases hx
  | some c=>
   rw[hp]at hx
   cases hx
   obtain⟨m,hm⟩:∃ m,ks[i]?=some m:=⟨_,b_ (by rw[hl];exact(c_.mp hp).1)⟩
   obtain⟨d,h1,h2⟩:=ht i c m hp hm
   obtain⟨its,rv,⟨oc,e,c1,n,dd⟩,_⟩:=I.tuple h1
   obtain⟨its2,rv2,l2,_⟩:=I.sq (b:=false) h2
   cases rv with
   | cons ra rv=>cases rv with
    | cons rb rv=>
     cases rv
     cases rb
     obtain⟨t,rfl⟩:=ra
     exact⟨c,oc,n,m,t,d,its2,rfl,e,c1,dd,hm,l2,gD rv2⟩
 have un:X.A.in1.in1.units + 70 < cLine:=by
  have:=hr.un
  show X.A.units + 1 + 1 + 70 < cLine
  omega
 have un1:X.A.in1.units + 70 < cLine:=by
  have:=hr.un
  show X.A.units + 1 + 70 < cLine
  omega
 have cm:∀ A:KN,A.units + 70 < cLine->ZN.Cm X.prog X.w A s.heap (ps.map KO).toArray (gbP ks):=fun A hA i j x y z Q E hx hy kt qq=>by
  obtain⟨c,oc,n,m,t,d,xs,rfl,e1,c1,d1,m1,l1,i1⟩:=tup i x hx
  obtain⟨c',oc',n',m',t',d',xs',rfl,e2,c2,d2,m2,l2,i2⟩:=tup j y hy
  have k1:z.heap.IsList d xs.toArray:=by obtain⟨o,e,r⟩:=l1;exact⟨o,kt _ _ e,r⟩
  have k2:z.heap.IsList d' xs'.toArray:=by obtain⟨o,e,r⟩:=l2;exact⟨o,kt _ _ e,r⟩
  refine ZN.DQ (kt c oc e1) c1 d1 (kt c' oc' e2) c2 d2 k1 k2 i1 i2 hA ?_
  unfold gbP prk at qq
  rw[x_,x_,m1,m2]at qq
  exact qq
 have fin:∀(y:Kj) (h':KH) (tk:Nat),((ps.map KO).toArray)[Lw (gbP ks) (((ps.map KO).toArray).size - 1)]?=some y->(∀ b o,s.heap.get? b=some o->h'.get? b=some o)->EP X pins σ Q y { s with heap:=h',toks:=tk }:=fun y h' tk hy kk=>by
  obtain⟨b1,b2⟩:=ZM.sC (bt:=gbP ks) (fun i j k h1 h2=>ZM.wu h1 h2) (fun i=>ZM.wH _) (((ps.map KO).toArray).size - 1)
  rw[es]at b1 b2 hy
  rw[GQ,A']at hy
  generalize Lw (gbP ks) (ps.length - 1)=i at *
  cases hp:ps[i]? with
  | none=>rw[hp]at hy;cases hy
  | some c=>
   rw[hp]at hy
   cases hy
   obtain⟨m,hm⟩:∃ m,ks[i]?=some m:=⟨_,b_ (by rw[hl];exact(c_.mp hp).1)⟩
   refine⟨.ref c,H,I.kept (t':=tk) kk,rfl,q i c m hp hm fun n mn=>?_⟩
   obtain⟨j,hj,rfl⟩:=Gv.mp mn
   have:=b2 j (by omega)
   unfold gbP at this
   rw[x_,x_,hm,b_ hj]at this
   exact this
 have nm:(toString "min"++toString ".loop":String)="min.loop":=by decide
 refine call_function_tree Py O' Pa (PySem.F.args_min1 _) ?_
 show Kr _ X.A.in1 (L3 "min" ["key","default"] 0 ⟨[],[]⟩ >>= _) _ _ s
 refine Ki (Mq (show L3 "min" ["key","default"] 0 ⟨[],[]⟩=pure [none,none]from rfl) (Ki (Ko (Ki ?_))))
 refine ZG.y4 (b:=false) p fun g d gs gk=>?_
 refine Ki (K7 ?_)
 rw[nm]
 have tk:∀ c o,s.heap.get? c=some o->c ∉ [s.heap.objs.size]/\c≠g.objs.size:=fun c o e=>by
  have h1:@R0 Nat instLTNat c s.heap.objs.size:=Ky e
  refine⟨fun z=>w_ h1 (A_.mp z),?_⟩
  rw[gs]
  show ¬(_:Nat)=_
  omega
 have off:g.objs.size ∉ [s.heap.objs.size,a]:=fun z=>by
  rw[gs]at z
  have h1:@R0 Nat instLTNat a s.heap.objs.size:=hlt
  rcases t_.mp z with z | z
  ·exact absurd z (by show ¬(_:Nat)=_;omega)
  exact absurd (A_.mp z) (by show ¬(_:Nat)=_;omega)
 have last:∀(y:Kj) (h':KH) (t:Nat),((ps.map KO).toArray)[Lw (gbP ks) (((ps.map KO).toArray).size - 1)]?=some y->(∀ c o,c ∉ [s.heap.objs.size]->c≠g.objs.size->(g.push { cls:=.type "list",data:=.seq ([]:List Kj).toArray }).get? c=some o->h'.get? c=some o)->EP X pins σ Q y { s with heap:=h',toks:=t }:=fun y h' t hy kk=>fin y h' t hy fun c o e=>
  kk c o (tk c o e).1 (tk c o e).2 (Kn _ (gk c o e))
 refine Ko ⟨Lu Ld _,?_⟩
 refine ZN.EN (NC hh s.heap.objs.size a (w_ hlt) (ps.map KO).toArray) (cm _ un1) g.objs.size off tk (by rw[es];exact hpos) ⟨?_,?_⟩ (fun c o e=>Kn _ (gk c o e)) (Kt _ rfl) last
 ·obtain⟨o,e,r⟩:=(show g.IsListIter s.heap.objs.size a 0 from d)
  exact⟨o,Kn _ e,r⟩
 obtain⟨o,e,r⟩:=(show s.heap.IsList a _ from p)
 exact⟨o,Kn _ (gk _ o e),r⟩
def gbI(ns:List Int)(i j:Nat):Bool:=decide (ns.getD i 0 < ns.getD j 0)
theorem yN{prog:Kz}{w:KD}{A:KN}{E:Kj->Km->Prop}{s:Km}{id:String}{b:LC}{args:List Kj}{kw:List (Str × Kj)}{Q:Kj->Km->Prop}(hk:builtinKind id=none)(hp:plainId id=true)(hb:Pu RY id=some b)(ha:NQ id ⟨args,kw⟩)
  (hc:Kr (Kw prog w) A.in1 (b ⟨args,kw⟩) (fun fin z=>match fin with
   | .done f=>(match(Except.ok f:OP)with | .ok (.ret v)=>Q v z | .ok _=>False | .error e=>E e z)
   | .again c=>c.quiet=true/\LQ (Kw prog w) A c (fun r y=>match r with | .ok (.ret v)=>Q v y | .ok _=>False | .error e=>E e y) z) E s):Kr (Kw prog w) A (call (.builtin id) args kw) Q E s:=by
 refine PN (Oy hp hb ?_)
 simp only[Pw,hk]
 cases hsig:R8 id with
 | none=>exact Ko hc
 | some sig=>
  have e:Bind.checkArgs id sig ⟨args,kw⟩=pure ():=by simpa only[NQ,hsig]using ha
  simp only[e]
  exact Ko hc
theorem uf(x y:Kj):NQ "min" ⟨[x],[(Ls "default",y)]⟩:=by unfold NQ;kernel_rfl
theorem vO{pins:List (Kl × Obj)}{σ:St}{H:Hp}{s:Km}{a:Kl}{ns:List Int}{n0:Int}{t0:Tok}{Q:V->Hp->Prop}(hc:X.calm=true)(I:Inv X pins σ H s)(hq:SqL X.K H a (ns.map V.int))(q:∀ m,(ns=[]/\m=n0\/m∈ns/\∀ n∈ns,m<=n)->Q (.int m) H) :
  Kr (Kw X.prog X.w) X.A (call (.builtin "min") [.ref a] [(Ls "default",.int n0 t0)]) (EP X pins σ Q) X.xe s:=by
 obtain⟨its,rv,p,z⟩:=I.sq (b:=false) hq
 have ia:=gD rv
 have hll:=ZM.Dk ia
 have hlt:a < s.heap.objs.size:=by
  obtain⟨o,e,_⟩:=(show s.heap.IsList a _ from p)
  exact Ky e
 have hh:X.A.in1.handled=none:=I.ok.hd hc
 have at_:∀ {l:List Kj} {n:List Int},ZM.IntsAre l n->∀(i:Nat) (x:Kj),l[i]?=some x->∃ m t,x=.int m t/\n[i]?=some m:=by
  intro l
  induction l with
  | nil=>intro n h i x e;simp at e
  | cons v l ih=>
   intro n h i x e
   cases n with
   | nil=>exact h.elim
   | cons m n=>
    cases i with
    | zero=>obtain⟨⟨t,rfl⟩,_⟩:=h;cases e;exact⟨m,t,rfl,rfl⟩
    | succ i=>exact ih h.2 i x e
 have cm:∀ A:KN,ZN.Cm X.prog X.w A s.heap its.toArray (gbI ns):=fun A i j x y z Q E hx hy kt qq=>by
  rw[GQ]at hx hy
  obtain⟨m,t,rfl,e1⟩:=at_ ia i x hx
  obtain⟨m',t',rfl,e2⟩:=at_ ia j y hy
  refine Nz (op:=.Lt) (Mo z m t) (Mo z m' t') OJ OA (Oi _ _) (OV m m' t t') (fun z=>nomatch z) ?_
  unfold gbI at qq
  rw[x_,x_,e1,e2]at qq
  exact qq
 have nm:(toString "min"++toString ".loop":String)="min.loop":=by decide
 refine yN Py O' Pa (uf _ _) ?_
 show Kr _ X.A.in1 (L3 "min" ["key","default"] 0 ⟨[],[(Ls "default",.int n0 t0)]⟩ >>= _) _ _ s
 refine Ki (Mq (show L3 "min" ["key","default"] 0 ⟨[],[(Ls "default",.int n0 t0)]⟩=pure [none,some (.int n0 t0)]from rfl) (Ki (Ko (Ki ?_))))
 refine ZG.y4 (b:=false) p fun g d gs gk=>?_
 refine Ki (K7 ?_)
 rw[nm]
 have tk:∀ c o,s.heap.get? c=some o->c ∉ [s.heap.objs.size]/\c≠g.objs.size:=fun c o e=>by
  have h1:@R0 Nat instLTNat c s.heap.objs.size:=Ky e
  refine⟨fun z=>w_ h1 (A_.mp z),?_⟩
  rw[gs]
  show ¬(_:Nat)=_
  omega
 have off:g.objs.size ∉ [s.heap.objs.size,a]:=fun z=>by
  rw[gs]at z
  have h1:@R0 Nat instLTNat a s.heap.objs.size:=hlt
  rcases t_.mp z with z | z
  ·exact absurd z (by show ¬(_:Nat)=_;omega)
  exact absurd (A_.mp z) (by show ¬(_:Nat)=_;omega)
 refine Ko ⟨Lu Ld _,?_⟩
 have st1:(g.push { cls:=.type "list",data:=.seq ([]:List Kj).toArray }).IsListIter s.heap.objs.size a 0:=by
  obtain⟨o,e,r⟩:=(show g.IsListIter s.heap.objs.size a 0 from d)
  exact⟨o,Kn _ e,r⟩
 have st2:(g.push { cls:=.type "list",data:=.seq ([]:List Kj).toArray }).IsList a its.toArray:=by
  obtain⟨o,e,r⟩:=(show s.heap.IsList a _ from p)
  exact⟨o,Kn _ (gk _ o e),r⟩
 by_cases hn:ns=[]
 ·subst hn
  have ei:its=[]:=FH hll
  subst ei
  exact ZN.EW (NC hh s.heap.objs.size a (w_ hlt) ([]:List Kj).toArray) g.objs.size off ⟨st1,st2⟩ (Kt _ rfl) fun h' t kk=>⟨.int n0,H,I.kept (t':=t) fun c o e=>kk c o (tk c o e).1 (Kn _ (gk c o e)),⟨_,rfl⟩,q n0 (.inl ⟨rfl,rfl⟩)⟩
 have hpos:0 < its.toArray.size:=by
  rw[l_,hll]
  exact GL fun z=>hn (FH z)
 refine ZN.EN (NC hh s.heap.objs.size a (w_ hlt) its.toArray) (cm _) g.objs.size off tk hpos ⟨st1,st2⟩ (fun c o e=>Kn _ (gk c o e)) (Kt _ rfl) fun y h' t hy kk=>?_
 have kk':∀ c o,s.heap.get? c=some o->h'.get? c=some o:=fun c o e=>kk c o (tk c o e).1 (tk c o e).2 (Kn _ (gk c o e))
 obtain⟨b1,b2⟩:=ZM.sC (bt:=gbI ns) (fun i j k h1 h2=>by
  unfold gbI at h1 h2 ⊢
  have h1:=of_decide_eq_true h1
  have h2:=of_decide_eq_true h2
  exact decide_eq_true (by omega)) (fun i=>by unfold gbI;exact decide_eq_false (by omega)) (its.toArray.size - 1)
 rw[GQ]at hy
 obtain⟨m,t',rfl,em⟩:=at_ ia _ _ hy
 refine⟨.int m,H,I.kept (t':=t) kk',⟨_,rfl⟩,q m (.inr ⟨C_ em,fun n hm=>?_⟩)⟩
 obtain⟨j,hj,rfl⟩:=Gv.mp hm
 have this:decide (ns.getD j 0 < ns.getD (Lw (gbI ns) (its.toArray.size - 1)) 0)=false:=b2 j (by rw[l_,hll];omega)
 rw[x_,x_,em,b_ hj]at this
 have:=of_decide_eq_false this
 exact Int.not_lt.mp this
theorem yQ{e:KC}{te:TE}{p1 pos1 kp vp:Pos}{kn:Nat}{n0:Int}(hc:X.calm=true)(hg1:Gl X "min")(hm1:X.mg "min"=none)(he:PE X e te)(hs1:KG [e] X.env=[(false,KR e X.env)]:=by rfl) :
  PE X (.Call (.Name "min" p1) [e] [⟨some "default",(.Constant (.int n0) kn vp),kp⟩] pos1) (fun σ H Q=>te σ H fun x H1=>∃ a ns,x=.ref a/\SqL X.K H1 a (ns.map V.int)/\∀ m,(ns=[]/\m=n0\/m∈ns/\∀ n∈ns,m<=n)->Q (.int m) H1):=by
 intro pins s σ H Q I h
 refine Lz (bQ I hg1 hm1 boot_min (callWith_kw ?_ (by rw[hs1];rfl) (by rw[hs1];rfl) rfl rfl))
 rw[hs1]
 refine Mn (thn (he pins s σ H _ I h) ?_)
 rintro u s1 ⟨x,H1,I1,r1,l,ns,ex,hl,q⟩
 subst ex
 cases r1
 refine Ko ?_
 refine kws_cons (OL (kws_nil ?_))
 show Kr _ _ (call (.builtin "min") [.ref l] [(Ls "default",.int n0 _)]) _ _ _
 exact vO hc (I1.tok _) hl q
end
end L2
namespace PL
open PySem PySem.Spec PyProof.Rows L2
def EF:P2
 | .int i,.int j,k=>k (.int (LR i j))
 | _,_,_=>False
noncomputable def rL:PM
 | .lst true ts,[.int i],k=>(0<=i/\i < 2 ^ 60)/\got (ts[i.toNat]?) fun t=>k (.lst true (ts.eraseIdx i.toNat)) t
 | _,_,_=>False
def wZ:P2
 | .lst true [t],.int n,k=>(0<=n/\n<=100000)/\k (.lst true (s_ n.toNat (er t)))
 | _,_,_=>False
noncomputable def mnD(n0:Int):T->(T->Prop)->Prop
 | .lst _ ts,k=>got (intsOf ts) fun ns=>∀ m,(ns=[]/\m=n0\/m∈ns/\∀ n∈ns,m<=n)->k (.int m)
 | _,_=>False
def zW:T->Option (Int × List Int)
 | .tup [.int n,.lst _ ts]=>(intsOf ts).map fun ns=>(n,ns)
 | _=>none
noncomputable def iU:List T->Option (List (Int × List Int))
 | []=>some []
 | t::r=>match zW t,iU r with
  | some k,some ks=>some (k::ks)
  | _,_=>none
noncomputable def Dq:P1s:=fun ts k=>match ts with
 | [.lst _ us]=>got (iU us) fun ks=>us≠[]/\∀(i:Nat) u m,us[i]?=some u->ks[i]?=some m->(∀ n∈ks,ZM.lx (prk n) (prk m)=false)->k u
 | _=>False
def F5:PSt:=fun _ _=>False
section
variable{X:Cx}{pos:Pos}{e:KC}{es:List KC}{fe:PF}{fr:PFs}{m:PM}{name:Str}{id:String}{apos cpos spos xp yp kp vp p1 pos1:Pos}{x:Str}{κ:Nat->Bool}{kn:Nat}
theorem Ee:PIp X .BitOr (ipI fun i j=>LR i j):=by
 intro pins s σ H x y v u Q I r1 r2 h
 obtain⟨i,j,e1,e2,q⟩:=h
 subst e1;subst e2
 obtain⟨t,rfl⟩:=r1
 obtain⟨t',rfl⟩:=r2
 exact ior_int ⟨.int _,H,I.tok _,⟨_,rfl⟩,q⟩
theorem qI:IpP X .BitOr EF:=by
 rintro pins s σ H x y v u Q I rx ry ⟨tx,ty,Γ,k,rp,g,c⟩
 cases tx <;> cases ty <;> first | exact KJ g | skip
 rename_i i j
 rw[aM rp]at ry
 rw[aM rp.tail]at rx
 exact Ee pins s σ H _ _ v u Q I rx ry ⟨i,j,rfl,rfl,c _ _ _ g (b9 rp.tail.tail fun _=>.int)⟩
theorem lK:∀ {ts:List T} {vs:List V} {i:Nat} {t:T} {w:V},ts[i]?=some t->vs[i]?=some w->(zz ts vs).Perm ((t,some w)::zz (ts.eraseIdx i) (vs.eraseIdx i))
 | [],vs,i,t,w,e,f=>by simp at e
 | t::ts,[],i,_,w,e,f=>by simp at f
 | t::ts,v::vs,0,u,w,e,f=>by cases e;cases f;exact .refl _
 | t::ts,v::vs,i + 1,u,w,e,f=>((lK (ts:=ts) (vs:=vs) (i:=i) e f).cons _).trans (.swap _ _ _)
theorem uA:MtP X "list.pop" rL:=by
 rintro pins s σ H x xs v us Q I rx r ⟨t,ts,Γ,k,l,rp,g,c⟩
 unfold rL at g
 split at g
 ·rename_i k ts i
  obtain⟨y,rfl⟩:=zz1 l rfl
  obtain⟨⟨h0,h1⟩,g⟩:=g
  obtain⟨t,et,kt⟩:=az g
  obtain⟨a,vs,ea,ha,la,rp2⟩:=bY rp
  cases ea
  have hy:y=.int i:=aM (rp2.perm ((p_ _ _ _).cons _ |>.trans (.swap _ _ _)))
  subst hy
  have hi:i.toNat < ts.length:=(c_.mp et).1
  obtain⟨w,ew⟩:=n9 la et
  refine xo pins s σ H _ _ v us Q I rx r ⟨a,vs,i,i.toNat,w,rfl,rfl,ha,by omega,by omega,Qd h0 (by rw[<-la];omega),ew,c _ _ _ _ kt ?_⟩
  have rp3:Rp X.K H ((.bare,some (.ref a))::(zz ts vs++Γ)):=by
   have:Rp X.K H ((.int i,some (.int i))::((.bare,some (.ref a))::(zz ts vs++Γ))):=rp2.perm (by
    refine r_ (.cons _ d_) ?_
    exact .swap _ _ _)
   exact this.tail
  have rp4:Rp X.K H ((.bare,some (.ref a))::(zz (ts.eraseIdx i.toNat) (vs.eraseIdx i.toNat)++((t,some w)::Γ))):=rp3.perm (.cons _ (((lK et ew).append_right Γ).trans d_.symm))
  exact(cn rp4 (by rw[Jr,Jr,la]) Put.up).perm (.swap _ _ _)
 exact KJ g
theorem tm{H:Hp}{t:T}{v:V}{Γ:Fm}(n:aN t=true):∀(k:Nat),Rp X.K H ((t,some v)::Γ)->Rp X.K H (zz (s_ k t) (s_ k v)++((t,some v)::Γ))
 | 0,h=>h
 | k + 1,h=>by
  have:=tm n k h
  have h2:=iD (this.perm (d_ (l₁:=zz (s_ k t) (s_ k v)))) n
  exact h2.perm (.cons _ d_.symm)
theorem wa:OpP X (Lf .Mult) wZ:=by
 rintro pins s σ H x y v u Q I rx ry ⟨tx,ty,Γ,k,rp,g,c⟩
 unfold wZ at g
 split at g
 ·rename_i k t n
  rw[aM rp]at ry
  obtain⟨a,vs,ea,ha,la,rp2⟩:=bY rp.tail
  cases ea
  cases vs with
  | nil=>cases la
  | cons w vs=>
   cases vs with
   | cons _ _=>cases la
   | nil=>
    have rp3:Rp X.K H ((t,some w)::Γ):=rp2.tail
    have rp4:=tm (bq t) n.toNat (mW rp3)
    have rp5:Rp X.K H (zz (s_ n.toNat (er t)) (s_ n.toNat w)++Γ):=(rp4.perm d_).tail
    have sz:n.toNat<=sizeLine:=by rw[K5];omega
    refine Dl pins s σ H _ _ v u Q I rx ry ⟨a,n,[w],rfl,rfl,ha,by omega,by omega,by rw[GN,Nat.one_mul];exact sz,fun p hp=>c _ _ _ g.2 ?_⟩
    have ef:(s_ n.toNat [w]).flatten=s_ n.toNat w:=by
     generalize n.toNat=j
     induction j with
     | zero=>rfl
     | succ j ih=>rw[Ge,Hd,ih,Ge];rfl
    rw[ef]
    exact fy rp5 (by rw[Hf,Hf]) hp (aO hp _) ax
 exact KJ g
theorem Aq{n0:Int}(hc:X.calm=true)(hg1:Gl X "min")(hm1:X.mg "min"=none)(he:GE X e fe)(hs1:KG [e] X.env=[(false,KR e X.env)]:=by rfl) :
  GE X (.Call (.Name "min" p1) [e] [⟨some "default",.Constant (.int n0) kn vp,kp⟩] pos1) (fUn (mnD n0) fe):=by
 refine PE.imp (yQ hc hg1 hm1 he hs1) ?_
 rintro σ H Q ⟨env,Fr,k,rs,q,c⟩
 refine⟨env,Fr,_,rs,q,fun t env1 v H1 q1 rs1=>?_⟩
 cases t <;> first | exact KJ q1 | skip
 obtain⟨ns,en,g⟩:=az q1
 have:=eP en
 subst this
 obtain⟨a,vs,rfl,hq,l,rp⟩:=aB rfl rs1.head
 have:=eJ l rp
 subst this
 exact⟨a,ns,rfl,hq,fun m hm=>c _ _ _ _ (g m hm) (.of rs1.1 (b9 rs1.drop.2 fun _=>.int))⟩
theorem xV{K:Kk}{H:Hp}:∀ {us:List T} {vs:List V} {ks:List (Int × List Int)} {Γ:Fm},iU us=some ks->us.length=vs.length->Rp K H (zz us vs++Γ)->∃ ps:List Kl,vs=ps.map V.ref/\ks.length=ps.length/\∀(i:Nat) (p:Kl) (n:Int × List Int),ps[i]?=some p->ks[i]?=some n->DF K H p n:=by
 intro us
 induction us with
 | nil=>
  intro vs ks Γ e l rp
  cases e
  cases vs with
  | nil=>exact⟨[],rfl,rfl,fun i p n h=>by cases h⟩
  | cons v vs=>cases l
 | cons t us ih=>
  intro vs ks Γ e l rp
  cases vs with
  | nil=>cases l
  | cons v vs=>
   rw[iU]at e
   cases h1:zW t with
   | none=>rw[h1]at e;cases e
   | some k=>
    cases h2:iU us with
    | none=>rw[h1,h2]at e;cases e
    | some ks'=>
     rw[h1,h2]at e
     cases e
     have rp:Rp K H ((t,some v)::(zz us vs++Γ)):=rp
     obtain⟨ps,rfl,e2,e3⟩:=ih h2 (GJ l) rp.tail
     obtain⟨n,o,ts,rfl,ei⟩:∃ n o ts,t=.tup [.int n,.lst o ts]/\(intsOf ts).map (fun ns=>(n,ns))=some k:=by
      unfold zW at h1
      split at h1
      ·exact⟨_,_,_,rfl,h1⟩
      cases h1
     cases en:intsOf ts with
     | none=>rw[en]at ei;cases ei
     | some ns=>
      rw[en]at ei
      cases ei
      have:=eP en
      subst this
      obtain⟨a,ws,rfl,ha,l2,rp2⟩:=gX rp
      match ws,l2,ha,rp2 with
      | [w1,w2],_,ha,rp2=>
       have rp2:Rp K H ((.int n,some w1)::(.lst o (ns.map T.int),some w2)::(zz us (ps.map V.ref)++Γ)):=rp2
       have:=aM rp2
       subst this
       obtain⟨c,xs,rfl,hq,l3,rp3⟩:=aB rfl rp2.tail
       have:=eJ l3 rp3
       subst this
       refine⟨a::ps,rfl,by rw[k_,k_,e2],fun i p q hp hn=>?_⟩
       cases i with
       | zero=>cases hp;cases hn;exact⟨c,SqT.of ha,hq⟩
       | succ i=>exact e3 i p q hp hn
theorem qr{k:Nat}(hr:Room k X.A)(hc:X.calm=true):jS X (.builtin "min") Dq:=by
 rintro pins s σ H xs us Q I r ⟨ts,Γ,k,l,rp,g,c⟩
 unfold Dq at g
 split at g
 ·rename_i o us'
  obtain⟨x,rfl⟩:=zz1 l rfl
  have rp:Rp X.K H ((.lst o us',some x)::Γ):=rp
  obtain⟨ks,ek,ne,kt⟩:=az g
  obtain⟨a,vs,rfl,hq,l2,rp2⟩:=aB rfl rp
  obtain⟨ps,rfl,e2,e3⟩:=xV ek l2 rp2
  refine qv hr hc pins s σ H _ us Q I r ⟨a,ps,ks,rfl,hq,fun z=>ne (FH (by rw[l2,z];rfl)),e2,e3,fun i p m hp hm hb=>?_⟩
  obtain⟨u,hu⟩:∃ u,us'[i]?=some u:=⟨_,b_ (by rw[l2,a_];exact(c_.mp hp).1)⟩
  obtain⟨rest,pm⟩:=mB hu (show(ps.map V.ref)[i]?=some (.ref p) by rw[A',hp];rfl)
  have rp3:Rp X.K H ((u,some (.ref p))::(rest++Γ)):=rp2.perm (pm.append_right Γ)
  exact c _ _ _ (kt i u m hu hm hb) ((rp3.perm (d_ (l₁:=rest)).symm).part)
 exact g.elim
theorem yj{st:K8}:GS κ X st F5:=by
 rintro pins s σ H D I ⟨env,Fr,pe,rs,q,c⟩
 exact q.elim
noncomputable def nJ(i:Nat)(j:Int)(m:PM)(fr:PFs):PF:=fun env k=>∃ us p t,env[i]?=some (.tup us)/\ixN us.length j=some p/\us[p]?=some t/\isL t=true/\fr (env.set i .any) fun ts env1=>m t ts fun t' r=>k r (env1.set i (.tup (us.set p t')))
theorem lN{K:Kk}{Hz H:Hp}:∀(vs:List V),RepTs K Hz H (vs.map T.hole) vs []
 | []=>.nil
 | _::vs=>.cons (L:=[]) (M:=[]) rfl .hole (lN vs)
theorem AB{i:Nat}{j:Int}:∀ σ H Q,wE X.K (nJ i j m fr) σ H Q->tBM X.K "list" (fun x xs H Q=>∃ t ts Γ k,ts.length=xs.length/\Rp X.K H ((t,some x)::(zz ts xs++Γ))/\m t ts k/\∀ t' r v H',k t' r->Rp X.K H' ((r,some v)::(t',some x)::Γ)->Q v H') (tOp (Bw X.K) (zu i) (tC (.int j))) (wA X.K fr) σ H Q:=by
 rintro σ H Q ⟨env,Fr,k,rs,⟨us,p,t,ei,ep,et,hl,q⟩,c⟩
 obtain⟨x0,ex,rs2⟩:=rs.slot ei
 obtain⟨v0,rfl⟩:=bO rs2 rfl
 obtain⟨a,vs,rfl,ha,l,rp⟩:=gX rs2.head
 have rs3:Rs X.K H (env.set i .any) σ ((.tup (vs.map T.hole),some (.ref a))::(zz us vs++Fr)):=.of rs2.1 (b9 (rp.perm (p_ _ _ _)) fun _=>.tup ha (lN vs))
 have hp:p < us.length:=(c_.mp et).1
 have ew:vs[p]?=some (vs[p]'(by omega)):=b_ _
 obtain⟨r,p1,p2⟩:=AL et ew
 refine⟨_,ex,a,vs,j,vs[p],rfl,rfl,SqT.of ha,?_,?_,env.set i .any,_,_,rs3,q,fun ts env1 ws H1 q1 l1 rs1=>?_⟩
 ·have ep2:ixN vs.length j=some p:=by rw[<-l];exact ep
  unfold atI
  rw[ep2]
  exact ew
 ·refine tN hl (Γ:=r++((.tup (vs.map T.hole),some (.ref a))::((env.set i .any).zip σ++Fr))) (rs3.2.perm ?_)
  refine r_ d_ ?_
  refine r_ ?_ (d_ (l₁:=(t,some vs[p])::r)).symm
  refine .cons _ ?_
  refine r_ (p_ _ _ _) ?_
  exact p1.append_right _
 refine⟨t,ts,env1.zip σ++((.tup (vs.map T.hole),some (.ref a))::(r++Fr)),_,l1,?_,q1,fun t' r' w H' kt rp5=>c _ _ _ _ kt ?_⟩
 ·refine rs1.2.perm ?_
  refine r_ (p_ _ _ _) ?_
  refine r_ ?_ d_
  refine FQ _ ?_
  refine r_ ?_ d_
  refine FQ _ ?_
  refine r_ (.cons _ (p1.append_right Fr)) ?_
  exact .swap _ _ _
 have rp6:Rp X.K H' ((.tup (vs.map T.hole),some (.ref a))::(zz (us.set p t') vs++((r',some w)::(env1.zip σ++Fr)))):=by
  refine rp5.perm ?_
  refine r_ (.swap _ _ _) ?_
  refine r_ ?_ (.cons _ ((p2 t').symm.append_right _))
  refine r_ ?_ (.swap _ _ _)
  refine .cons _ ?_
  refine r_ (.cons _ d_) ?_
  refine r_ (.swap _ _ _) (.cons _ ?_)
  refine r_ (.cons _ (p_ _ _ _)) ?_
  exact d_.symm
 obtain⟨a',vs',ea,ha',l',rp7⟩:=gX rp6
 cases ea
 rw[a_]at l'
 have ev:=qx rp7 l'
 subst ev
 have rp8:=fB rp6.tail (by rw[FJ];exact l) (fun _ _ h=>h) ha'
 have rs8:Rs X.K H' env1 σ ((.tup (us.set p t'),some (.ref a))::((r',some w)::Fr)):=.of rs1.1 (rp8.perm (.cons _ d_.symm))
 exact Rs.eY rs8 (by rw[rs8.1];exact(c_.mp ex).1) ex
theorem ug(i:Nat){j:Int}(slot:Qg "list" name id)(hty:PV (.builtin id)=pure (.type "method_descriptor"))(hm:MtP X id m)(ha:GA X (e::es) fr)(hN:X.N[i]?=some x:=by rfl)(hv:Vis X.env.scope x:=by first | exact j' rfl | exact j_ (j' rfl) | exact j_ (j_ rfl))(hd:(x ==("__debug__":Str))=false:=by decide)(hcd:(x ==("__classdict__":Str))=false:=by decide)
  (hix:jv (.Constant (.int j) kn yp):=by intro _ _;rfl)
  (hbase:M6 (.Subscript (.Name x xp) (.Constant (.int j) kn yp) spos) name X.env (KR (.Subscript (.Name x xp) (.Constant (.int j) kn yp) spos) X.env)=KR (.Subscript (.Name x xp) (.Constant (.int j) kn yp) spos) X.env:=by rfl)
  (hfew:((Mc cpos (KG (e::es) X.env)).all (fun x=>!x.1) && (Rk cpos (Pe [] X.env)).all (fun x=>x.1.isSome) && decide ((e::es).length + ([]:List Oc).length + (if([]:List Oc).isEmpty then 0 else 1) < 30))=true:=by rfl)
  (hline:(apos.endLine == cpos.line)=true:=by rfl) (hs:KG (e::es) X.env=(false,KR e X.env)::KG es X.env:=by rfl) (hplain:(Mc cpos (KG es X.env)).any (·.1)=false:=by rfl) :
  GE X (.Call (.Attribute (.Subscript (.Name x xp) (.Constant (.int j) kn yp) spos) name apos) (e::es) [] cpos) (nJ i j m fr):=PE.imp (AX MV slot hty hm (sk qD (d8 hN hv hd hcd) aZ hix) ha hbase hfew hline hs hplain) AB
theorem qG(i:Nat){j:Int}(slot:Qg "list" name id)(hty:PV (.builtin id)=pure (.type "method_descriptor"))(hm:MtP X id m)(hN:X.N[i]?=some x:=by rfl)(hv:Vis X.env.scope x:=by first | exact j' rfl | exact j_ (j' rfl) | exact j_ (j_ rfl))(hd:(x ==("__debug__":Str))=false:=by decide)(hcd:(x ==("__classdict__":Str))=false:=by decide)
  (hix:jv (.Constant (.int j) kn yp):=by intro _ _;rfl)
  (hbase:M6 (.Subscript (.Name x xp) (.Constant (.int j) kn yp) spos) name X.env (KR (.Subscript (.Name x xp) (.Constant (.int j) kn yp) spos) X.env)=KR (.Subscript (.Name x xp) (.Constant (.int j) kn yp) spos) X.env:=by rfl)
  (hline:(apos.endLine == cpos.line)=true:=by rfl) :
  GE X (.Call (.Attribute (.Subscript (.Name x xp) (.Constant (.int j) kn yp) spos) name apos) [] [] cpos) (nJ i j m Dn):=by
 refine PE.imp (Dc MV slot hty hm (sk qD (d8 hN hv hd hcd) aZ hix) hbase hline) fun σ H Q h=>?_
 obtain⟨v,ev,p,xs,i',w,h1,h2,h3,h4,ty,env,Fr,k,rs,q,c⟩:=AB σ H Q h
 exact⟨v,ev,p,xs,i',w,h1,h2,h3,h4,ty,c [] env [] H q rfl rs⟩
end
theorem fX{i j:Int}{k:T->Prop}:EF (.int i) (.int j) k=k (.int (LR i j)):=rfl
theorem cQ{ts:List T}{i:Int}{k:T->T->Prop}:rL (.lst true ts) [.int i] k=((0<=i/\i < 2 ^ 60)/\bU (ts[i.toNat]?) (k:=⟨fun t=>k (.lst true (ts.eraseIdx i.toNat)) t⟩)):=rfl
theorem dP{t:T}{n:Int}{k:T->Prop}:wZ (.lst true [t]) (.int n) k=((0<=n/\n<=100000)/\k (.lst true (s_ n.toNat (er t)))):=rfl
theorem k9{n0:Int}{o:Bool}{ts:List T}{k:T->Prop}:mnD n0 (.lst o ts) k=bU (intsOf ts) (k:=⟨fun ns=>∀ m,(ns=[]/\m=n0\/m∈ns/\∀ n∈ns,m<=n)->k (.int m)⟩):=rfl
theorem gm{o:Bool}{us:List T}{k:T->Prop}:Dq [.lst o us] k=bU (iU us) (k:=⟨fun ks=>us≠[]/\∀(i:Nat) u m,us[i]?=some u->ks[i]?=some m->(∀ n∈ks,ZM.lx (prk n) (prk m)=false)->k u⟩):=rfl
end PL
namespace Mp
open PySem L2
def top(i:Nat):K8:=PySem.Challenge.pw_millpath_k58_least_takes_and_first_order.main.body.getD i (.Pass ⟨0,0,0,0⟩)
abbrev iu:K8:=top 4
abbrev k8:K8:=top 5
abbrev fw:K8:=top 6
abbrev iI:K8:=top 7
abbrev nB:K8:=top 8
abbrev fA:K8:=top 9
abbrev cx:K8:=top 11
abbrev ck:K8:=top 12
abbrev bH:K8:=top 13
abbrev ff:K8:=top 14
abbrev jw:K8:=top 16
abbrev mV:K8:=top 17
abbrev s_same:K8:=top 18
abbrev rP:K8:=top 19
abbrev fv:K8:=top 20
abbrev gP:K8:=top 21
abbrev kc:K8:=top 22
abbrev dO:K8:=top 23
abbrev dR:K8:=top 24
theorem o9{kvs:List (Key × V)}{k:Key}{v:V}:bR ((k,v)::kvs) k=some v:=by
 unfold bR
 rw[FY,show(decide ((k,v).1=k))=true from decide_eq_true rfl]
 rfl
theorem lQ{kvs:List (Key × V)}{k k':Key}{v:V}(h:¬ k=k'):bR ((k,v)::kvs) k'=bR kvs k':=by
 unfold bR
 rw[FY,show(decide ((k,v).1=k'))=false from decide_eq_false h]
theorem key_ne:¬((KQ (some ("cells":Str)):Key)=KQ (some ("turn":Str))):=by decide +kernel
def stK(c:Kl)(t:Int):List (Key × V):=[(KQ (some ("cells":Str)),V.ref c),(KQ (some ("turn":Str)),V.int t)]
theorem qc(c:Kl)(t:Int):bR (stK c t) (KQ (some ("cells":Str)))=some (.ref c):=o9
theorem sP(c:Kl)(t:Int):bR (stK c t) (KQ (some ("turn":Str)))=some (.int t):=by
 unfold stK
 rw[lQ key_ne]
 exact o9
theorem D8(c:Kl)(t u:Int):putK (stK c t) (KQ (some ("turn":Str))) (.int u)=stK c u:=by
 have e:((stK c t).any fun kv=>decide (kv.1=(KQ (some ("turn":Str)):Key)))=true:=by
  rw[fO,sP];rfl
 unfold putK
 rw[if_pos e]
 show [(if(KQ (some ("cells":Str)):Key)=KQ (some ("turn":Str))then _ else _),(if(KQ (some ("turn":Str)):Key)=KQ (some ("turn":Str))then _ else _)]=stK c u
 rw[if_neg key_ne,if_pos rfl]
 rfl
structure StAt (H:Hp) (st c:Kl) (cs:List Int) (t:Int):Prop where
 d:H st=some (.dK (stK c t))
 l:H c=some (.lst (cs.map V.int))
 pos:0 < cs.length
 len:cs.length<=63
theorem StAt.ne {H:Hp}{st c:Kl}{cs:List Int}{t:Int}(S:StAt H st c cs t):st≠c:=Av S.d S.l (by intro z;cases z)
theorem StAt.same {H H':Hp}{st c:Kl}{cs:List Int}{t:Int}(S:StAt H st c cs t)(e:aH H H'):StAt H' st c cs t:=⟨e _ _ S.d,e _ _ S.l,S.pos,S.len⟩
structure Txt (mg:Str->Option Kj):Prop where
 len:mg "len"=none
 list:mg "list"=none
 divmod:mg "divmod"=none
 isinstance:mg "isinstance"=none
 dict:mg "dict"=none
 tuple:mg "tuple"=none
 str:mg "str"=none
 int:mg "int"=none
 bool:mg "bool"=none
 all:mg "all"=none
 any:mg "any"=none
 zip:mg "zip"=none
 range:mg "range"=none
 max:mg "max"=none
 min:mg "min"=none
 abs:mg "abs"=none
 sum:mg "sum"=none
 sorted:mg "sorted"=none
 enumerate:mg "enumerate"=none
 set:mg "set"=none
 reversed:mg "reversed"=none
noncomputable def zY(K:Kk):Sp:=fun vs H Q _=>∃(a:Kl) (ns:List Int),vs=[.ref a]/\SqL K H a (ns.map V.int)/\ns.length<=63/\∀(st c:Kl) (cs:List Int) (H':Hp),H st=none->H c=none->StAt H' st c cs 0->aH H H'->Q (.ref st) H'
noncomputable def CT:Sp:=fun vs H Q _=>∃(st c:Kl) (cs:List Int) (t m:Int),vs=[.ref st,.int m]/\StAt H st c cs t/\0<=t/\t < 2 ^ 40/\0 < m/\m < 1073741824/\
 ∀(r:Int) (cs':List Int) (H':Hp),0<=r->r < m->StAt H' st c cs' (t + 1)->Kp st c H H'->Q (.int r) H'
section
variable{P:Kz}{w:KD}{K:Kk}{mg:Str->Option Kj}{base:KH}
theorem scB:FnScope ["_law_script","_law_cells"] ["_law_script"] (ai jw):=⟨rfl,rfl,rfl,by decide +kernel,rfl,by decide +kernel,by decide +kernel⟩
theorem v8{f:Kl}{fd:KP}(F:Fun K "_law_begin" "_law_begin" jw f fd)(T:Txt mg):FnOk P w K mg base CX0 1 f fd ["_law_script"] (zY K):=by
 refine F.ok scB (fun vs H Q E h=>?_) (fun cdv A outer s H vs Q E hr h=>?_)
 ·obtain⟨a,ns,rfl,_⟩:=h
  rfl
 obtain⟨a,ns,rfl,hS,h63,q⟩:=h
 have sc:=@scB
 refine⟨_,(aK (dE (i:=1) sc.nd rfl (j' rfl) (lJ fI (by rfl) T.list (by decide +kernel) (aj (y1 A4 (pv 0) zF (zd aZ)) aP)))
  (aK (h8 (eI xY (pv 1) (xR aP) (bj _)) (bD (dE (i:=1) sc.nd rfl (j' rfl) (xR (aj aZ aP)))) cc)
  (bD (cB (zm (oV fh (pv 1) (oV fh aZ zX)) rfl rfl (by intro z;cases z) (by decide)))))),?_⟩
 refine⟨_,rfl,_,rfl,a,_,rfl,hS,fun p hp=>⟨p,_,rfl,.inl (SqL.of ax),fun l hl=>?_⟩⟩
 obtain⟨zs,ez,lz⟩:∃ zs:List Int,l7 (ns.map V.int) none (some 63)=zs.map V.int/\zs.length<=63:=by
  refine⟨_,by unfold l7;rw[<-List.map_drop,<-List.map_take],?_⟩
  exact n_ (List.length_take_le' _ _) (n_ (by rw[FU];omega) h63)
 have hp0:H p=none:=hp
 have hl0:H l=none:=(aO hp _).none hl
 have g1:aH H (upd (upd H p (.lst (l7 (ns.map V.int) none (some 63)))) l (.lst (l7 (ns.map V.int) none (some 63)))):=(aO hp _).trans' (aO hl _)
 refine⟨_,rfl,(by show 0<=sizeLine;decide),fun e he=>?_⟩
 have hul:∀ o,upd (upd (upd H p (.lst (l7 (ns.map V.int) none (some 63)))) l (.lst (l7 (ns.map V.int) none (some 63)))) e o l=some (.lst (zs.map V.int)):=fun o=>by
  rw[ak (aQ ax he),ax,ez]
 have he0:H e=none:=g1.none he
 have g2:=g1.trans' (aO he (.lst []))
 refine⟨.lst (di zs),.lst (di []),pX (SqL.of (hul _)),pX (SqL.of ax),?_,_,rfl,?_⟩
 ·have:=eV hr
  rw[dpt,lZ]
  exact this
 have fin:∀(c:Kl) (cs:List Int) (H2:Hp),H c=none->aH H H2->H2 c=some (.lst (cs.map V.int))->0 < cs.length->cs.length<=63->∀ p,H2 p=none->StAt (upd (upd H2 p (.dK [])) p (.dK (dY [] [(KQ (some ("cells":Str)),V.ref c),(KQ (some ("turn":Str)),V.int 0)]))) p c cs 0/\aH H (upd (upd H2 p (.dK [])) p (.dK (dY [] [(KQ (some ("cells":Str)),V.ref c),(KQ (some ("turn":Str)),V.int 0)]))):=fun c cs H2 hc g h1 h2 h3 p hp=>by
  have em:dY [] [((KQ (some ("cells":Str)):Key),V.ref c),(KQ (some ("turn":Str)),V.int 0)]=stK c 0:=by
   show putK (putK ([]:List (Key × V)) (KQ (some ("cells":Str))) (V.ref c)) (KQ (some ("turn":Str))) (V.int 0)=stK c 0
   rw[pI _ (show bR ([]:List (Key × V)) (KQ (some ("cells":Str)))=none from rfl),GO,pI _ (show bR [((KQ (some ("cells":Str)):Key),V.ref c)] (KQ (some ("turn":Str)))=none by rw[lQ key_ne];rfl)]
   rfl
  rw[em,A8]
  exact⟨⟨ax,by rw[ak (aQ h1 hp)];exact h1,h2,h3⟩,g.trans' (aO hp _)⟩
 refine EL (fun c=>?_) (fun c=>?_)
 ·
  refine⟨(by show 1<=sizeLine;decide),fun c7 h7=>?_⟩
  have g3:=g2.trans' (aO h7 (.lst [V.int 7]))
  intro p' hp'
  obtain⟨S,g4⟩:=fin c7 [7] _ (g2.none h7) g3 ax (by decide) (by decide) p' hp'
  refine⟨_,rfl,?_,[(KQ (some ("cells":Str)),V.ref c7),(KQ (some ("turn":Str)),V.int 0)],rfl,(by show 2<=15;decide),?_⟩
  ·exact ax
  exact q p' c7 [7] _ (g3.none hp') (g2.none h7) S g4
 have c0:0 < zs.length:=by
  cases zs with
  | nil=>rw[dG]at c;cases c
  | cons a r=>exact Nat.succ_pos _
 intro p' hp'
 obtain⟨S,g4⟩:=fin l zs _ hl0 g2 (hul _) c0 lz p' hp'
 refine⟨_,rfl,?_,[(KQ (some ("cells":Str)),V.ref l),(KQ (some ("turn":Str)),V.int 0)],rfl,(by show 2<=15;decide),?_⟩
 ·exact ax
 exact q p' l zs _ (g2.none hp') hl0 S g4
theorem scT:FnScope ["_law_state","_law_many","_law_turn","_law_place","_law_cell","_law_digit","_law_mixed"] ["_law_state","_law_many"] (ai mV):=⟨rfl,rfl,rfl,by decide +kernel,rfl,by decide +kernel,by decide +kernel⟩
theorem zL{f:Kl}{fd:KP}(F:Fun K "_law_take" "_law_take" mV f fd)(T:Txt mg):FnOk P w K mg base CX0 1 f fd ["_law_state","_law_many"] CT:=by
 refine F.ok scT (fun vs H Q E h=>?_) (fun cdv A outer s H vs Q E hr h=>?_)
 ·obtain⟨st,c,cs,t,m,rfl,_⟩:=h
  rfl
 obtain⟨st,c,cs,t,m,rfl,S,ht0,ht,hm0,hm1,q⟩:=h
 have sc:=@scT
 have hu:=eV hr
 refine⟨_,(aK (dE (i:=2) sc.nd rfl (j' rfl) (bC kH (jr hu (pv 0) fh (fun _ _=>rfl)) aZ))
  (aK (yr hu (pv 0) fh (pv 2) rfl)
  (aK (dE (i:=3) sc.nd rfl (j' rfl) (bC iz (pv 2) (aI bV (by rfl) T.len (by decide +kernel) (aj (jr hu (pv 0) fh (fun _ _=>rfl)) aP))))
  (aK (dE (i:=4) sc.nd rfl (j' rfl) (sk tD (jr hu (pv 0) fh (fun _ _=>rfl)) (pv 3) (fun _ _=>rfl)))
  (aK (h8 (eI Dw (pv 4) (bC Co aZ aZ) (bj _)) (aK (xJ (aI oS (by rfl) T.divmod (by decide +kernel) (aj (pv 4) (aj (pv 1) aP))) (rj rfl (e6 (wm (jr hu (pv 0) fh (fun _ _=>rfl)) (pv 3) set_list) (e6 (jo (i:=5) sc.nd rfl (j' rfl)) nG))))
  (bD (cB (pv 5)))) cc)
  (aK (dE (i:=6) sc.nd rfl (j' rfl) (bC iz (bC ik (bC kH (bC kH (bC iz (pv 4) aZ) (bC ik (bC ik (pv 2) (pv 2)) aZ)) aZ) aZ) aZ))
  (aK (dE (i:=6) sc.nd rfl (j' rfl) (bC iz (bC ik (pv 6) (pv 6)) aZ))
  (bD (cB (bC iz (bC zk (bC iz (bC ik (bC kH (pv 6) (bC ik (pv 2) aZ)) aZ) aZ) aZ) (pv 1))))))))))),?_⟩
 have D0:gv H st (.str ("turn":Str)) (some (.int t)):=by rw[<-sP c t];exact gv.k (k:=KQ (some ("turn":Str))) S.d
 refine⟨_,rfl,st,_,rfl,D0,_,_,rfl,rfl,?_⟩
 have hP:tS H st (.str ("turn":Str)) (.int (t + 1)) (upd H st (.dK (stK c (t + 1)))):=by
  rw[<-D8 c t (t + 1)]
  exact tS.k (k:=KQ (some ("turn":Str))) S.d (by show 2 < sizeLine;decide)
 refine⟨_,rfl,_,rfl,st,_,rfl,hP,?_⟩
 have S1:StAt (upd H st (.dK (stK c (t + 1)))) st c cs (t + 1):=⟨ax,by rw[ak S.ne.symm];exact S.l,S.pos,S.len⟩
 have K1:Kp st c H (upd H st (.dK (stK c (t + 1)))):=fun b o e n1 n2=>by rw[ak n1];exact e
 generalize upd H st (.dK (stK c (t + 1)))=H1 at S1 K1 ⊢
 have D1:gv H1 st (.str ("cells":Str)) (some (.ref c)):=by rw[<-qc c (t + 1)];exact gv.k (k:=KQ (some ("cells":Str))) S1.d
 have hl:(cs.map V.int).length=cs.length:=a_ _
 have hpos:(0:Int) < (((cs.map V.int).length:Nat):Int):=by rw[hl];have:=S.pos;omega
 refine⟨_,rfl,_,rfl,st,_,rfl,D1,c,_,rfl,.inl (SqL.of S1.l),_,_,rfl,rfl,hpos,?_⟩
 have j0:0<=(t + 1) % (((cs.map V.int).length:Nat):Int):=Ip _ (by omega)
 have j1:(t + 1) % (((cs.map V.int).length:Nat):Int) < (cs.length:Int):=by
  have:=HQ (t + 1) hpos
  rw[hl]at this ⊢
  exact this
 obtain⟨v,hat⟩:∃ v:Int,atI (cs.map V.int) ((t + 1) % (((cs.map V.int).length:Nat):Int))=some (.int v):=⟨_,wC j0 j1⟩
 refine⟨_,rfl,st,_,rfl,D1,_,rfl,c,_,_,_,rfl,rfl,SqL.of S1.l,hat,?_⟩
 refine⟨_,rfl,_,_,rfl,rfl,⟨by decide,by decide,by decide⟩,_,_,rfl,rfl,_,rfl,?_⟩
 refine EL (fun hc=>?_) (fun hc=>?_)
 ·
  refine⟨_,rfl,_,rfl,_,_,rfl,⟨hm0,hm1⟩,fun p hp=>?_⟩
  have g:=aO hp (.tup [.int (v / m),.int (v % m)])
  have S2:=S1.same g
  have D2:gv (upd H1 p (.tup [.int (v / m),.int (v % m)])) st (.str ("cells":Str)) (some (.ref c)):=by rw[<-qc c (t + 1)];exact gv.k (k:=KQ (some ("cells":Str))) S2.d
  refine⟨p,_,rfl,SqT.of ax,rfl,_,_,rfl,?_⟩
  refine⟨_,rfl,st,_,rfl,D2,_,rfl,c,_,_,((t + 1) % (((cs.map V.int).length:Nat):Int)).toNat,rfl,rfl,S2.l,sA j0 (by rw[hl];rw[hl]at j1;exact j1),?_⟩
  refine⟨_,_,rfl,rfl,?_⟩
  refine⟨_,rfl,?_⟩
  have es:∀ j:Nat,(cs.map V.int).set j (.int (v / m))=(cs.set j (v / m)).map V.int:=fun j=>by rw[JD]
  refine q (v % m) (cs.set ((t + 1) % (((cs.map V.int).length:Nat):Int)).toNat (v / m)) _ (Ip _ (by omega)) (HQ _ hm0) ⟨?_,?_,?_,?_⟩ ?_
  ·rw[ak S2.ne];exact S2.d
  ·rw[ax,es]
  ·rw[FJ];exact S.pos
  ·rw[FJ];exact S.len
  intro b o e n1 n2
  rw[ak n2]
  exact g b o (K1 b o e n1 n2)
 
 have mulR:∀(x y:Int),-(2 ^ 64) < y->y < 2 ^ 64->Au x y:=fun x y h1 h2=>.inr ⟨h1,h2⟩
 refine⟨_,rfl,_,_,rfl,rfl,(by show(0:Int) < 2147483629;decide),_,rfl,_,rfl,_,_,rfl,rfl,mulR _ _ (by omega) (by omega),_,_,rfl,rfl,mulR _ _ (by decide) (by decide),_,_,rfl,rfl,_,_,rfl,rfl,_,_,rfl,rfl,mulR _ _ (by decide) (by decide),_,_,rfl,rfl,(by show(0:Int) < 2147483647;decide),?_⟩
 generalize hM:(v % 2147483629 + (t + 1) * (t + 1) * 7919 + 11) * 48271 % 2147483647=M
 have m0:0<=M:=by rw[<-hM];exact Ip _ (by decide)
 have m1:M < 2147483647:=by rw[<-hM];exact HQ _ (by decide)
 refine⟨_,rfl,_,rfl,_,_,rfl,rfl,mulR _ _ (by omega) (by omega),_,_,rfl,rfl,(by show(0:Int) < 2147483587;decide),?_⟩
 refine⟨_,rfl,_,rfl,_,_,rfl,rfl,mulR _ _ (by decide) (by decide),_,_,rfl,rfl,_,_,rfl,rfl,mulR _ _ (by decide) (by decide),_,_,rfl,rfl,(by show(0:Int) < 2147483629;decide),_,_,rfl,rfl,⟨by decide,by decide⟩,_,rfl,_,_,rfl,rfl,hm0,?_⟩
 exact q _ cs H1 (Ip _ (by omega)) (HQ _ hm0) S1 K1
end
mutual
def gd:Dt->Bool
 | .bl _=>false
 | .lst ds=>decide (ds.length<=100000) && gdL ds
 | .tup ds=>decide (ds.length<=100000) && gdL ds
 | _=>true
def gdL:List Dt->Bool
 | []=>true
 | d::r=>gd d && gdL r
end
theorem nj:∀ {ds:List Dt} {i:Nat} {d:Dt},gdL ds=true->ds[i]?=some d->gd d=true
 | [],i,d,_,e=>by simp at e
 | c::r,0,d,h,e=>by
  rw[gdL,FI]at h
  simp at e
  subst e
  exact h.1
 | c::r,i + 1,d,h,e=>by
  rw[gdL,FI]at h
  exact nj h.2 (i:=i) (by simpa using e)
noncomputable def iC(K:Kk)(n:Nat):Sp:=fun vs H Q _=>∃(x y:V) (d:Dt),vs=[x,y]/\Has K H d x/\Has K H d y/\gd d=true/\dpt d < n/\∀ H',aH H H'->Q (.bl true) H'
theorem oY{α:Type}(n:Nat)(c:α):(m_ n).map (fun _=>c)=s_ n c:=by
 induction n with
 | zero=>rfl
 | succ n ih=>rw[HD,v_,ih,List.map_singleton,List.replicate_succ']
theorem iW(n:Nat):(m_ n).filter (fun _=>true)=m_ n:=by simp
section
variable{P:Kz}{w:KD}{K:Kk}{mg:Str->Option Kj}{base:KH}
theorem scS:FnScope ["_law_found","_law_due"] ["_law_found","_law_due"] (ai s_same):=⟨rfl,rfl,rfl,by decide +kernel,rfl,by decide +kernel,by decide +kernel⟩
set_option maxHeartbeats 1000000 in
theorem yK{n:Nat}{f:Kl}{fd:KP}(F:Fun K "_law_same" "_law_same" s_same f fd)(T:Txt mg)(G_same:Cal P w K mg base n "_law_same" ["_law_found","_law_due"] (iC K n)) :
  FnOk P w K mg base CX0 (n + 1) f fd ["_law_found","_law_due"] (iC K (n + 1)):=by
 refine F.ok scS (fun vs H Q E h=>?_) (fun cdv A outer s H vs Q E hr h=>?_)
 ·obtain⟨x,y,d,rfl,_⟩:=h
  rfl
 obtain⟨x,y,d,rfl,hx,hy,hg,hd,q⟩:=h
 have sc:=@scS
 have nd2:(["_law_one","_law_other"]:List Str).Nodup:=by decide +kernel
 refine⟨_,(aK (h8 (De (xq (pv 1))) (bD (cB (CJ (xq (pv 0))))) cc)
  (aK (h8 (nR (aI aJ (by rfl) T.isinstance (by decide +kernel) (aj (pv 1) (aj (bE (v:=.ty (Ty.nm .dct)) (by rfl) T.dict (by decide +kernel) rfl) aP)))) uK cc)
  (aK (h8 (PW.pt (AD (nR (aI aJ (by rfl) T.isinstance (by decide +kernel) (aj (pv 1) (aj (bE (v:=.ty (Ty.nm .lst)) (by rfl) T.list (by decide +kernel) rfl) aP)))) (vU (nR (aI aJ (by rfl) T.isinstance (by decide +kernel) (aj (pv 1) (aj (bE (v:=.ty (Ty.nm .tup)) (by rfl) T.tuple (by decide +kernel) rfl) aP)))))))
   (aK (h8 (eI y9 (aI aJ (by rfl) T.isinstance (by decide +kernel) (aj (pv 0) (aj (bE (v:=.ty (Ty.nm .lst)) (by rfl) T.list (by decide +kernel) rfl) aP))) (aI aJ (by rfl) T.isinstance (by decide +kernel) (aj (pv 1) (aj (bE (v:=.ty (Ty.nm .lst)) (by rfl) T.list (by decide +kernel) rfl) aP))) (bj _)) (bD (cB w6)) cc)
   (aK (h8 (PW.pt (AD (eI y9 (aI aJ (by rfl) T.isinstance (by decide +kernel) (aj (pv 0) (aj (bE (v:=.ty (Ty.nm .tup)) (by rfl) T.tuple (by decide +kernel) rfl) aP))) (aI aJ (by rfl) T.isinstance (by decide +kernel) (aj (pv 1) (aj (bE (v:=.ty (Ty.nm .tup)) (by rfl) T.tuple (by decide +kernel) rfl) aP))) (bj _)) (vU (eI y9 (aI bV (by rfl) T.len (by decide +kernel) (aj (pv 0) aP)) (aI bV (by rfl) T.len (by decide +kernel) (aj (pv 1) aP)) (bj _))))) (bD (cB w6)) cc)
   (bD (cB (aI (qi rfl) (by rfl) T.all (by decide +kernel) (aj (pD sc ["_law_one","_law_other"] [none,none] nd2 (by decide +kernel) (Cf (by rfl) T.zip (aj (pv 0) (aj (pv 1) aP))) (fun _ _ _=>(rj rfl (e6 (jo (i:=0) nd2 rfl (j' rfl) (j_ rfl)) (e6 (jo (i:=1) nd2 rfl (j' rfl) (j_ rfl)) nG)))) (fun _ _ _=>si) (fun _ _ _=>(wo G_same hr (by rfl) (aj (pv 0) (aj (pv 1) aP))))) aP)))))) cc)
  (aK (h8 (nR (aI aJ (by rfl) T.isinstance (by decide +kernel) (aj (pv 1) (aj (bE (v:=.ty (Ty.nm .str)) (by rfl) T.str (by decide +kernel) rfl) aP)))) (bD (cB (mS (aI aJ (by rfl) T.isinstance (by decide +kernel) (aj (pv 0) (aj (bE (v:=.ty (Ty.nm .str)) (by rfl) T.str (by decide +kernel) rfl) aP))) (qH (nq AM (pv 0) (pv 1) (bj _)))))) cc)
  (bD (cB (mS (aI aJ (by rfl) T.isinstance (by decide +kernel) (aj (pv 0) (aj (bE (v:=.ty (Ty.nm .int)) (by rfl) T.int (by decide +kernel) rfl) aP))) (mS (Df (aI aJ (by rfl) T.isinstance (by decide +kernel) (aj (pv 0) (aj (bE (v:=.ty (Ty.nm .bl)) (by rfl) T.bool (by decide +kernel) rfl) aP)))) (qH (nq AM (pv 0) (pv 1) (bj _))))))))))),?_⟩
 cases d with
 | bl b=>simp[gd]at hg
 | non=>
  rw[Has]at hx hy
  subst hx hy
  refine⟨_,rfl,_,rfl,jU (by decide) ⟨_,rfl,?_⟩⟩
  exact oW (by decide) (q H .bh)
 | int i=>
  rw[Has]at hx hy
  subst hx hy
  refine⟨_,rfl,_,rfl,bA (by simp) ?_⟩
  refine⟨_,rfl,_,_,.int,[.dct],rfl,.int i,.inl ⟨_,rfl,rfl⟩,_,rfl,bA (by decide) ?_⟩
  refine⟨_,rfl,_,_,.int,[.lst],rfl,.int i,.inl ⟨_,rfl,rfl⟩,_,rfl,bA (by decide) ?_⟩
  refine⟨_,rfl,_,_,.int,[.tup],rfl,.int i,.inl ⟨_,rfl,rfl⟩,_,rfl,bA (by decide) ?_⟩
  refine⟨_,rfl,_,_,.int,[.str],rfl,.int i,.inl ⟨_,rfl,rfl⟩,_,rfl,bA (by decide) ?_⟩
  refine⟨_,rfl,_,_,.int,[.int],rfl,.int i,.inl ⟨_,rfl,rfl⟩,_,rfl,jU (by decide) ?_⟩
  refine⟨_,rfl,_,_,.int,[.bl],rfl,.int i,.inl ⟨_,rfl,rfl⟩,_,rfl,_,rfl,jU (by decide) ?_⟩
  refine⟨_,rfl,_,rfl,rfl,?_⟩
  exact oW (by simp) (q H .bh)
 | str i=>
  rw[Has]at hx hy
  subst hx hy
  refine⟨_,rfl,_,rfl,bA (by simp) ?_⟩
  refine⟨_,rfl,_,_,.str,[.dct],rfl,.str i,.inl ⟨_,rfl,rfl⟩,_,rfl,bA (by decide) ?_⟩
  refine⟨_,rfl,_,_,.str,[.lst],rfl,.str i,.inl ⟨_,rfl,rfl⟩,_,rfl,bA (by decide) ?_⟩
  refine⟨_,rfl,_,_,.str,[.tup],rfl,.str i,.inl ⟨_,rfl,rfl⟩,_,rfl,bA (by decide) ?_⟩
  refine⟨_,rfl,_,_,.str,[.str],rfl,.str i,.inl ⟨_,rfl,rfl⟩,_,rfl,jU (by decide) ?_⟩
  refine⟨_,rfl,_,_,.str,[.str],rfl,.str i,.inl ⟨_,rfl,rfl⟩,_,rfl,jU (by decide) ?_⟩
  refine⟨_,rfl,_,rfl,rfl,?_⟩
  exact oW (by simp) (q H .bh)
 | lst ds=>
  rw[Has]at hx hy
  obtain⟨a,xs,rfl,s1,l1⟩:=hx
  obtain⟨b,ys,rfl,s2,l2⟩:=hy
  have m1:=l1.len
  have m2:=l2.len
  have hg2:ds.length<=100000/\gdL ds=true:=by simpa[gd]using hg
  have hd2:b7 ds < n:=by rw[dpt]at hd;omega
  refine⟨_,rfl,_,rfl,bA (by simp) ?_⟩
  refine⟨_,rfl,_,_,.lst,[.dct],rfl,.lst s2,.inl ⟨_,rfl,rfl⟩,_,rfl,bA (by decide) ?_⟩
  refine⟨_,rfl,_,_,.lst,[.lst],rfl,.lst s2,.inl ⟨_,rfl,rfl⟩,_,rfl,jU (by decide) ?_⟩
  refine⟨_,rfl,_,_,.lst,[.lst],rfl,.lst s1,.inl ⟨_,rfl,rfl⟩,_,rfl,_,_,.lst,[.lst],rfl,.lst s2,.inl ⟨_,rfl,rfl⟩,rfl,_,rfl,bA (by simp) ?_⟩
  refine⟨_,rfl,_,_,.lst,[.tup],rfl,.lst s1,.inl ⟨_,rfl,rfl⟩,_,rfl,_,_,.lst,[.tup],rfl,.lst s2,.inl ⟨_,rfl,rfl⟩,rfl,_,rfl,bA (by simp) ?_⟩
  refine⟨_,rfl,a,_,rfl,.inl s1,_,rfl,b,_,rfl,.inl s2,rfl,_,rfl,bA (by rw[<-m1,<-m2];simp) ?_⟩
  refine⟨_,rfl,_,rfl,false,a,false,b,rfl,⟨xs,s1⟩,⟨ys,s2⟩,nZ (K:=K) (fun σ'=>σ'.length=2) ds.length (by have:=hg2.1;show ds.length < 2 ^ 24;omega) (fun _=>.bl true) (fun _=>true) (fun _=>by simp[pQ]) rfl
   (vX (b1:=false) (b2:=false) s1 s2 m1.symm m2.symm) (pL (b1:=false) (b2:=false) s1 s2 m1.symm m2.symm) ?_ ?_⟩
  ·intro s3 H3' fp i σ' H' hi ok sm x H2 hy Nx Ap _ hA
   obtain⟨p',u,v,rfl,sm2,hp',hu,hv⟩:=t7 (b1:=false) (b2:=false) s1 s2 sm hy
   obtain⟨z0,z1,rfl⟩:∃ z0 z1,σ'=[z0,z1]:=by
    match σ',ok with
    | [z0,z1],_=>exact⟨z0,z1,rfl⟩
   have sm3:=sm.trans' sm2
   refine⟨p',_,rfl,SqT.of hp',rfl,u,[v],rfl,v,[],rfl,rfl,?_⟩
   refine oH ?_
   refine⟨_,rfl,_,rfl,u,v,ds[i],rfl,Has.same sm3 (l1.get (b_ hi) hu),Has.same sm3 (l2.get (b_ hi) hv),nj hg2.2 (b_ hi),FW (gh (b_ hi)) hd2,fun H5 s5=>?_⟩
   exact hA rfl _ _ H5 rfl (sm2.trans' s5) (by rw[Has])
  ·intro p acc H' hp sm hacc hl
   have e:((m_ ds.length).filter fun _=>true).map (fun _=>Dt.bl true)=(s_ ds.length true).map Dt.bl:=by rw[iW,oY,IC]
   rw[e]at hl
   have hb:=f7 hl
   rw[hb]at hacc
   refine⟨p,_,rfl,SqL.of hacc,?_⟩
   exact oW (by simp) (q H' sm)
 | tup ds=>
  rw[Has]at hx hy
  obtain⟨a,xs,rfl,s1,l1⟩:=hx
  obtain⟨b,ys,rfl,s2,l2⟩:=hy
  have m1:=l1.len
  have m2:=l2.len
  have hg2:ds.length<=100000/\gdL ds=true:=by simpa[gd]using hg
  have hd2:b7 ds < n:=by rw[dpt]at hd;omega
  refine⟨_,rfl,_,rfl,bA (by simp) ?_⟩
  refine⟨_,rfl,_,_,.tup,[.dct],rfl,.tup s2,.inl ⟨_,rfl,rfl⟩,_,rfl,bA (by decide) ?_⟩
  refine⟨_,rfl,_,_,.tup,[.lst],rfl,.tup s2,.inl ⟨_,rfl,rfl⟩,_,rfl,bA (by decide) ?_⟩
  refine⟨_,rfl,_,_,.tup,[.tup],rfl,.tup s2,.inl ⟨_,rfl,rfl⟩,_,rfl,jU (by decide) ?_⟩
  refine⟨_,rfl,_,_,.tup,[.lst],rfl,.tup s1,.inl ⟨_,rfl,rfl⟩,_,rfl,_,_,.tup,[.lst],rfl,.tup s2,.inl ⟨_,rfl,rfl⟩,rfl,_,rfl,bA (by simp) ?_⟩
  refine⟨_,rfl,_,_,.tup,[.tup],rfl,.tup s1,.inl ⟨_,rfl,rfl⟩,_,rfl,_,_,.tup,[.tup],rfl,.tup s2,.inl ⟨_,rfl,rfl⟩,rfl,_,rfl,bA (by simp) ?_⟩
  refine⟨_,rfl,a,_,rfl,.inr s1,_,rfl,b,_,rfl,.inr s2,rfl,_,rfl,bA (by rw[<-m1,<-m2];simp) ?_⟩
  refine⟨_,rfl,_,rfl,true,a,true,b,rfl,⟨xs,s1⟩,⟨ys,s2⟩,nZ (K:=K) (fun σ'=>σ'.length=2) ds.length (by have:=hg2.1;show ds.length < 2 ^ 24;omega) (fun _=>.bl true) (fun _=>true) (fun _=>by simp[pQ]) rfl
   (vX (b1:=true) (b2:=true) s1 s2 m1.symm m2.symm) (pL (b1:=true) (b2:=true) s1 s2 m1.symm m2.symm) ?_ ?_⟩
  ·intro s3 H3' fp i σ' H' hi ok sm x H2 hy Nx Ap _ hA
   obtain⟨p',u,v,rfl,sm2,hp',hu,hv⟩:=t7 (b1:=true) (b2:=true) s1 s2 sm hy
   obtain⟨z0,z1,rfl⟩:∃ z0 z1,σ'=[z0,z1]:=by
    match σ',ok with
    | [z0,z1],_=>exact⟨z0,z1,rfl⟩
   have sm3:=sm.trans' sm2
   refine⟨p',_,rfl,SqT.of hp',rfl,u,[v],rfl,v,[],rfl,rfl,?_⟩
   refine oH ?_
   refine⟨_,rfl,_,rfl,u,v,ds[i],rfl,Has.same sm3 (l1.get (b_ hi) hu),Has.same sm3 (l2.get (b_ hi) hv),nj hg2.2 (b_ hi),FW (gh (b_ hi)) hd2,fun H5 s5=>?_⟩
   exact hA rfl _ _ H5 rfl (sm2.trans' s5) (by rw[Has])
  intro p acc H' hp sm hacc hl
  have e:((m_ ds.length).filter fun _=>true).map (fun _=>Dt.bl true)=(s_ ds.length true).map Dt.bl:=by rw[iW,oY,IC]
  rw[e]at hl
  have hb:=f7 hl
  rw[hb]at hacc
  refine⟨p,_,rfl,SqL.of hacc,?_⟩
  exact oW (by simp) (q H' sm)
theorem same_none{f:Kl}{fd:KP}:FnOk P w K mg base CX0 0 f fd ["_law_found","_law_due"] (iC K 0):=by
 have no:∀ vs H Q E,¬ iC K 0 vs H Q E:=fun vs H Q E h=>by
  obtain⟨x,y,d,_,_,_,_,h,_⟩:=h
  omega
 exact⟨fun vs H Q E h=>absurd h (no vs H Q E),fun A outer s H args us vs Q E _ _ _ _ h=>absurd h (no vs H Q E)⟩
theorem oK(D:Dfn K mg "_law_same" s_same ["_law_found","_law_due"])(T:Txt mg):∀ n,Cal P w K mg base n "_law_same" ["_law_found","_law_due"] (iC K n)
 | 0=>D.cal fun _ _ _=>same_none
 | n + 1=>D.cal fun _ _ F=>yK F T (oK D T n)
end
open PySem L2 PL
structure Cells where
 cs:List Int
 pos:0 < cs.length
 len:cs.length<=63
noncomputable def stT(c:Cells)(n:Nat):T:=.dK true [(KQ (some ("cells":Str)),.lst true (c.cs.map T.int)),(KQ (some ("turn":Str)),.int (n:Int))]
theorem yg{c:Cells}{n:Nat}:isAny (stT c n)=false:=rfl
noncomputable def Scr(K:Kk)(t:T)(ns:List Int):Prop:=t=.lst false (ns.map T.int)\/∃ a,t=.hole (.ref a)/\∀ H,SqL K H a (ns.map V.int)
def my(K:Kk):FP:=fun ts k=>∃ t,∃ ns:List Int,ts=[t]/\Scr K t ns/\ns.length<=63/\∀ c,k (stT c 0) ts
noncomputable def k7:FP:=fun ts k=>∃ c n m,ts=[stT c n,.int m]/\n < 2 ^ 40/\0 < m/\m < 1073741824/\∀ r c',0<=r->r < m->k (.int r) [stT c' (n + 1),.int m]
noncomputable def iF(n:Nat):FP:=fun ts k=>∃ f d,ts=[f,d]/\isD f=true/\isD d=true/\dt f=dt d/\gd (dt d)=true/\dpt (dt d) < n/\k (.bl true) ts
section
variable{P:Kz}{w:KD}{K:Kk}{mg:Str->Option Kj}{base:KH}
theorem mG{α β:Type}{l:List (α × β)}{a b:α}(h:[a,b]=l.map (·.1)):∃ v w,l=[(a,v),(b,w)]:=by
 cases l with
 | nil=>cases h
 | cons x l=>
  cases l with
  | nil=>cases h
  | cons y l=>
   cases l with
   | nil=>
    have h1:=(GD h).1
    have h2:=(GD (GD h).2).1
    exact⟨x.2,y.2,by rw[h1,h2]⟩
   | cons z l=>cases (GD (GD h).2).2
theorem pK{H:Hp}{a:Kl}{o:HO}(h:H a=some o):Put H a o H:=⟨h,fun _ _=>rfl⟩
theorem DV{H:Hp}{Γ:Fm}{c:Cells}{n:Nat}{v:V}(h:Rp K H ((stT c n,some v)::Γ)):∃ st l,v=.ref st/\StAt H st l c.cs n/\Rp K H ((.bare,some (.ref st))::(.bare,some (.ref l))::Γ):=by
 obtain⟨st,kvs,ev,hs,ek,h2⟩:=qa h
 cases ev
 obtain⟨v1,v2,rfl⟩:=mG ek
 have h2:Rp K H ((.bare,some (.ref st))::(.lst true (c.cs.map T.int),some v1)::(.int (n:Int),some v2)::Γ):=h2
 have e2:v2=.int n:=aM h2.tail.tail
 subst e2
 have h3:=h2.perm (.swap _ _ _)
 obtain⟨l,vs,el,hl,ll,h4⟩:=bY h3
 cases el
 have ev:vs=c.cs.map V.int:=eJ ll h4.tail
 subst ev
 refine⟨st,l,rfl,⟨hs,hl,c.pos,c.len⟩,?_⟩
 have h5:Rp K H ((.bare,some (.ref l))::(.bare,some (.ref st))::(.int (n:Int),some (.int n))::Γ):=by
  have:Rp K H (zz (c.cs.map T.int) (c.cs.map V.int)++((.bare,some (.ref l))::(.bare,some (.ref st))::(.int (n:Int),some (.int n))::Γ)):=h4.perm d_.symm
  exact this.part
 exact(h5.perm (by
  refine r_ (.cons _ (.swap _ _ _)) ?_
  refine r_ (.swap _ _ _) ?_
  exact .cons _ (.swap _ _ _))).tail
theorem pS{H:Hp}{Γ:Fm}:∀(ns:List Int),Rp K H Γ->Rp K H (zz (ns.map T.int) (ns.map V.int)++Γ)
 | [],h=>h
 | n::r,h=>b9 (pS r h) fun _=>.int
theorem xm{H:Hp}{Γ:Fm}{cs:List Int}{n:Nat}{st l:Kl}(S:StAt H st l cs n)(h:Rp K H ((.bare,some (.ref st))::(.bare,some (.ref l))::Γ)):∃ c,Rp K H ((stT c n,some (.ref st))::Γ):=by
 refine⟨⟨cs,S.pos,S.len⟩,?_⟩
 have h1:Rp K H ((.bare,some (.ref l))::(zz (cs.map T.int) (cs.map V.int)++((.bare,some (.ref st))::Γ))):=(pS cs (h.perm (.swap _ _ _))).perm d_
 have h2:=cn h1 (by rw[a_,a_]) (pK S.l)
 have h3:Rp K H ((.bare,some (.ref st))::((.lst true (cs.map T.int),some (.ref l))::(.int (n:Int),some (.int n))::Γ)):=by
  refine(b9 (t:=.int (n:Int)) h2 fun _=>.int).perm ?_
  refine r_ (.swap _ _ _) ?_
  refine r_ (.cons _ (.swap _ _ _)) ?_
  exact .swap _ _ _
 exact mw (ts:=[(KQ (some ("cells":Str)),.lst true (cs.map T.int)),(KQ (some ("turn":Str)),.int (n:Int))]) (vs:=stK l n) h3 rfl (pK S.d)
theorem Ex{H H':Hp}{a c:Kl}{Γ:Fm}(h:Rp K H ((.bare,some (.ref a))::(.bare,some (.ref c))::Γ))(k:Kp a c H H')(ha:∃ u,H' a=some u/\∀ xs,u≠.tup xs)(hc:∃ u,H' c=some u/\∀ xs,u≠.tup xs):Rp K H' ((.bare,some (.ref a))::(.bare,some (.ref c))::Γ):=by
 obtain⟨ua,ea,na⟩:=ha
 obtain⟨uc,ec,nc⟩:=hc
 obtain⟨Hz,N,h,nd,g,d⟩:=h
 cases h with
 | cons e1 h1 c1=>
  cases c1 with
  | cons e2 h2 c2=>
   rcases h1 with⟨z,_⟩ | ⟨v1,ev1,h1⟩
   ·cases z
   rcases h2 with⟨z,_⟩ | ⟨v2,ev2,h2⟩
   ·cases z
   cases ev1;cases ev2
   cases h1;cases h2
   rename_i M u1 hu1 nt1 u2 hu2 nt2
   subst e2;subst e1
   have nd':(a::c::M).Nodup:=nd
   rw[D_,D_]at nd'
   have keep:∀ b o,H b=some o->b≠a->b≠c->H' b=some o:=k
   have tk:TK H H':=fun b xs r=>keep b _ r (fun z=>nt1 xs (z ▸ r)) (fun z=>nt2 xs (z ▸ r))
   have za:Hz a=none:=d a y_
   have zc:Hz c=none:=d c (o_ _ y_)
   have g':Gr Hz H':=fun b u r=>by
    obtain⟨w',q⟩:=Rd.some r
    have b1:b≠a:=fun z=>by rw[z,za]at q;cases q
    have b2:b≠c:=fun z=>by rw[z,zc]at q;cases q
    rcases g b u r with r | ⟨o,r⟩
    ·exact .inl (keep b _ r b1 b2)
    exact .inr ⟨o,keep b _ r b1 b2⟩
   refine⟨Hz,[a]++([c]++M),.cons rfl (.inr ⟨_,rfl,.bare ea fun xs z=>?_⟩) (.cons rfl (.inr ⟨_,rfl,.bare ec fun xs z=>?_⟩) (c2.move tk .bh fun b m u e=>?_)),nd,g',d⟩
   ·rw[ea]at z;exact na xs (D' z)
   ·rw[ec]at z;exact nc xs (D' z)
   have b1:b≠a:=fun z=>nd'.1 (by rw[<-z];exact o_ _ m)
   have b2:b≠c:=fun z=>nd'.2.1 (by rw[<-z];exact m)
   exact⟨keep b u e b1 b2,fun nt xs r=>nt xs (by rw[keep b u e b1 b2]at r;exact e.trans r)⟩
theorem Aj{H H':Hp}{a c:Kl}{Γ:Fm}(h:Rp K H Γ)(ha:H a=none)(hc:H c=none)(ne:a≠c)(s:aH H H')(ea:∃ u,H' a=some u/\∀ xs,u≠.tup xs)(ec:∃ u,H' c=some u/\∀ xs,u≠.tup xs):Rp K H' ((.bare,some (.ref a))::(.bare,some (.ref c))::Γ):=by
 obtain⟨ua,ea,na⟩:=ea
 obtain⟨uc,ec,nc⟩:=ec
 obtain⟨Hz,N,h,nd,g,d⟩:=h
 have n1:a ∉ N:=fun m=>by
  obtain⟨⟨u,e⟩,_⟩:=h.there a m
  rw[ha]at e;cases e
 have n2:c ∉ N:=fun m=>by
  obtain⟨⟨u,e⟩,_⟩:=h.there c m
  rw[hc]at e;cases e
 refine⟨Hz,[a]++([c]++N),.cons rfl (.inr ⟨_,rfl,.bare ea fun xs z=>?_⟩) (.cons rfl (.inr ⟨_,rfl,.bare ec fun xs z=>?_⟩) (h.move (aH.tk s) .bh fun b m u e=>eN s b u e)),?_,g.trans (.of s),?_⟩
 ·rw[ea]at z;exact na xs (D' z)
 ·rw[ec]at z;exact nc xs (D' z)
 ·show(a::c::N).Nodup
  rw[D_,D_]
  exact⟨fun m=>(t_.mp m).elim (fun z=>ne z) n1,n2,nd⟩
 intro b m
 have m:b∈a::c::N:=m
 rcases t_.mp m with rfl | m
 ·exact g.none ha
 rcases t_.mp m with rfl | m
 ·exact g.none hc
 exact d b m
theorem vv(D:Dfn K mg "_law_take" mV ["_law_state","_law_many"])(TX:Txt mg):Cal P w K mg base 1 "_law_take" ["_law_state","_law_many"] (aE K 2 k7):=by
 refine(D.cal fun _ _ F=>zL F TX).imp ?_
 rintro vs H Q E ⟨ts,Fr,k,l,hn,rp,⟨c,n,m,rfl,h1,h2,h3,pk⟩,q⟩
 obtain⟨x,y,rfl⟩:=zz2 l rfl
 have rp:Rp K H ((stT c n,some x)::(.int m,some y)::Fr):=rp
 have ey:=aM rp.tail
 subst ey
 obtain⟨st,lc,rfl,S,rp2⟩:=DV rp
 refine⟨st,lc,c.cs,n,m,rfl,S,by omega,by omega,h2,h3,fun r cs' H' hr0 hr1 S' kp=>?_⟩
 have rp3:=Ex rp2 kp ⟨_,S'.d,fun _ z=>by cases z⟩ ⟨_,S'.l,fun _ z=>by cases z⟩
 have S'':StAt H' st lc cs' ((n + 1:Nat):Int):=by push_cast;exact S'
 obtain⟨c',rp4⟩:=xm S'' rp3
 exact q _ _ _ _ (pk r c' hr0 hr1) (b9 rp4 fun _=>.int)
theorem qT{H:Hp}{Γ:Fm}{w y:V}(h:Rp K H ((.hole w,some y)::Γ)):y=w:=by
 obtain⟨_,_,r,_⟩:=fu h rfl
 cases r
 rfl
theorem uO(D:Dfn K mg "_law_begin" jw ["_law_script"])(TX:Txt mg):Cal P w K mg base 1 "_law_begin" ["_law_script"] (aE K 1 (my K)):=by
 refine(D.cal fun _ _ F=>v8 F TX).imp ?_
 rintro vs H Q E ⟨ts,Fr,k,l,hn,rp,⟨t,ns,rfl,hs,h1,pk⟩,q⟩
 obtain⟨x,rfl⟩:=zz1 l rfl
 have rp:Rp K H ((t,some x)::Fr):=rp
 obtain⟨a,rfl,hq⟩:∃ a,x=.ref a/\SqL K H a (ns.map V.int):=by
  rcases hs with rfl | ⟨a,rfl,hs⟩
  ·obtain⟨a,us,rfl,hq,l2,rp2⟩:=aB rfl rp
   have eu:=eJ l2 rp2
   subst eu
   exact⟨a,rfl,hq⟩
  exact⟨a,qT rp,hs H⟩
 refine⟨a,ns,rfl,hq,h1,fun st lc cs H' hs hl S g=>?_⟩
 have rp3:=Aj rp hs hl S.ne g ⟨_,S.d,fun _ z=>by cases z⟩ ⟨_,S.l,fun _ z=>by cases z⟩
 obtain⟨c,rp4⟩:=xm (n:=0) S rp3
 exact q _ _ _ _ (pk c) rp4
def vI(K:Kk):FP:=fun ts k=>∃ t,∃ ns:List Int,ts=[t]/\Scr K t ns/\ns.length<=63/\∀ z,k (.bl true) [z]
noncomputable def sG(K:Kk):Sp:=fun vs H Q _=>∃(a:Kl) (ns:List Int),vs=[.ref a]/\SqL K H a (ns.map V.int)/\ns.length<=63/\∀ H',Q (.bl true) H'
theorem nX{Hz H:Hp}:∀(ns:List Int),RepTs K Hz H (ns.map T.int) (ns.map V.int) []
 | []=>.nil
 | _::r=>.cons rfl .int (nX r)
theorem Cw{k:Nat}{f:Kl}{fd:KP}(F:FnOk P w K mg base CX0 k f fd ["_law_script"] (aE K 1 (vI K))):FnOk P w K mg base CX0 k f fd ["_law_script"] (sG K):=by
 refine F.imp ?_
 rintro vs H Q E ⟨a,ns,rfl,hq,h1,q⟩
 have key:∀ t,Scr K t ns->(∀ Hz,RepT K H Hz t (.ref a) [])->aE K 1 (vI K) [.ref a] H Q E:=fun t sc ht=>
  ⟨[t],[],fun t _=>t=.bl true,rfl,rfl,⟨H,[],.cons rfl (.inr ⟨_,rfl,ht H⟩) .nil,GZ,.bh,fun _ m=>by cases m⟩,⟨t,ns,rfl,sc,h1,fun _=>rfl⟩,fun t ts' v H' e rp=>by
   subst e
   rw[oU rp]
   exact q H'⟩
 rcases hq with hq | hq
 ·exact key _ (.inl rfl) fun Hz=>.lstZ hq (nX ns)
 exact key _ (.inr ⟨a,rfl,fun H=>.inr hq⟩) fun Hz=>.hole
theorem v7{x y:Str}(D:Dfn K mg "_law_same" s_same [x,y])(n:Nat)(C:Cal P w K mg base n "_law_same" [x,y] (iC K n)):Cal P w K mg base n "_law_same" [x,y] (aE K 2 (iF n)):=by
 refine C.imp ?_
 rintro vs H Q E ⟨ts,Fr,k,l,hn,rp,⟨f,d,rfl,h1,h2,h3,h4,h5,pk⟩,q⟩
 obtain⟨u,v,rfl⟩:=zz2 l rfl
 have rp:Rp K H ((f,some u)::(d,some v)::Fr):=rp
 have r1:=cz rp h1
 rw[h3]at r1
 exact⟨u,v,dt d,rfl,r1,cz rp.tail h2,h4,h5,fun H' g=>q _ _ _ _ pk (b9 (rp.same g) fun _=>.bl)⟩
end
open PySem L2 PL
noncomputable def vS:=f' @PL.Cr (f' @PL.yd (f' @PL.Dj (f' @PL.CV (f' @PL.Du (f' @PL.zG (f' @PL.zU (f' @PL.xn (f' @PL.xP (f' @PL.yo (f' @PL.Ce (f' @PL.Dv (f' @PL.yT (f' @PL.vZ (f' @PL.xW (f' @PL.vR (f' @PL.x5 (f' @PL.Dh (f' @PL.A0 (f' @PL.yy (f' @PL.uL (f' @PL.zj (f' @PL.yA (f' @PL.wx (f' @PL.yP (f' @PL.vq (f' @PL.zI (f' @PL.CZ (f' @PL.Cy (f' @PL.CK (f' @PL.Di (f' @PL.C4 (f' @PL.Bn (f' @PL.zb (f' @PL.yD (f' @PL.ym (f' @PL.yq (f' @PL.Ab (f' @PL.Dg (f' @PL.Cp (f' @PL.CI (f' @PL.xu (f' @PL.CY (f' @PL.Bh (f' @PL.zR (f' @PL.Aa (f' @PL.wk (f' @PL.xT (f' @PL.BD (f' @PL.BB (f' @PL.CU (f' @PL.Bm (f' @PL.qC (f' @PL.qN (f' @PL.pP (f' @PL.Bu (@PL.A5))))))))))))))))))))))))))))))))))))))))))))))))))))))))
noncomputable def uZ:=f' @PL.Ct (f' @PL.vE (f' @PL.vf (f' @PL.DK (f' @PL.p0 (f' @PL.m4 (f' @PL.yY (f' @PL.eS (f' @PL.An (f' @PL.qQ (f' @PL.bq (f' @PL.iq (f' @PL.uN (f' @PL.vK (f' @PL.ui (f' @PL.vc (f' @PL.yR (f' @PL.uV (f' @g_.{0,0} (f' @Hg.{0,0} (f' @a_.{0,0} (f' @List.zipWith_nil_left.{0,0,0} (f' @List.zipWith_nil_right.{0,0,0} (f' @decide_eq_true_eq (f' @Jt (f' @Jk (f' @G4 (f' @Bool.and_self (f' @true_and (f' @Option.map_some.{0,0} (f' @HN (f' @Il (f' @PySem.sizeLine_eq (@Mp.yg)))))))))))))))))))))))))))))))))
theorem zQ{α:Type}{l:List α}{i:Int}(h0:0<=i)(h1:i < l.length):∃ x,x∈l/\atI l i=some x:=by
 have h:i.toNat < l.length:=by omega
 refine⟨l[i.toNat],Hk h,?_⟩
 have:=nK (xs:=l) (j:=i.toNat) (b_ h)
 rwa[HB h0]at this
theorem lM(P:Int->Prop){ns:List Int}{i:Int}(h0:0<=i)(h1:i < ns.length)(hp:∀ x∈ns,P x):∃ v,atI (ns.map T.int) i=some (.int v)/\P v:=by
 obtain⟨t,m,e⟩:=zQ (l:=ns.map T.int) h0 (by rw[a_];exact h1)
 obtain⟨v,mv,rfl⟩:=FG.mp m
 exact⟨v,e,hp v mv⟩
theorem C0{K:Kk}{t:T}{ns:List Int}(h:Scr K t ns):er t=t/\isAny t=false:=by
 rcases h with rfl | ⟨a,rfl,_⟩
 ·exact⟨by simp only[er,eS],rfl⟩
 exact⟨rfl,rfl⟩
theorem dQ{c:Cells}{n:Nat}:bP (stT c n)=true:=by simp only[stT,bP,jK,iq,vK,G4,J3]
theorem map_take{α β:Type}{g:α->β}{l:List α}{i:Nat}{x:α}(h:l[i]?=some x):G1 g (l.take (i + 1))=G1 g (l.take i)++[g x]:=by rw[Gy,h,v_];rfl
theorem uC{α β:Type}{g:α->β}{p:α->Bool}{l:List α}{i:Nat}{x:α}(h:l[i]?=some x):G1 g ((l.take (i + 1)).filter p)=G1 g ((l.take i).filter p)++(if p x then [g x]else []):=by
 rw[Gy,h,HM,v_]
 congr 1
 show G1 g (List.filter p [x])=_
 rw[Ic]
 cases p x <;> rfl
theorem lq{i:Int}:isD (.int i)=true:=rfl
theorem kx:cA []=true:=rfl
theorem kN{i:Int}{ts:List T}:cA (.int i::ts)=cA ts:=by rw[cA,lq,G4]
theorem gn{a b:Int}:(b7 (dtL [.int a,.int b]) < 180)=True:=eq_true (by simp[dt,dtL,dpt,b7])
def Gd(t:T)(n:Nat):Prop:=isD t=true/\gd (dt t)=true/\dpt (dt t)<=n
def GdL(ts:List T)(n:Nat):Prop:=cA ts=true/\gdL (dtL ts)=true/\b7 (dtL ts)<=n
theorem Ac{i:Int}{n:Nat}:Gd (.int i) n:=⟨rfl,rfl,by rw[dt,dpt.eq_def];exact B' _⟩
theorem nA{n:Nat}:GdL [] n:=⟨rfl,by simp only[dtL,gdL],by simp only[dtL,b7,B']⟩
theorem dN{t:T}{ts:List T}{n:Nat}(h:Gd t n)(r:GdL ts n):GdL (t::ts) n:=
 ⟨by rw[cA,h.1,r.1];rfl,by rw[dtL,gdL,h.2.1,r.2.1];rfl,by rw[dtL,b7];exact Nat.max_le.mpr ⟨h.2.2,r.2.2⟩⟩
theorem nC{α:Type}{g:α->T}{l:List α}{n:Nat}(h:∀ x∈l,Gd (g x) n):GdL (l.map g) n:=by
 induction l with
 | nil=>exact nA
 | cons x l ih=>exact dN (h x (y_ ..)) (ih fun y m=>h y (o_ _ m))
theorem BA{o:Bool}{ts:List T}{n:Nat}(h:GdL ts n)(hl:ts.length<=100000):Gd (.lst o ts) (n + 1):=
 ⟨by rw[isD];exact h.1,by rw[dt,gd,h.2.1,decide_eq_true (by rw[jM,a_];exact hl)];rfl,by rw[dt,dpt];exact H_ h.2.2⟩
theorem EY{ts:List T}{n:Nat}(h:GdL ts n)(hl:ts.length<=100000):Gd (.tup ts) (n + 1):=
 ⟨by rw[isD];exact h.1,by rw[dt,gd,h.2.1,decide_eq_true (by rw[jM,a_];exact hl)];rfl,by rw[dt,dpt];exact H_ h.2.2⟩
theorem yc{f d:T}{n m:Nat}{k:T->List T->Prop}(h:Gd d n)(hn:n < m)(hi:isD f=true)(e:dt f=dt d)(q:k (.bl true) [f,d]):iF m [f,d] k:=⟨f,d,rfl,hi,h.1,e,h.2.1,FW h.2.2 hn,q⟩
theorem same_self{d:T}{n m:Nat}{k:T->List T->Prop}(h:Gd d n)(hn:n < m)(q:k (.bl true) [d,d]):iF m [d,d] k:=yc h hn h.1 rfl q
abbrev Rws:=List (Int × Nat)
def rdB(R:Rws)(d i:Nat):Bool:=match R[i]? with
 | some r=>!d.testBit i && (r.2 &&& d == r.2)
 | none=>false
def rdy(R:Rws)(d:Nat):List Nat:=(m_ R.length).filter (rdB R d)
def tl(R:Rws)(i:Nat):Int:=(R.getD i (0,0)).1
def cst(t:Option Int)(u:Int):Int:=if t=some u then 0 else 1
def tkF(R:Rws):Option Int->List Nat->Int
 | _,[]=>0
 | t,i::o=>tkF R (some (tl R i)) o + cst t (tl R i)
def Ch(R:Rws):Nat->List Nat->Prop
 | _,[]=>True
 | d,i::o=>i∈rdy R d/\Ch R (d ||| 2 ^ i) o
def orM:Nat->List Nat->Nat
 | d,[]=>d
 | d,i::o=>orM (d ||| 2 ^ i) o
def Cmp(R:Rws)(d:Nat)(o:List Nat):Prop:=Ch R d o/\orM d o=2 ^ R.length - 1
def Sub(a b:Nat):Prop:=∀ j,a.testBit j=true->b.testBit j=true
theorem tM{a b:Nat}:a &&& b=a↔Sub a b:=by
 constructor
 ·intro h j hj
  have:=congrArg (fun x=>x.testBit j) h
  simp only[Iq,hj,G4]at this
  exact this
 intro h
 apply Hr
 intro j
 rw[Iq]
 cases e:a.testBit j with
 | false=>rfl
 | true=>rw[h j e];rfl
theorem mK{d i j:Nat}:(d ||| 2 ^ i).testBit j=(d.testBit j || decide (i=j)):=by
 rw[Jn,Jv]
theorem kE{n d i:Nat}(h:d < 2 ^ n)(hi:i < n):d ||| 2 ^ i < 2 ^ n:=Nat.or_lt_two_pow h (Nat.pow_lt_pow_right (by decide) hi)
theorem xr{d i:Nat}(h:d.testBit i=false):d < d ||| 2 ^ i:=by
 refine Gp JX fun z=>?_
 have:(d ||| 2 ^ i).testBit i=true:=by rw[mK];simp
 rw[<-z,h]at this
 cases this
theorem cN{n j:Nat}:(2 ^ n - 1).testBit j=decide (j < n):=Nat.testBit_two_pow_sub_one ..
theorem BW{n d j:Nat}(h:d < 2 ^ n)(hj:n<=j):d.testBit j=false:=Nat.testBit_lt_two_pow (u_ h (Hs (by decide) hj))
theorem i5{n d:Nat}(h:d < 2 ^ n)(s:Sub (2 ^ n - 1) d):d=2 ^ n - 1:=by
 apply Hr
 intro j
 rw[cN]
 by_cases hj:j < n
 ·rw[decide_eq_true hj]
  exact s j (by rw[cN,decide_eq_true hj])
 rw[decide_eq_false hj,BW h (by omega)]
theorem g9{R:Rws}{d i:Nat}:i∈rdy R d↔∃ r,R[i]?=some r/\d.testBit i=false/\Sub r.2 d:=by
 unfold rdy
 rw[Gs,Gg]
 unfold rdB
 constructor
 ·rintro⟨h,e⟩
  rw[b_ h]at e ⊢
  simp only[FI,IM,beq_iff_eq]at e
  exact⟨_,rfl,e.1,tM.mp e.2⟩
 rintro⟨r,e,h1,h2⟩
 refine⟨(c_.mp e).1,?_⟩
 rw[e]
 simp only[FI,IM,beq_iff_eq]
 exact⟨h1,tM.mpr h2⟩
theorem bx{R:Rws}{d i:Nat}(h:i∈rdy R d):i < R.length:=by
 obtain⟨r,e,_⟩:=g9.mp h
 exact(c_.mp e).1
theorem eU{R:Rws}{d i:Nat}(h:i∈rdy R d):d.testBit i=false:=by
 obtain⟨r,_,e,_⟩:=g9.mp h
 exact e
theorem Ca(R:Rws)(d:Nat):(rdy R d).Pairwise (· < ·):=List.Pairwise.filter _ HZ
theorem cO(R:Rws):rdy R (2 ^ R.length - 1)=[]:=List.eq_nil_iff_forall_not_mem.mpr fun i h=>by
 have h1:=eU h
 rw[cN,decide_eq_true (bx h)]at h1
 cases h1
theorem pF{R:Rws}{d:Nat}(hd:d < 2 ^ R.length)(ne:d≠2 ^ R.length - 1):∀(o:List Nat) (d0:Nat),Cmp R d0 o->Sub d0 d->rdy R d≠[]
 | [],d0,h,s=>absurd (i5 hd (by have:d0=_:=h.2;rw[<-this];exact s)) ne
 | i::o,d0,h,s=>by
  cases e:d.testBit i with
  | true=>
   refine pF hd ne o (d0 ||| 2 ^ i) ⟨h.1.2,h.2⟩ fun j hj=>?_
   rw[mK,HE,decide_eq_true_iff]at hj
   rcases hj with hj | rfl
   ·exact s j hj
   ·exact e
  | false=>
   obtain⟨r,e1,_,e3⟩:=g9.mp h.1.1
   exact List.ne_nil_of_mem (g9.mpr ⟨r,e1,e,fun j hj=>s j (e3 j hj)⟩)
def dH(R:Rws):Prop:=∃ o,Cmp R 0 o
theorem wV{R:Rws}{d:Nat}(h:dH R)(hd:d < 2 ^ R.length)(ne:d≠2 ^ R.length - 1):rdy R d≠[]:=by
 obtain⟨o,h⟩:=h
 exact pF hd ne o 0 h fun j hj=>by rw[Ie]at hj;cases hj
def TS(R:Rws)(t:Option Int):Prop:=t=none\/∃ i,i < R.length/\t=some (tl R i)
noncomputable def VOk(R:Rws)(v:Nat->Option Int->Int)(d:Nat)(t:Option Int):Prop:=
 (rdy R d=[]/\v d t=0)\/(∃ i∈rdy R d,v d t=v (d ||| 2 ^ i) (some (tl R i)) + cst t (tl R i))/\∀ i∈rdy R d,v d t<=v (d ||| 2 ^ i) (some (tl R i)) + cst t (tl R i)
def vj(R:Rws)(v:Nat->Option Int->Int):Prop:=∀ d t,d < 2 ^ R.length->TS R t->VOk R v d t
theorem Ds{R:Rws}{v:Nat->Option Int->Int}(V:vj R v):∀(o:List Nat) (d:Nat) (t:Option Int),d < 2 ^ R.length->TS R t->Cmp R d o->v d t<=tkF R t o
 | [],d,t,hd,ht,h=>by
  have e:d=2 ^ R.length - 1:=h.2
  rcases V d t hd ht with⟨_,e0⟩ | ⟨⟨i,m,_⟩,_⟩
  ·rw[e0];exact Ke _
  ·rw[e,cO]at m;cases m
 | i::o,d,t,hd,ht,h=>by
  have il:=bx h.1.1
  have ih:=Ds V o (d ||| 2 ^ i) (some (tl R i)) (kE hd il) (.inr ⟨i,il,rfl⟩) ⟨h.1.2,h.2⟩
  rcases V d t hd ht with⟨e0,_⟩ | ⟨_,g⟩
  ·have:=h.1.1;rw[e0]at this;cases this
  have:=g i h.1.1
  rw[tkF]
  omega
def ci(o:List Nat):List Int:=o.map fun(i:Nat)=>(i:Int)
noncomputable def um(R:Rws)(v:Nat->Option Int->Int)(d:Nat)(t:Option Int)(o:List Nat):Prop:=Cmp R d o/\tkF R t o=v d t/\∀ o',Cmp R d o'->tkF R t o'=v d t->ZM.lx (ci o') (ci o)=false
theorem vh{R:Rws}{v:Nat->Option Int->Int}(V:vj R v){t:Option Int}(ht:TS R t):um R v (2 ^ R.length - 1) t []:=by
 have hp:0 < 2 ^ R.length:=Gw _
 refine⟨⟨trivial,rfl⟩,?_,fun o' h _=>?_⟩
 ·rcases V (2 ^ R.length - 1) t (by omega) ht with⟨_,e0⟩ | ⟨⟨i,m,_⟩,_⟩
  ·rw[e0];rfl
  rw[cO]at m;cases m
 cases o' with
 | nil=>rfl
 | cons i o'=>have:=h.1.1;rw[cO]at this;cases this
theorem uw{R:Rws}{v:Nat->Option Int->Int}(V:vj R v){d i:Nat}{t:Option Int}{o:List Nat}(hd:d < 2 ^ R.length)(ht:TS R t)(hi:i∈rdy R d)(hv:v (d ||| 2 ^ i) (some (tl R i)) + cst t (tl R i)=v d t)
  (hm:∀ j∈rdy R d,v (d ||| 2 ^ j) (some (tl R j)) + cst t (tl R j)=v d t->i<=j) (B:um R v (d ||| 2 ^ i) (some (tl R i)) o):um R v d t (i::o):=by
 obtain⟨b1,b2,b3⟩:=B
 refine⟨⟨⟨hi,b1.1⟩,b1.2⟩,by rw[tkF,b2,hv],fun o' h e=>?_⟩
 cases o' with
 | nil=>
  have e:d=2 ^ R.length - 1:=h.2
  rw[e,cO]at hi
  cases hi
 | cons j o'=>
  have jl:=bx h.1.1
  have lb:=Ds V o' (d ||| 2 ^ j) (some (tl R j)) (kE hd jl) (.inr ⟨j,jl,rfl⟩) ⟨h.1.2,h.2⟩
  rw[tkF]at e
  rcases V d t hd ht with⟨e0,_⟩ | ⟨_,g⟩
  ·rw[e0]at hi;cases hi
  have gj:=g j h.1.1
  have ej:v (d ||| 2 ^ j) (some (tl R j)) + cst t (tl R j)=v d t:=by omega
  have ij:=hm j h.1.1 ej
  show(if(j:Int)=i then ZM.lx (ci o') (ci o)else decide ((j:Int) < i))=false
  by_cases q:j=i
  ·subst q
   rw[if_pos rfl]
   exact b3 o' ⟨h.1.2,h.2⟩ (by omega)
  rw[if_neg (by omega)]
  exact decide_eq_false (by omega)
def sM(l:List Nat):Nat:=orM 0 l
theorem t4:∀(l:List Nat) (d i:Nat),orM d (l++[i])=orM d l ||| 2 ^ i
 | [],d,i=>rfl
 | j::l,d,i=>t4 l (d ||| 2 ^ j) i
theorem nS:∀(l:List Nat) (d j:Nat),(orM d l).testBit j=true↔d.testBit j=true\/j∈l
 | [],d,j=>⟨.inl,fun h=>h.elim id fun m=>nomatch m⟩
 | i::l,d,j=>by
  rw[orM,nS l,mK,HE,decide_eq_true_iff,t_,or_assoc,eq_comm (a:=i)]
theorem de{l:List Nat}{j:Nat}:(sM l).testBit j=true↔j∈l:=by
 unfold sM
 rw[nS,Ie]
 exact⟨fun h=>h.elim (fun z=>nomatch z) id,.inr⟩
theorem tP{l:List Nat}{j:Nat}:(sM l).testBit j=false↔j ∉ l:=by
 rw[<-de,Bool.not_eq_true]
theorem rn{l:List Nat}{i:Nat}:sM (l++[i])=sM l ||| 2 ^ i:=t4 l 0 i
theorem ql{n:Nat}:∀(l:List Nat) (d:Nat),d < 2 ^ n->(∀ i∈l,i < n)->orM d l < 2 ^ n
 | [],d,h,_=>h
 | i::l,d,h,g=>ql l _ (kE h (g i y_)) fun j m=>g j (o_ _ m)
theorem DI{n:Nat}{l:List Nat}(g:∀ i∈l,i < n):sM l < 2 ^ n:=ql l 0 (Gw _) g
theorem wb{a b:List Nat}:Sub (sM a) (sM b)↔∀ i∈a,i∈b:=⟨fun h i m=>de.mp (h i (de.mpr m)),fun h j m=>de.mpr (h j (de.mp m))⟩
theorem B8{d:Nat}{l:List Nat}:d ||| sM l=orM d l:=by
 apply Hr
 intro j
 rw[Jn,G5,HE,de,nS]
theorem yw{R:Rws}{d:Nat}(hd:d < 2 ^ R.length)(h:rdy R d≠[]):d < (d ||| sM (rdy R d))/\(d ||| sM (rdy R d)) < 2 ^ R.length:=by
 rw[B8]
 refine⟨?_,ql _ _ hd fun i m=>bx m⟩
 obtain⟨i,m⟩:=List.exists_mem_of_ne_nil _ h
 rw[<-B8]
 refine Gp JX fun z=>?_
 have:(d ||| sM (rdy R d)).testBit i=true:=by rw[Jn,de.mpr m,Bool.or_true]
 rw[<-z,eU m]at this
 cases this
theorem dj{α:Type}[DecidableEq α]:∀ {l m:List α},l.Nodup->(∀ z∈l,z∈m)->l.length<=m.length:=by
 intro l
 induction l with
 | nil=>intro m _ _;exact B' _
 | cons a l ih=>
  intro m nd h
  obtain⟨n1,n2⟩:=D_.mp nd
  have hm:a∈m:=h a y_
  have:=ih (m:=m.erase a) n2 fun z hz=>(List.mem_erase_of_ne (fun e:z=a=>n1 (by rw[<-e];exact hz))).mpr (h z (o_ _ hz))
  rw[List.length_erase_of_mem hm]at this
  have:=List.length_pos_of_mem hm
  rw[k_]
  omega
theorem qp{n:Nat}{l:List Nat}(nd:l.Nodup)(g:∀ i∈l,i < n):l.length=n↔sM l=2 ^ n - 1:=by
 have hs:=DI g
 have len:=dj nd fun i m=>Gg.mpr (g i m)
 rw[z_]at len
 constructor
 ·intro h
  refine i5 hs fun j hj=>?_
  rw[cN,decide_eq_true_iff]at hj
  rw[de]
  by_cases z:j∈l
  ·exact z
  have:=dj (l:=j::l) (D_.mpr ⟨z,nd⟩) fun i m=>Gg.mpr ((t_.mp m).elim (fun e=>e ▸ hj) (g i))
  rw[z_,k_]at this
  omega
 intro h
 have:=dj (JO (n:=n)) (m:=l) fun i m=>by
  refine de.mp ?_
  rw[h,cN,decide_eq_true (Gg.mp m)]
 rw[z_]at this
 omega
theorem rV:∀ {a b:List Int},ZM.lx a b=false->ZM.lx b a=false->a=b
 | [],[],_,_=>rfl
 | [],_::_,h,_=>nomatch h
 | _::_,[],_,h=>nomatch h
 | x::a,y::b,h,g=>by
  rw[ZM.lx]at h g
  by_cases e:x=y
  ·subst e
   rw[if_pos rfl]at h g
   rw[rV h g]
  rw[if_neg e]at h
  rw[if_neg (LJ e)]at g
  have:=of_decide_eq_false h
  have:=of_decide_eq_false g
  omega
noncomputable def lC(R:Rws)(L:Int)(o:List Nat):Prop:=Cmp R 0 o/\tkF R none o=L/\∀ o',Cmp R 0 o'->ZM.lx (tkF R none o'::ci o') (L::ci o)=false
theorem y3{R:Rws}{v:Nat->Option Int->Int}(V:vj R v){o:List Nat}(B:um R v 0 none o):lC R (v 0 none) o:=by
 obtain⟨b1,b2,b3⟩:=B
 refine⟨b1,b2,fun o' h=>?_⟩
 have lb:=Ds V o' 0 none (Gw _) (.inl rfl) h
 show(if tkF R none o'=v 0 none then ZM.lx (ci o') (ci o)else decide (tkF R none o' < v 0 none))=false
 by_cases e:tkF R none o'=v 0 none
 ·rw[if_pos e];exact b3 o' h e
 rw[if_neg e];exact decide_eq_false (by omega)
def chs:Option Int->List (Option Int)->Nat
 | _,[]=>0
 | t,u::l=>chs u l + if t=u then 0 else 1
theorem v3(R:Rws):∀(o:List Nat) (t:Option Int),(chs t (o.map fun i=>some (tl R i)):Int)=tkF R t o
 | [],t=>rfl
 | i::o,t=>by
  rw[g_,chs,tkF,<-v3 R o,cst]
  split <;> simp
theorem se:∀(l:List (Option Int)) (t:Option Int),((m_ l.length).filter fun k=>decide ((t::l)[k]?≠(t::l)[k + 1]?)).length=chs t l
 | [],t=>rfl
 | u::l,t=>by
  rw[k_,Jg,Ic,List.filter_map,chs,<-se l u]
  have e:((m_ l.length).filter ((fun k=>decide ((t::u::l)[k]?≠(t::u::l)[k + 1]?)) ∘ Nat.succ))=((m_ l.length).filter fun k=>decide ((u::l)[k]?≠(u::l)[k + 1]?)):=rfl
  rw[e]
  by_cases h:t=u
  ·subst h
   rw[if_neg (by simp),if_pos rfl,a_]
   rfl
  rw[if_pos (by simpa using h),if_neg h,k_,a_]
theorem xO{P:Kz}{w:KD}{K:Kk}{mg:Str->Option Kj}{base:KH}{k n:Nat}{f:Kl}{fd:KP}{ps:List Str}(h:n=ps.length):FnOk P w K mg base CX0 k f fd ps (aE K n fun _ _=>False):=
 ⟨fun _ _ _ _ ⟨_,_,_,_,h2,_⟩=>h2.trans h,fun _ _ _ _ _ _ _ _ _ _ _ _ _ ⟨_,_,_,_,_,_,z,_⟩=>z.elim⟩
abbrev nT(i:Nat):T:=.int (i:Int)
def rwT(r:Int × Nat):T:=.tup [.int r.1,.int (r.2:Int)]
theorem jG{r:Int × Nat}:er (rwT r)=rwT r:=rfl
theorem eh{r:Int × Nat}:bP (rwT r)=true:=rfl
theorem cJ{r:Int × Nat}:aN (rwT r)=true:=rfl
theorem cS{r:Int × Nat}:isAny (rwT r)=false:=rfl
theorem fU{r:Int × Nat}{k:T->Prop}:ixT (rwT r) (.int 0) k=k (.int r.1):=rfl
theorem gR{r:Int × Nat}{k:T->Prop}:ixT (rwT r) (.int 1) k=k (.int (r.2:Int)):=rfl
theorem bOr(a b:Nat):LR (a:Int) (b:Int)=((a ||| b:Nat):Int):=by
 have nn:∀ x:Int,MR (MR x)=x:=fun x=>by unfold MR;omega
 have ng:∀ x:Nat,¬ 0<=MR (x:Int):=fun x=>by unfold MR;omega
 unfold LR
 rw[RS (ng a) (ng b),nn,nn,nn,E_,E_]
theorem wg(a b:Nat):MM (a:Int) (b:Int)=((a &&& b:Nat):Int):=by
 rw[RT (ID a) (ID b),E_,E_]
theorem xK(i:Nat):(1:Int) * 2 ^ (i:Int).toNat=((2 ^ i:Nat):Int):=by
 rw[Int.one_mul,E_,Int.natCast_pow]
 rfl
theorem oy{i:Nat}(h:i<=1000000):v9 1 (i:Int):=⟨ID i,by omega,by decide⟩
theorem zJ{ns:List Nat}{i n:Nat}(h:ns[i]?=some n):sM (ns.take (i + 1))=sM (ns.take i) ||| 2 ^ n:=by
 rw[Gy,h]
 exact rn
structure Jb where
 tool:Int
 needs:List Nat
 a:Bool
 b:Bool
def ndT(b:Bool)(ns:List Nat):T:=if b then .lst false (ns.map nT)else .tup (ns.map nT)
def jbT(j:Jb):T:=if j.a then .lst false [.int j.tool,ndT j.b j.needs]else .tup [.int j.tool,ndT j.b j.needs]
def jsT(c o:Bool)(J:List Jb):T:=if c then .tup (J.map jbT)else .lst o (J.map jbT)
def aX(J:List Jb):Rws:=J.map fun j=>(j.tool,sM j.needs)
theorem ku{ns:List Nat}:erL (ns.map nT)=ns.map nT:=by rw[eS];rfl
theorem df{b:Bool}{ns:List Nat}:er (ndT b ns)=ndT b ns:=by
 cases b
 ·show er (.tup (ns.map nT))=.tup (ns.map nT)
  rw[er,ku]
 show er (.lst false (ns.map nT))=.lst false (ns.map nT)
 rw[er,ku]
theorem cf{b:Bool}{ns:List Nat}:isAny (ndT b ns)=false:=by cases b <;> rfl
theorem cj{b:Bool}{ns:List Nat}:items (ndT b ns)=some (ns.map nT):=by cases b <;> rfl
theorem d6{j:Jb}:er (jbT j)=jbT j:=by
 unfold jbT
 cases j.a
 ·show er (.tup [.int j.tool,ndT j.b j.needs])=.tup [.int j.tool,ndT j.b j.needs]
  rw[er,erL,erL,erL,df];rfl
 show er (.lst false [.int j.tool,ndT j.b j.needs])=.lst false [.int j.tool,ndT j.b j.needs]
 rw[er,erL,erL,erL,df];rfl
theorem cW{j:Jb}:isAny (jbT j)=false:=by unfold jbT;cases j.a <;> rfl
theorem cU{j:Jb}:aN (jbT j)=true:=by rw[<-d6];exact bq _
theorem hU{j:Jb}{k:T->Prop}:ixT (jbT j) (.int 0) k=k (.int j.tool):=by unfold jbT;cases j.a <;> rfl
theorem hX{j:Jb}{k:T->Prop}:ixT (jbT j) (.int 1) k=k (ndT j.b j.needs):=by unfold jbT;cases j.a <;> rfl
theorem iM{c o:Bool}{J:List Jb}:er (jsT c o J)=jsT c false J:=by
 have e:erL (J.map jbT)=J.map jbT:=by rw[eS];exact Gh fun _ _=>d6
 cases c
 ·show er (.lst o (J.map jbT))=.lst false (J.map jbT)
  rw[er,e]
 show er (.tup (J.map jbT))=.tup (J.map jbT)
 rw[er,e]
theorem cK{c o:Bool}{J:List Jb}:isAny (jsT c o J)=false:=by cases c <;> rfl
theorem cG{c o:Bool}{J:List Jb}:items (jsT c o J)=some (J.map jbT):=by cases c <;> rfl
theorem qP(n:Nat):(((2 ^ n:Nat):Int) - 1)=((2 ^ n - 1:Nat):Int):=by
 have:0 < 2 ^ n:=Gw n
 omega
theorem vW{l:List Nat}:bz (l.map nT)=true:=by rw[iq];exact Hj.mpr fun _ _=>rfl
theorem vC{l:List Nat}:intsOf (l.map nT)=some (ci l):=by
 rw[show l.map nT=(ci l).map T.int by unfold ci;rw[FZ];rfl]
 exact eZ _
theorem zC{R:Rws}{d i:Nat}{r:Int × Nat}(h:R[i]?=some r):((m_ (i + 1)).filter (rdB R d)).map nT=((m_ i).filter (rdB R d)).map nT++if !d.testBit i && (r.2 &&& d == r.2)then [nT i]else []:=by
 rw[HD,HM,v_]
 congr 1
 have:rdB R d i=(!d.testBit i && (r.2 &&& d == r.2)):=by unfold rdB;rw[h]
 rw[Ic,JW,this]
 split <;> rfl
theorem BR(a b:Nat):decide (((a &&& b:Nat):Int)=(a:Int))=(a &&& b == a):=by
 by_cases h:a &&& b=a
 ·rw[h,decide_eq_true rfl,beq_self_eq_true]
 rw[decide_eq_false (by omega)]
 exact(beq_eq_false_iff_ne.mpr h).symm
theorem ni{α:Type}{g:α->T}{l:List α}{n i:Nat}{t:T}(h:(J9 (fun(i:Nat) x=>T.tup [T.int (i:Int),x]) (m_ n) (l.map g))[i]?=some t):∃ x,l[i]?=some x/\t=.tup [.int (i:Int),g x]:=by
 rw[Jm,A']at h
 cases e1:(m_ n)[i]? with
 | none=>rw[e1]at h;cases h
 | some j=>
  cases e2:l[i]? with
  | none=>rw[e1,e2]at h;cases h
  | some x=>
   rw[e1,e2]at h
   cases h
   obtain⟨h1,h2⟩:=c_.mp e1
   rw[List.getElem_range]at h2
   exact⟨x,rfl,by rw[h2]⟩
theorem fL{α:Type}{g:α->T}{l:List α}:(J9 (fun(i:Nat) x=>T.tup [T.int (i:Int),x]) (m_ l.length) (l.map g)).length=l.length:=by
 rw[Ju,z_,a_];omega
theorem y8{R:Rws}:intsOf (R.map fun r=>T.int r.1)=some (R.map fun r=>r.1):=by
 rw[show(R.map fun r=>T.int r.1)=(R.map fun r=>r.1).map T.int by rw[FZ];rfl]
 exact eZ _
theorem cH{c:Bool}{J:List Jb}:aN (jsT c false J)=true:=by rw[<-iM (o:=false)];exact bq _
theorem sE{d i:Nat}:(d &&& 2 ^ i=0)↔d.testBit i=false:=by
 constructor
 ·intro h
  have:=congrArg (fun x=>x.testBit i) h
  simp only[Iq,Nat.testBit_two_pow_self,J3,Ie]at this
  exact this
 intro h
 apply Hr
 intro j
 rw[Iq,Jv,Ie]
 by_cases e:i=j
 ·subst e;rw[h];rfl
 rw[decide_eq_false e,Ji]
theorem Fl(d i:Nat):(((d &&& 2 ^ i:Nat):Int) != 0)=d.testBit i:=by
 cases e:d.testBit i with
 | false=>rw[sE.mpr e];rfl
 | true=>
  refine bne_iff_ne.mpr fun z=>?_
  have:d &&& 2 ^ i=0:=by omega
  rw[sE.mp this]at e
  cases e
def mn0:List Int->Int
 | []=>0
 | x::l=>l.foldl min x
theorem nh:∀(l:List Int) (x:Int),l.foldl min x<=x/\∀ y∈l,l.foldl min x<=y
 | [],x=>⟨Ke _,fun y m=>nomatch m⟩
 | z::l,x=>by
  obtain⟨h1,h2⟩:=nh l (min x z)
  rw[Ij]
  refine⟨by omega,fun y m=>?_⟩
  rcases t_.mp m with rfl | m
  ·omega
  exact h2 y m
theorem jI:∀(l:List Int) (x:Int),l.foldl min x=x\/l.foldl min x∈l
 | [],x=>.inl rfl
 | z::l,x=>by
  rw[Ij]
  rcases jI l (min x z)with h | h
  ·by_cases q:x<=z
   ·exact .inl (by rw[h];omega)
   exact .inr (by rw[h,show min x z=z by omega];exact y_)
  exact .inr (o_ _ h)
theorem C1{l:List Int}{m:Int}(h:l=[]/\m=0\/m∈l/\∀ n∈l,m<=n):m=mn0 l:=by
 rcases h with⟨rfl,rfl⟩ | ⟨h1,h2⟩
 ·rfl
 cases l with
 | nil=>cases h1
 | cons x l=>
  have a:=nh l x
  have b:mn0 (x::l)∈x::l:=(jI l x).elim (fun e=>by show l.foldl min x∈_;rw[e];exact y_) (o_ _)
  have c:=h2 _ b
  have d:mn0 (x::l)<=m:=(t_.mp h1).elim (fun e=>by rw[e];exact a.1) (a.2 m)
  omega
noncomputable def lv(R:Rws):Nat->Nat->Option Int->Int
 | 0,_,_=>0
 | f + 1,d,t=>mn0 ((rdy R d).map fun i=>lv R f (d ||| 2 ^ i) (some (tl R i)) + cst t (tl R i))
theorem sf{R:Rws}:∀(f g d:Nat) (t:Option Int),d < 2 ^ R.length->2 ^ R.length - d<=f->2 ^ R.length - d<=g->lv R f d t=lv R g d t
 | 0,g,d,t,hd,hf,_=>by omega
 | f + 1,0,d,t,hd,_,hg=>by omega
 | f + 1,g + 1,d,t,hd,hf,hg=>by
  rw[lv,lv]
  congr 1
  refine Gh fun i m=>?_
  have h1:=xr (eU m)
  have h2:=kE hd (bx m)
  rw[sf f g (d ||| 2 ^ i) _ h2 (by omega) (by omega)]
def Lv(R:Rws)(d:Nat)(t:Option Int):Int:=lv R (2 ^ R.length) d t
theorem AA{R:Rws}{d:Nat}{t:Option Int}(hd:d < 2 ^ R.length):Lv R d t=mn0 ((rdy R d).map fun i=>Lv R (d ||| 2 ^ i) (some (tl R i)) + cst t (tl R i)):=by
 unfold Lv
 rw[sf _ (2 ^ R.length + 1) d t hd (by omega) (by omega),lv]
theorem B3(R:Rws):vj R (Lv R):=fun d t hd ht=>by
 have e:=AA (t:=t) hd
 cases h:rdy R d with
 | nil=>exact .inl ⟨h,by rw[e,h];rfl⟩
 | cons i l=>
  rw[h]at e
  have a:=nh (l.map fun i=>Lv R (d ||| 2 ^ i) (some (tl R i)) + cst t (tl R i)) (Lv R (d ||| 2 ^ i) (some (tl R i)) + cst t (tl R i))
  refine .inr ⟨?_,fun j m=>?_⟩
  ·rw[e,h]
   rcases jI (l.map fun i=>Lv R (d ||| 2 ^ i) (some (tl R i)) + cst t (tl R i)) (Lv R (d ||| 2 ^ i) (some (tl R i)) + cst t (tl R i))with q | q
   ·exact⟨i,y_,q⟩
   obtain⟨j,m,ej⟩:=FG.mp q
   exact⟨j,o_ _ m,ej.symm⟩
  rw[h]at m
  rw[e]
  rcases t_.mp m with rfl | m
  ·exact a.1
  exact a.2 _ (FG.mpr ⟨j,m,rfl⟩)
abbrev Ent:=(Nat × Option Int) × Int
def tK:Option Int->Key
 | none=>.inr none
 | some x=>.inl x
def tT:Option Int->T
 | none=>.non
 | some x=>.int x
def kD(d:Nat)(t:Option Int):List Key:=[.inl (d:Int),tK t]
def dM(D:List Ent):List (List Key × T):=D.map fun e=>(kD e.1.1 e.1.2,.int e.2)
theorem BL{a b:Option Int}(h:tK a=tK b):a=b:=by
 cases a <;> cases b <;> cases h <;> rfl
theorem xD{d d':Nat}{t t':Option Int}(h:kD d t=kD d' t'):(d,t)=(d',t'):=by
 obtain⟨h1,h2⟩:=GD h
 have h1:=RH h1
 rw[BL (GD h2).1,show d=d' by omega]
def DOk(R:Rws)(D:List Ent):Prop:=∀ e∈D,e.2=Lv R e.1.1 e.1.2
theorem rR{R:Rws}:∀ {D:List Ent} {d:Nat} {t:Option Int},DOk R D->(d,t)∈D.map (·.1)->kB (dM D) (kD d t)=some (.int (Lv R d t)):=by
 intro D d t
 induction D with
 | nil=>intro _ m;cases m
 | cons e D ih=>
  intro ok m
  show G8 _ (List.find? _ ((kD e.1.1 e.1.2,T.int e.2)::dM D))=_
  rw[FY]
  by_cases z:kD e.1.1 e.1.2=kD d t
  ·rw[decide_eq_true z]
   have:=xD z
   have oe:=ok e y_
   have e1:e.1.1=d:=congrArg (·.1) this
   have e2:e.1.2=t:=congrArg (·.2) this
   show some (T.int e.2)=_
   rw[oe,e1,e2]
  rw[decide_eq_false z]
  refine ih (fun e m=>ok e (o_ _ m)) ?_
  rw[g_]at m
  rcases t_.mp m with q | q
  ·exact absurd (by rw[<-q]) z
  exact q
theorem BK{D:List Ent}{d:Nat}{t:Option Int}{v:Int}(h:(d,t) ∉ D.map (·.1)):ip (dM D) (kD d t) (.int v)=dM (D++[((d,t),v)]):=by
 unfold ip
 have:((dM D).any fun kv=>decide (kv.1=kD d t))=false:=by
  rw[GV]
  intro z
  obtain⟨kv,m,e⟩:=Ho.mp z
  obtain⟨e',m',rfl⟩:=FG.mp m
  have:=xD (of_decide_eq_true e)
  exact h (FG.mpr ⟨e',m',this⟩)
 rw[this]
 show dM D++[(kD d t,T.int v)]=_
 unfold dM
 rw[v_]
 rfl
theorem nY{D:List Ent}:erT (dM D)=dM D:=by
 unfold dM
 induction D with
 | nil=>rfl
 | cons e D ih=>rw[g_,erT,ih];rfl
theorem kJ{t:Option Int}:dg [tT t]=some [tK t]:=by cases t <;> rfl
theorem oz{t:Option Int}:er (tT t)=tT t:=by cases t <;> rfl
theorem dZ{t:Option Int}:isAny (tT t)=false:=by cases t <;> rfl
theorem dr{t:Option Int}:aN (tT t)=true:=by cases t <;> rfl
theorem gS{t:Option Int}:bP (tT t)=true:=by cases t <;> rfl
theorem pf{t:Option Int}{u:Int}{k:T->Prop}:eqT (tT t) (.int u) k=k (.bl (decide (t=some u))):=by
 cases t with
 | none=>
  have e:eqD (dt (tT none)) (dt (.int u))=decide (none=some u):=by
   show eqD (dt .non) (dt (.int u))=decide (none=some u)
   rw[decide_eq_false (fun z=>nomatch z)]
   simp only[dt,eqD]
  unfold eqT
  rw[e]
  exact propext ⟨fun h=>h.2.2.2,fun h=>⟨rfl,rfl,show(0:Nat) < 190 by decide,h⟩⟩
 | some x=>
  refine xu.trans ?_
  rw[show decide (x=u)=decide (some x=some u)from decide_eq_decide.mpr ⟨congrArg some,D'⟩]
theorem dv{D:List Ent}:i8 (dM D)=true:=by
 unfold dM
 induction D with
 | nil=>rfl
 | cons e D ih=>rw[g_,i8,ih];rfl
theorem fR{D:List Ent}:h9 (dM D)=true:=by
 unfold dM
 induction D with
 | nil=>rfl
 | cons e D ih=>rw[g_,h9,ih];rfl
theorem fP:h9 []=true:=rfl
theorem iP{α:Type}{g:α->T}{l:List α}{i:Nat}{x:α}(h:l[i]?=some x):atI (l.map g) (i:Int)=some (g x):=nK (by rw[A',h];rfl)
theorem vJ{R:Rws}{i:Nat}(h:i < R.length):∃ m,R[i]?=some (tl R i,m):=by
 refine⟨R[i].2,?_⟩
 unfold tl
 rw[x_,b_ h]
 rfl
theorem BM{R:Rws}{ms:List Int}(h:∀ x,x∈ms↔∃ r∈R,x=r.1)(t:Option Int):t∈none::ms.map some↔TS R t:=by
 rw[t_,FG]
 refine or_congr_right ⟨?_,?_⟩
 ·rintro⟨x,m,rfl⟩
  obtain⟨r,mr,rfl⟩:=(h x).mp m
  obtain⟨i,hi,e⟩:=Gv.mp mr
  refine⟨i,hi,?_⟩
  unfold tl
  rw[x_,b_ hi,e]
  rfl
 rintro⟨i,hi,rfl⟩
 obtain⟨m,em⟩:=vJ hi
 exact⟨tl R i,(h _).mpr ⟨_,C_ em,rfl⟩,rfl⟩
theorem yE{R:Rws}{ms:List Int}(u:ms.Pairwise (· < ·))(h:∀ x,x∈ms↔∃ r∈R,x=r.1):(none::ms.map some).length<=R.length + 1:=by
 have:=dj (m:=R.map (·.1)) (u.imp fun h=>J_ h) fun z hz=>by
  obtain⟨r,m,rfl⟩:=(h z).mp hz
  exact FG.mpr ⟨r,m,rfl⟩
 rw[a_]at this
 rw[k_,a_]
 omega
theorem A3{ms:List Int}:T.non::G1 (fun x=>T.int x) ms=(none::ms.map some).map tT:=by
 rw[g_,FZ];rfl
theorem B9{ms:List Int}(u:ms.Pairwise (· < ·)):(none::ms.map some).Nodup:=by
 refine D_.mpr ⟨fun z=>?_,?_⟩
 ·obtain⟨x,_,e⟩:=FG.mp z
  cases e
 unfold List.Nodup
 rw[HX]
 exact u.imp fun h e=>J_ h (D' e)
noncomputable def Hld(R:Rws)(D:List Ent)(s:Nat)(l:List (Option Int)):Prop:=DOk R D/\∀ d t,(d,t)∈D.map (·.1)↔(2 ^ R.length - s<=d/\d < 2 ^ R.length/\TS R t)\/(d=2 ^ R.length - 1 - s/\t∈l)
theorem Eu(R:Rws):Hld R [] 0 []:=⟨fun e m=>(by cases m),fun d t=>⟨fun m=>(by cases m),fun h=>by
 rcases h with h | h
 ·omega
 cases h.2⟩⟩
theorem yI{R:Rws}{D:List Ent}{s:Nat}{l:List (Option Int)}{t:Option Int}(h:Hld R D s l):Hld R (D++[((2 ^ R.length - 1 - s,t),Lv R (2 ^ R.length - 1 - s) t)]) s (l++[t]):=by
 obtain⟨h1,h2⟩:=h
 refine⟨fun e m=>?_,fun d u=>?_⟩
 ·rcases FF.mp m with m | m
  ·exact h1 e m
  rw[A_.mp m]
 rw[v_,FF,h2 d u,FF,g_,Hg,A_,A_,Prod.mk.injEq,and_or_left,or_assoc]
theorem vw{R:Rws}{D:List Ent}{s:Nat}{l:List (Option Int)}(hs:s < 2 ^ R.length)(h:Hld R D s l)(hl:∀ t,t∈l↔TS R t):Hld R D (s + 1) []:=by
 refine⟨h.1,fun d t=>?_⟩
 rw[h.2 d t,hl t]
 constructor
 ·rintro(⟨a,b,c⟩ | ⟨a,b⟩)
  ·exact .inl ⟨by omega,b,c⟩
  exact .inl ⟨by omega,by omega,b⟩
 rintro(⟨a,b,c⟩ | ⟨_,b⟩)
 ·by_cases z:d=2 ^ R.length - 1 - s
  ·exact .inr ⟨z,c⟩
  exact .inl ⟨by omega,b,c⟩
 cases b
theorem C7{R:Rws}{D:List Ent}{s i:Nat}{l:List (Option Int)}(hs:s < 2 ^ R.length)(h:Hld R D s l)(m:i∈rdy R (2 ^ R.length - 1 - s)):((2 ^ R.length - 1 - s) ||| 2 ^ i,some (tl R i))∈D.map (·.1):=by
 refine(h.2 _ _).mpr (.inl ?_)
 have h1:=xr (eU m)
 have h2:=kE (n:=R.length) (d:=2 ^ R.length - 1 - s) (by omega) (bx m)
 exact⟨by omega,h2,.inr ⟨i,bx m,rfl⟩⟩
theorem vx{l:List Nat}{g:Nat->Int}:intsOf (l.map fun i=>T.int (g i))=some (l.map g):=by
 rw[show(l.map fun i=>T.int (g i))=(l.map g).map T.int by rw[FZ];rfl]
 exact eZ _
theorem vY{lo:Int}{n:Nat}:(dnT lo n).length=n:=by unfold dnT;rw[a_,z_]
theorem E9{lo:Int}{n i:Nat}{t:T}(h:(dnT lo n)[i]?=some t):i < n/\t=.int (lo - i):=by
 have hi:=(c_.mp h).1
 rw[vY]at hi
 unfold dnT at h
 rw[A',G2 hi]at h
 cases h
 exact⟨hi,rfl⟩
theorem nN{α:Type}{l:List α}{j:Nat}{t:α}(nd:l.Nodup)(h:l[j]?=some t):t ∉ l.take j:=fun m=>by
 obtain⟨hj,e⟩:=c_.mp h
 have s:l=l.take j++t::l.drop (j + 1):=by
  rw[<-e,List.getElem_cons_drop,FL]
 rw[s,Gz]at nd
 exact nd.2.2 t m t y_ rfl
noncomputable def gd0(R:Rws)(d:Nat)(t:Option Int):List Nat:=(rdy R d).filter fun i=>decide (Lv R (d ||| 2 ^ i) (some (tl R i)) + cst t (tl R i)=Lv R d t)
theorem wD{R:Rws}{d:Nat}{t:Option Int}(nr:dH R)(hd:d < 2 ^ R.length)(ne:d≠2 ^ R.length - 1)(ht:TS R t):∃ i l,gd0 R d t=i::l/\i∈rdy R d/\Lv R (d ||| 2 ^ i) (some (tl R i)) + cst t (tl R i)=Lv R d t/\∀ j∈rdy R d,Lv R (d ||| 2 ^ j) (some (tl R j)) + cst t (tl R j)=Lv R d t->i<=j:=by
 have h0:=wV nr hd ne
 rcases B3 R d t hd ht with⟨e,_⟩ | ⟨⟨i,m,e⟩,_⟩
 ·exact absurd e h0
 have hm:i∈gd0 R d t:=Gs.mpr ⟨m,decide_eq_true e.symm⟩
 have up:(gd0 R d t).Pairwise (· < ·):=(Ca R d).filter _
 cases h:gd0 R d t with
 | nil=>rw[h]at hm;cases hm
 | cons i0 l=>
  have m0:i0∈gd0 R d t:=by rw[h];exact y_
  obtain⟨m1,m2⟩:=Gs.mp m0
  refine⟨i0,l,rfl,m1,of_decide_eq_true m2,fun j mj ej=>?_⟩
  have hj:j∈gd0 R d t:=Gs.mpr ⟨mj,decide_eq_true ej⟩
  rw[h]at hj up
  rcases t_.mp hj with rfl | hj
  ·exact e_ _
  exact FK ((IA.mp up).1 j hj)
theorem Eh{J:List Jb}{i:Nat}(h:i < J.length):∃ b,J[i]?=some b/\b.tool=tl (aX J) i:=by
 refine⟨J[i],b_ h,?_⟩
 unfold tl aX
 rw[x_,A',b_ h]
 rfl
theorem Ba{a b:Option Int}:eqD (dt (tT a)) (dt (tT b))=decide (a=b):=by
 cases a with
 | none=>
  cases b with
  | none=>rw[decide_eq_true rfl];rfl
  | some y=>rw[decide_eq_false (fun z=>nomatch z)];show eqD (dt .non) (dt (.int y))=false;simp only[dt,eqD]
 | some x=>
  cases b with
  | none=>rw[decide_eq_false (fun z=>nomatch z)];show eqD (dt (.int x)) (dt .non)=false;simp only[dt,eqD]
  | some y=>
   show eqD (dt (.int x)) (dt (.int y))=_
   rw[dt,dt,eqD,GP]
   exact decide_eq_decide.mpr ⟨congrArg some,D'⟩
theorem oA{a b:Option Int}{k:T->Prop}:neT (tT a) (tT b) k=k (.bl (!decide (a=b))):=by
 unfold neT
 rw[Ba]
 refine propext ⟨fun h=>h.2.2.2,fun h=>⟨by cases a <;> rfl,by cases b <;> rfl,?_,h⟩⟩
 cases a
 ·show(0:Nat) < 190;decide
 show(0:Nat) < 190;decide
theorem ve{l:List (Option Int)}{i:Nat}{a b:Option Int}(ha:l[i]?=some a)(hb:l[i + 1]?=some b):((m_ (i + 1)).filter fun k=>decide (l[k]?≠l[k + 1]?)).map (fun _=>T.int 1)=((m_ i).filter fun k=>decide (l[k]?≠l[k + 1]?)).map (fun _=>T.int 1)++if a=b then []else [T.int 1]:=by
 rw[HD,HM,v_]
 congr 1
 rw[Ic,JW,ha,hb]
 by_cases e:a=b
 ·rw[if_pos e,if_neg (by simp[e])];rfl
 rw[if_neg e,if_pos (by simpa using e)];rfl
theorem iO{i:Nat}:∀(l:List Nat),kW (.int (i:Int)) (l.map nT)=decide (i∈l)
 | []=>rfl
 | a::l=>by
  have:=iO (i:=i) l
  unfold kW at this ⊢
  rw[g_,GC,this,dt,dt,eqD,G5,HE,beq_iff_eq,decide_eq_true_iff,decide_eq_true_iff,t_,eq_comm]
  exact or_congr_left ⟨fun h=>by omega,fun h=>by omega⟩
theorem eM:∀(l:List Nat),cA (l.map nT)=true
 | []=>rfl
 | a::l=>by rw[g_,cA,eM l];rfl
theorem sO:∀(l:List Nat),b7 (dtL (l.map nT))=0
 | []=>by simp only[Hg,dtL,b7]
 | a::l=>by rw[g_,dtL,b7,sO l,dt,dpt.eq_def];rfl
theorem jN{l:List Nat}:(b7 (dtL (l.map nT)) < 180)=True:=eq_true (by rw[sO];decide)
theorem i6{α:Type}{l:List α}{g:α->Bool}:boolsOf (l.map fun x=>T.bl (g x))=some (l.map g):=by
 induction l with
 | nil=>rfl
 | cons x l ih=>rw[g_,g_,boolsOf,ih]
theorem sD{J:List Jb}{os:List Nat}{i:Nat}{j:Jb}(h:J[i]?=some j):i∈rdy (aX J) (sM os)↔i ∉ os/\∀ n∈j.needs,n∈os:=by
 rw[g9]
 unfold aX
 rw[A',h]
 constructor
 ·rintro⟨r,e,h1,h2⟩
  cases e
  exact⟨tP.mp h1,wb.mp h2⟩
 rintro⟨h1,h2⟩
 exact⟨_,rfl,tP.mpr h1,wb.mpr h2⟩
theorem CN{α:Type}{l:List α}{g:α->Bool}:(l.map g).all id=l.all g:=by rw[HL];rfl
theorem xv{j:Jb}(h:j.a=false):jbT j=.tup [.int j.tool,ndT j.b j.needs]:=by unfold jbT;rw[h];rfl
theorem dy{b:Bool}{ns:List Nat}{k:T->Prop}:sU [ndT b ns] k=k (.lst true (ns.map nT)):=by cases b <;> rfl
theorem gb{b:Bool}{ns:List Nat}{k:T->Prop}:mL [ndT b ns] k=k (.tup (ns.map nT)):=by cases b <;> rfl
def joT(j:Jb):T:=.tup [.int j.tool,if j.b then .lst true (j.needs.map nT)else .tup (j.needs.map nT)]
theorem kA{j:Jb}:er (joT j)=jbT ⟨j.tool,j.needs,false,j.b⟩:=by
 unfold joT
 cases j.b
 ·show er (.tup [.int j.tool,.tup (j.needs.map nT)])=.tup [.int j.tool,.tup (j.needs.map nT)]
  simp only[er,erL,ku]
 show er (.tup [.int j.tool,.lst true (j.needs.map nT)])=.tup [.int j.tool,.lst false (j.needs.map nT)]
 simp only[er,erL,ku]
theorem rQ{α:Type}{a b:α}{r:Int}(h0:0<=r)(h1:r < 2):atI [a,b] r=some (if r=0 then a else b):=by
 rcases(by omega:r=0\/r=1)with rfl | rfl <;> rfl
theorem dI{j:Jb}{k:T->Prop}:sU [jbT j] k=k (.lst true [.int j.tool,ndT j.b j.needs]):=by unfold jbT;cases j.a <;> rfl
theorem CG(m:Nat):fC 0 m=(m_ m).map nT:=by
 unfold fC
 exact Gh fun i _=>by rw[Kb]
theorem qu{l:List Nat}{i x:Nat}(h:l[i]?=some x):l.Perm (x::l.eraseIdx i):=by
 induction l generalizing i with
 | nil=>simp at h
 | cons a l ih=>
  cases i with
  | zero=>cases h;exact .refl _
  | succ i=>exact((ih (i:=i) h).cons a).trans (.swap _ _ _)
theorem xX{l:List Nat}{i:Nat}:(l.map nT).eraseIdx i=(l.eraseIdx i).map nT:=by
 induction l generalizing i with
 | nil=>rfl
 | cons a l ih=>
  cases i with
  | zero=>rfl
  | succ i=>rw[g_,Jc,Jc,ih,g_]
theorem xc{r:Int}(h0:0<=r)(h1:r < 3):∃ ns:List Int,ns.length=5/\atI [T.lst true [T.int 0,T.int 1,T.int 2,T.int 3,T.int 4],T.lst true [T.int 3,T.int 7,T.int 0,T.int 11,T.int 2],T.lst true [T.int 40,T.int 5,T.int 1,T.int 6,T.int 0]] r=some (.lst true (ns.map T.int)):=by
 rcases(by omega:r=0\/r=1\/r=2)with rfl | rfl | rfl
 ·exact⟨[0,1,2,3,4],rfl,rfl⟩
 ·exact⟨[3,7,0,11,2],rfl,rfl⟩
 exact⟨[40,5,1,6,0],rfl,rfl⟩
theorem Ar{r:Int}(h0:0<=r)(h1:r < 4):∃ v:Nat,1<=v/\v<=8/\atI [T.int 1,T.int 2,T.int 3,T.int 8] r=some (.int (v:Int)):=by
 rcases(by omega:r=0\/r=1\/r=2\/r=3)with rfl | rfl | rfl | rfl
 ·exact⟨1,by decide,by decide,rfl⟩
 ·exact⟨2,by decide,by decide,rfl⟩
 ·exact⟨3,by decide,by decide,rfl⟩
 exact⟨8,by decide,by decide,rfl⟩
noncomputable def JP(os:List Nat)(m p:Nat)(J:List Jb):Prop:=J.length=m/\(∀ j∈J,j.a=false/\j.b=true/\j.needs.length<=8/\∀ i∈j.needs,i < m)/\∀ q i,q < p->os[q]?=some i->∃ j,J[i]?=some j/\∀ x∈j.needs,x∈os.take q
theorem FD{os:List Nat}{m:Nat}:JP os m 0 (s_ m ⟨0,[],false,true⟩):=by
 refine⟨Hf ..,fun j mj=>?_,fun q i h=>absurd h (Im _)⟩
 rw[(List.mem_replicate.mp mj).2]
 exact⟨rfl,rfl,B' _,fun i z=>(by cases z)⟩
theorem va{os:List Nat}{m p i:Nat}{J:List Jb}{tv:Int}{nds:List Nat}(nd:os.Nodup)(mem:∀ i,i∈os↔i < m)(h:JP os m p J)(e:os[p]?=some i)(hl:nds.length<=8)(hn:∀ x∈nds,x∈os.take p):JP os m (p + 1) (J.set i ⟨tv,nds,false,true⟩):=by
 obtain⟨h1,h2,h3⟩:=h
 have im:i < m:=(mem i).mp (C_ e)
 refine⟨by rw[FJ,h1],fun j mj=>?_,fun q a hq ea=>?_⟩
 ·rcases List.mem_or_eq_of_mem_set mj with mj | rfl
  ·exact h2 j mj
  exact⟨rfl,rfl,hl,fun x hx=>(mem x).mp (Gi (hn x hx))⟩
 by_cases z:q=p
 ·subst z
  rw[e]at ea
  cases ea
  exact⟨_,by rw[G9 (by omega)],hn⟩
 obtain⟨j,ej,hj⟩:=h3 q a (by omega) ea
 refine⟨j,?_,hj⟩
 rw[Hh]
 ·exact ej
 rintro rfl
 exact nN nd e (Gn.mpr ⟨q,by rw[HJ (by omega)];exact ea⟩)
theorem zD{os:List Nat}{m:Nat}{J:List Jb}(nd:os.Nodup)(mem:∀ i,i∈os↔i < m)(hl:os.length=m)(h:JP os m m J):dH (aX J):=by
 obtain⟨h1,h2,h3⟩:=h
 have hR:(aX J).length=m:=by unfold aX;rw[a_,h1]
 have key:∀(k p:Nat),p + k=m->Ch (aX J) (sM (os.take p)) (os.drop p):=by
  intro k
  induction k with
  | zero=>
   intro p e
   rw[List.drop_eq_nil_of_le (by omega)]
   trivial
  | succ k ih=>
   intro p e
   have hp:p < os.length:=by omega
   have ep:os[p]?=some os[p]:=b_ hp
   rw[GY hp]
   obtain⟨j,ej,hj⟩:=h3 p os[p] (by omega) ep
   refine⟨(sD ej).mpr ⟨nN nd ep,hj⟩,?_⟩
   have:=ih (p + 1) (by omega)
   rw[Gy,ep]at this
   rw[<-rn]
   exact this
 refine⟨os,?_,?_⟩
 ·have:=key m 0 (by omega)
  exact this
 rw[hR]
 exact(qp nd fun i mi=>(mem i).mp mi).mp hl
theorem Bd{m:Nat}:s_ m (T.tup [T.int 0,T.lst false []])=(s_ m (⟨0,[],false,true⟩:Jb)).map jbT:=by rw[IC];rfl
theorem AV{n i:Nat}(h:i < n):ixN n (i:Int)=some i:=by
 unfold ixN
 rw[if_pos (by omega)]
 simp only[E_]
 first | rfl | (rw[if_pos (by omega)])
theorem xC{R:Rws}:∀(o:List Nat) (d:Nat),Ch R d o->o.Nodup/\∀ i∈o,i < R.length/\d.testBit i=false
 | [],d,_=>⟨GZ,fun i m=>(by cases m)⟩
 | i::o,d,h=>by
  obtain⟨h1,h2⟩:=xC o _ h.2
  have f:∀ j∈o,d.testBit j=false/\i≠j:=fun j m=>by
   have:=(h2 j m).2
   rw[mK,Bool.or_eq_false_iff,decide_eq_false_iff_not]at this
   exact this
  refine⟨D_.mpr ⟨fun m=>(f i m).2 rfl,h1⟩,fun j m=>?_⟩
  rcases t_.mp m with rfl | m
  ·exact⟨bx h.1,eU h.1⟩
  exact⟨(h2 j m).1,(f j m).1⟩
theorem qE{R:Rws}{o:List Nat}{d:Nat}(h:Ch R d o):o.length<=R.length:=by
 obtain⟨h1,h2⟩:=xC o d h
 have:=dj h1 fun i m=>Gg.mpr (h2 i m).1
 rwa[z_]at this
theorem Dz{l:List (List Nat)}{g:List Nat->Int}:iU (l.map fun x=>T.tup [T.int (g x),T.lst false (x.map nT)])=some (l.map fun x=>(g x,ci x)):=by
 induction l with
 | nil=>rfl
 | cons x l ih=>
  rw[g_,iU,ih]
  have:zW (T.tup [T.int (g x),T.lst false (x.map nT)])=some (g x,ci x):=by
   show(intsOf (x.map nT)).map _=_
   rw[vC];rfl
  rw[this]
  rfl
theorem Cc{a b:List Nat}(h:ci a=ci b):a=b:=(List.map_inj_right (f:=fun(i:Nat)=>(i:Int)) fun x y z=>Int.ofNat.inj z).mp h
theorem qw{R:Rws}{L M:Int}{o p:List Nat}(h:lC R L o)(g:lC R M p):L=M/\o=p:=by
 have e1:=h.2.2 p g.1
 have e2:=g.2.2 o h.1
 rw[g.2.1]at e1
 rw[h.2.1]at e2
 have:=rV e2 e1
 exact⟨(GD this).1,Cc (GD this).2⟩
theorem Ae{J J':List Jb}(h:J'.map (fun j=>(j.tool,j.needs))=J.map (fun j=>(j.tool,j.needs))):aX J'=aX J:=by
 have:=congrArg (G1 fun p:Int × List Nat=>(p.1,sM p.2)) h
 rw[FZ,FZ]at this
 exact this
theorem rz{J J':List Jb}(h:J'.map (fun j=>(j.tool,j.needs))=J.map (fun j=>(j.tool,j.needs))){j:Jb}(m:j∈J'):∃ i∈J,i.needs=j.needs:=by
 have:(j.tool,j.needs)∈J.map (fun j=>(j.tool,j.needs)):=by rw[<-h];exact FG.mpr ⟨j,m,rfl⟩
 obtain⟨i,mi,e⟩:=FG.mp this
 exact⟨i,mi,congrArg (·.2) e⟩
theorem qB{L:Int}{o:Bool}{x:List Nat}(h:x.length<=100):Gd (.tup [.int L,.lst o (x.map nT)]) 2:=
 EY (dN Ac (dN (BA (nC fun _ _=>Ac) (by rw[a_];omega)) nA)) (show 2<=100000 by decide)
def pT(o:Bool)(p:Int × List Nat):T:=.tup [.int p.1,.lst o (p.2.map nT)]
theorem ET{o o':Bool}{l:List (Int × List Nat)}{k:T->Prop}(h:l.length<=1000)(hp:∀ p∈l,p.2.length<=1000)(q:k (.bl true)):eqT (.lst o (l.map (pT true))) (.lst o' (l.map (pT false))) k:=by
 have g:∀ o u,Gd (.lst o (l.map (pT u))) 3:=fun o u=>BA (nC fun p m=>EY (dN Ac (dN (BA (nC fun _ _=>Ac) (by rw[a_];have:=hp p m;omega)) nA)) (show 2<=100000 by decide)) (by rw[a_];omega)
 refine⟨(g o true).1,(g o' false).1,FW (g o true).2.2 (by decide),?_⟩
 have e:dt (.lst o (l.map (pT true)))=dt (.lst o' (l.map (pT false))):=by
  rw[dt,dt,jM,jM,FZ,FZ]
  exact congrArg _ (Gh fun x _=>by show dt (.tup [.int x.1,.lst true _])=dt (.tup [.int x.1,.lst false _]);simp only[dt,dtL])
 rw[e,dG]
 exact q
theorem yu{J J':List Jb}{k:T->Prop}(sm:J'.map (fun j=>(j.tool,j.needs))=J.map (fun j=>(j.tool,j.needs)))(hl:J.length<=1000)(hj:∀ j∈J,j.a=false/\j.b=true/\j.needs.length<=1000)(q:k (.bl true)):eqT (.lst true (J'.map fun j=>T.tup [.int j.tool,.lst true (j.needs.map nT)])) (.lst false (J.map fun x=>jbT x)) k:=by
 have e1:(J'.map fun j=>T.tup [.int j.tool,.lst true (j.needs.map nT)])=(J.map fun j=>(j.tool,j.needs)).map (pT true):=by rw[<-sm,FZ];rfl
 have e2:(J.map fun x=>jbT x)=(J.map fun j=>(j.tool,j.needs)).map (pT false):=by
  rw[FZ]
  refine Gh fun j m=>?_
  rw[xv (hj j m).1,(hj j m).2.1]
  rfl
 rw[e1,e2]
 refine ET (by rw[a_];exact hl) (fun p m=>?_) q
 obtain⟨j,mj,rfl⟩:=FG.mp m
 exact(hj j mj).2.2
theorem i7{ts:List T}{i:Int}{t:T}{k:T->Prop}:uv (.lst true ts) (.int i) t k=bU (ixN ts.length i) (k:=⟨fun j=>k (.lst true (ts.set j t))⟩):=rfl
end Mp
local macro_rules | `(tactic| walk_at "go")=>do
 let l<-("!Mp.vS !PL.o7 !PL.qg !PL.gU !PL.fF !PL.eA !PL.fE !PL.gA !PL.gQ !PL.gE !PL.fZ !PL.fS !PL.fJ !PL.gL !PL.oG !PL.gq PL.cX PL.d3 PL.cR PL.er PL.erL PL.aN PL.bg PL.bP PL.bz PL.lend PL.back PL.outs PL.frA PL.uh k_ Ii HV G3 JA IB s_ Gb GO List.zipWith_cons_cons PL.Th.v if_true if_false Nat.reduceAdd Nat.reduceSub Nat.reduceLeDiff Mp.uZ Mp.dQ Mp.lq Mp.kx Mp.kN Mp.gn Mp.jG Mp.eh Mp.cJ Mp.cS !Mp.fU !Mp.gR Mp.bOr Mp.wg Mp.xK !PL.fX !PL.cQ !PL.dP !PL.k9 !PL.gm PL.dU !PL.gH Mp.df Mp.cf Mp.cj Mp.d6 Mp.cW Mp.cU !Mp.hU !Mp.hX Mp.iM Mp.cK Mp.cG Mp.cH Mp.dv Mp.fR Mp.fP Mp.nY Mp.kJ Mp.oz Mp.dZ Mp.dr Mp.gS !Mp.pf !Mp.oA Mp.eM Mp.jN Mp.iO Mp.i6 !Mp.dy !Mp.gb Mp.kA !Mp.dI !PL.hV !PL.jD !Mp.i7".splitOn " ").toArray.mapM fun s=>let i:Lean.Ident:=Lean.mkIdent (s.replace "!" "").toName;if s.front=='!' then `(Lean.Parser.Tactic.simpLemma|↓$i:ident) else `(Lean.Parser.Tactic.simpLemma|$i:ident)
 `(tactic| simp only[$l,*])
local macro_rules | `(tactic| walk_at "take")=>`(tactic| refine⟨_,_,_,rfl,by lia,by first | decide | lia,by first | decide | lia,?_⟩)
namespace Mp
open PySem L2 PL
noncomputable def kL:FP:=fun ts k=>∃(t:T) (ns:List Nat),ts=[t]/\er t=t/\isAny t=false/\items t=some (ns.map nT)/\(∀ n∈ns,n<=1000)/\k (.int (sM ns:Int)) [t]
section
variable{P:Kz}{w:KD}{K:Kk}{mg:Str->Option Kj}{base:KH}
theorem m8:FnScope ["numbers","found","number"] ["numbers"] (ai k8):=⟨rfl,rfl,rfl,by decide +kernel,rfl,by decide +kernel,by decide +kernel⟩
set_option maxHeartbeats 4000000 in
theorem tV{f:Kl}{fd:KP}(F:Fun K "set_of" "set_of" k8 f fd)(TX:Txt mg)  :FnOk P w K mg base CX0 1 f fd ["numbers"] (aE K 1 kL):=by
 refine bT F m8 [true] rfl (fun cdv A outer s H E hr=>?_)
 have sc:=@m8
 refine⟨_,(af (aL (i:=1) sc.nd (by rfl) (j' rfl) (by rfl) ge_int) (af (du Ly (by rfl) (bS (aR 0)) (aA (i:=2) sc.nd (by rfl) (j' rfl) (by rfl)) (ay (qM (i:=1) sc.nd (by rfl) (j' rfl) (by rfl) (aS (bc gF ge_int (ae 2))) qI))) (ay (b6 (pO 1))))),fun ts kk hl hp=>?_⟩
 clear hl
 obtain⟨t,ns,rfl,e1,e2,e3,hn,q⟩:=hp
 walk_at "go"
 rw[e1]
 refine⟨e2,aF e3 ?_⟩
 walk_at "go"
 refine bX (fun i env=>∃ z,env=[t,.int (sM (ns.take i):Int),z]) ⟨_,rfl⟩ ?_ ?_
 ·rintro i u _ ⟨z,rfl⟩ ei
  obtain⟨n,en,rfl⟩:=bI ei
  walk_at "go"
  exact⟨oy (by have:=hn n (C_ en);omega),_,by rw[zJ en]⟩
 rintro _ ⟨z,rfl⟩
 rw[a_,F_]
 walk_at "go"
 exact q
end
noncomputable def lj:FP:=fun ts k=>∃(c o:Bool) (J:List Jb),ts=[jsT c o J]/\J.length<=50/\(∀ j∈J,∀ n∈j.needs,n<=1000)/\∀ z,k (.lst true ((aX J).map rwT)) [z]
section
variable{P:Kz}{w:KD}{K:Kk}{mg:Str->Option Kj}{base:KH}
theorem jT:FnScope ["jobs"] ["jobs"] (ai iu):=⟨rfl,rfl,rfl,by decide +kernel,rfl,by decide +kernel,by decide +kernel⟩
set_option maxHeartbeats 4000000 in
theorem rF{f:Kl}{fd:KP}(F:Fun K "rows_of" "rows_of" iu f fd)(TX:Txt mg)  (G_set_of:Cal P w K mg base 1 "set_of" ["numbers"] (aE K 1 kL)):FnOk P w K mg base CX0 2 f fd ["jobs"] (aE K 1 lj):=by
 refine bT F jT [true] rfl (fun cdv A outer s H E hr=>?_)
 have sc:=@jT
 have nd1:(["job"]:List Str).Nodup:=by decide +kernel
 refine⟨_,(ay (b6 (aS (cv sc ["job"] [none] nd1 (by decide +kernel) (bS (ae 0)) (fun _ _ _=>(aA (i:=0) nd1 (by rfl) (j' rfl) (by rfl) (hf:=(j_ rfl)))) (fun _ _ _=>bK) (fun _ _ _=>(bu (ab (aU hr (ae 0) ge_int) (ab (av G_set_of hr (by rfl) (ah (aU hr (ae 0) ge_int) aq)) ag)))))))),fun ts kk hl hp=>?_⟩
 clear hl
 obtain⟨c,o,J,rfl,hl,hn,q⟩:=hp
 walk_at "go"
 refine aY (by rw[a_,K5];omega) (fun i acc ie=>∃ z1,acc=(J.take i).map (fun j=>rwT (j.tool,sM j.needs))/\ie=[z1]) ⟨_,rfl,rfl⟩ ?_ ?_
 ·rintro i t _ _ ⟨z1,rfl,rfl⟩ ei
  obtain⟨j,ej,rfl⟩:=bI ei
  walk_at "go"
  refine⟨_,_,rfl,df,cf,cj,hn j (C_ ej),?_⟩
  walk_at "go"
  exact⟨_,by rw[map_take ej];rfl,rfl⟩
 rintro _ _ ⟨z1,rfl,rfl⟩
 rw[a_,F_]
 walk_at "go"
 have:=q (jsT c o J)
 unfold aX at this
 rw[FZ]at this
 exact this
end
noncomputable def d7:FP:=fun ts k=>∃(o:Bool) (R:Rws),ts=[.lst o (R.map rwT)]/\R.length<=50/\∀ z,k (.int ((2 ^ R.length - 1:Nat):Int)) [z]
section
variable{P:Kz}{w:KD}{K:Kk}{mg:Str->Option Kj}{base:KH}
theorem j7:FnScope ["rows"] ["rows"] (ai fw):=⟨rfl,rfl,rfl,by decide +kernel,rfl,by decide +kernel,by decide +kernel⟩
set_option maxHeartbeats 4000000 in
theorem pZ{f:Kl}{fd:KP}(F:Fun K "whole_of" "whole_of" fw f fd)(TX:Txt mg)  :FnOk P w K mg base CX0 1 f fd ["rows"] (aE K 1 d7):=by
 refine bT F j7 [true] rfl (fun cdv A outer s H E hr=>?_)
 have sc:=@j7
 refine⟨_,(ay (b6 (aS (bc yS (bc gF ge_int (bN cg (by rfl) TX.len (by decide +kernel) (ab (ae 0) ag))) ge_int)))),fun ts kk hl hp=>?_⟩
 clear hl
 obtain⟨o,R,rfl,hl,q⟩:=hp
 walk_at "go"
 rw[qP]
 exact⟨oy (by omega),q _⟩
end
def lu:FP:=fun ts k=>∃(a b:Nat),ts=[.int (a:Int),.int (b:Int)]/\k (.bl (a &&& b == a)) [.int (a:Int),.int (b:Int)]
section
variable{P:Kz}{w:KD}{K:Kk}{mg:Str->Option Kj}{base:KH}
theorem jY:FnScope ["some","other"] ["some","other"] (ai iI):=⟨rfl,rfl,rfl,by decide +kernel,rfl,by decide +kernel,by decide +kernel⟩
set_option maxHeartbeats 4000000 in
theorem qS{f:Kl}{fd:KP}(F:Fun K "is_part" "is_part" iI f fd)(TX:Txt mg)  :FnOk P w K mg base CX0 1 f fd ["some","other"] (aE K 2 lu):=by
 refine bT F jY [true,true] rfl (fun cdv A outer s H E hr=>?_)
 have sc:=@jY
 refine⟨_,(ay (b6 (aS (qo (jE hr) (bc tE (ae 0) (ae 1)) (ae 0) (bj _))))),fun ts kk hl hp=>?_⟩
 clear hl
 obtain⟨a,b,rfl,q⟩:=hp
 walk_at "go"
 rw[BR]
 exact q
end
noncomputable def jA:FP:=fun ts k=>∃(o:Bool) (R:Rws) (d:Nat),ts=[.lst o (R.map rwT),.int (d:Int)]/\R.length<=50/\∀ z,k (.lst true ((rdy R d).map nT)) [z,.int (d:Int)]
section
variable{P:Kz}{w:KD}{K:Kk}{mg:Str->Option Kj}{base:KH}
theorem o8:FnScope ["rows","done"] ["rows","done"] (ai nB):=⟨rfl,rfl,rfl,by decide +kernel,rfl,by decide +kernel,by decide +kernel⟩
set_option maxHeartbeats 4000000 in
theorem x6{f:Kl}{fd:KP}(F:Fun K "ready" "ready" nB f fd)(TX:Txt mg)  (G_is_part:Cal P w K mg base 1 "is_part" ["some","other"] (aE K 2 lu)):FnOk P w K mg base CX0 2 f fd ["rows","done"] (aE K 2 jA):=by
 refine bT F o8 [true,true] rfl (fun cdv A outer s H E hr=>?_)
 have sc:=@o8
 have nd1:(["number","row","done"]:List Str).Nodup:=by decide +kernel
 refine⟨_,(ay (b6 (aS (cv sc ["number","row","done"] [none,none,some 1] nd1 (by decide +kernel) (mQ (by rfl) TX.enumerate (ab (ae 0) ag)) (fun _ _ _=>(jZ (n:=2) (by rfl) (br (aA (i:=0) nd1 (by rfl) (j' rfl) (by rfl) (hf:=(j_ rfl))) (br (aA (i:=1) nd1 (by rfl) (j' rfl) (by rfl) (hf:=(j_ rfl))) fH)))) (fun _ _ _=>(mT (DZ (wL (rS (iA (bc tE (ae 2) (bc gF ge_int (ae 0))))) (sZ (iA (av G_is_part hr (by rfl) (ah (aU hr (ae 1) ge_int) (ah (ae 2) aq))))))))) (fun _ _ _=>(ae 0)))))),fun ts kk hl hp=>?_⟩
 clear hl
 obtain⟨o,R,d,rfl,hl,q⟩:=hp
 walk_at "go"
 refine aY (by rw[fL,K5];omega) (fun i acc ie=>∃ z1 z2,acc=((m_ i).filter (rdB R d)).map nT/\ie=[z1,z2,.int (d:Int)]) ⟨_,_,rfl,rfl⟩ ?_ ?_
 ·rintro i t _ _ ⟨z1,z2,rfl,rfl⟩ ei
  obtain⟨r,er,rfl⟩:=ni ei
  have hi:i < R.length:=(c_.mp er).1
  walk_at "go"
  refine⟨oy (by omega),?_⟩
  rw[Fl,zC er]
  refine mC (fun h=>?_) (fun h=>?_)
  ·walk_at "go"
   exact⟨_,_,by rw[h];exact(FX _).symm,rfl⟩
  walk_at "go"
  refine⟨_,_,rfl,?_⟩
  walk_at "go"
  rw[h]
  refine mC (fun h2=>?_) (fun h2=>?_)
  ·walk_at "go"
   exact⟨_,_,by rw[h2];rfl,rfl⟩
  walk_at "go"
  exact⟨_,_,by rw[h2];exact(FX _).symm,rfl⟩
 rintro _ _ ⟨z1,z2,rfl,rfl⟩
 rw[fL]
 walk_at "go"
 exact q _
end
noncomputable def kS:FP:=fun ts k=>∃(o:Bool) (R:Rws),ts=[.lst o (R.map rwT)]/\R.length<=50/\∀(ms:List Int) z,ms.Pairwise (· < ·)->(∀ x,x∈ms↔∃ r∈R,x=r.1)->k (.lst true (ms.map T.int)) [z]
section
variable{P:Kz}{w:KD}{K:Kk}{mg:Str->Option Kj}{base:KH}
theorem j9:FnScope ["rows"] ["rows"] (ai fA):=⟨rfl,rfl,rfl,by decide +kernel,rfl,by decide +kernel,by decide +kernel⟩
set_option maxHeartbeats 4000000 in
theorem pN{f:Kl}{fd:KP}(F:Fun K "tools_in" "tools_in" fA f fd)(TX:Txt mg)  :FnOk P w K mg base CX0 1 f fd ["rows"] (aE K 1 kS):=by
 refine bT F j9 [true] rfl (fun cdv A outer s H E hr=>?_)
 have sc:=@j9
 have nd1:(["row"]:List Str).Nodup:=by decide +kernel
 refine⟨_,(ay (b6 (aS (nz (by rfl) (by rfl) TX.sorted (by rfl) TX.set (cv sc ["row"] [none] nd1 (by decide +kernel) (bS (ae 0)) (fun _ _ _=>(aA (i:=0) nd1 (by rfl) (j' rfl) (by rfl) (hf:=(j_ rfl)))) (fun _ _ _=>bK) (fun _ _ _=>(aU hr (ae 0) ge_int))))))),fun ts kk hl hp=>?_⟩
 clear hl
 obtain⟨o,R,rfl,hl,q⟩:=hp
 walk_at "go"
 refine aY (by rw[a_,K5];omega) (fun i acc ie=>∃ z1,acc=(R.take i).map (fun r=>T.int r.1)/\ie=[z1]) ⟨_,rfl,rfl⟩ ?_ ?_
 ·rintro i t _ _ ⟨z1,rfl,rfl⟩ ei
  obtain⟨r,er,rfl⟩:=bI ei
  walk_at "go"
  exact⟨_,by rw[map_take er],rfl⟩
 rintro _ _ ⟨z1,rfl,rfl⟩
 rw[a_,F_]
 walk_at "go"
 refine aF y8 ?_
 walk_at "go"
 refine⟨by omega,fun ms h1 h2=>?_⟩
 refine q ms _ h1 fun x=>?_
 rw[h2 x,FG]
 exact⟨fun⟨r,m,e⟩=>⟨r,m,e.symm⟩,fun⟨r,m,e⟩=>⟨r,m,e.symm⟩⟩
end
def dW:FP:=fun ts k=>∃(o:Bool) (R:Rws),ts=[.lst o (R.map rwT)]/\R.length<=50/\dH R/\∀ z,k .non [z]
section
variable{P:Kz}{w:KD}{K:Kk}{mg:Str->Option Kj}{base:KH}
theorem dq:FnScope ["rows","done","more"] ["rows"] (ai ck):=⟨rfl,rfl,rfl,by decide +kernel,rfl,by decide +kernel,by decide +kernel⟩
set_option maxHeartbeats 4000000 in
theorem jf{f:Kl}{fd:KP}(F:Fun K "refuse_rings" "refuse_rings" ck f fd)(TX:Txt mg)  (G_set_of:Cal P w K mg base 1 "set_of" ["numbers"] (aE K 1 kL))(G_whole_of:Cal P w K mg base 1 "whole_of" ["rows"] (aE K 1 d7))(G_ready:Cal P w K mg base 2 "ready" ["rows","done"] (aE K 2 jA)):FnOk P w K mg base CX0 3 f fd ["rows"] (aE K 1 dW):=by
 refine bT F dq [true] rfl (fun cdv A outer s H E hr=>?_)
 have sc:=@dq
 refine⟨_,(af (aL (i:=1) sc.nd (by rfl) (j' rfl) (by rfl) ge_int) (af (aL (i:=2) sc.nd (by rfl) (j' rfl) (by rfl) (aS (av G_ready hr (by rfl) (ah (ae 0) (ah (ae 1) aq))))) (af (pV Ly (rg (iA (ae 2))) (af (qM (i:=1) sc.nd (by rfl) (j' rfl) (by rfl) (aS (av G_set_of hr (by rfl) (ah (ae 2) aq))) qI) (ay (aL (i:=2) sc.nd (by rfl) (j' rfl) (by rfl) (aS (av G_ready hr (by rfl) (ah (ae 0) (ah (ae 1) aq)))))))) (ay (pC (rg (e9 (r6 hr) (ae 1) (av G_whole_of hr (by rfl) (ah (ae 0) aq)) (bj _))) (ay yj) gu))))),fun ts kk hl hp=>?_⟩
 clear hl
 obtain⟨o,R,rfl,hl,nr,q⟩:=hp
 walk_at "go"
 refine⟨false,R,0,rfl,hl,fun z=>?_⟩
 walk_at "go"
 refine mf (fun m env=>∃ d:Nat,d < 2 ^ R.length/\m=2 ^ R.length - d/\env=[.lst o (R.map rwT),.int (d:Int),.lst true ((rdy R d).map nT)]) _ ⟨0,Gw _,rfl,rfl⟩ ?_
 rintro m _ ⟨d,hd,rfl,rfl⟩
 walk_at "go"
 refine mC (fun h=>?_) (fun h=>?_)
 ·have e:rdy R d=[]:=Jw.mp (List.isEmpty_iff.mp h)
  have ew:d=2 ^ R.length - 1:=Q2 fun z=>wV nr hd z e
  walk_at "go"
  refine⟨false,R,rfl,hl,fun z=>?_⟩
  walk_at "go"
  refine Af (decide_eq_true (by rw[ew])) ?_
  walk_at "go"
  exact q _
 have ne:rdy R d≠[]:=fun z=>by rw[z]at h;cases h
 obtain⟨g1,g2⟩:=yw hd ne
 walk_at "go"
 refine⟨_,rdy R d,rfl,by rw[er,ku],rfl,rfl,fun n m=>by have:=bx m;omega,?_⟩
 walk_at "go"
 refine⟨false,R,d ||| sM (rdy R d),rfl,hl,fun z=>?_⟩
 walk_at "go"
 exact⟨_,by omega,_,g2,rfl,rfl⟩
end
noncomputable def f9:FP:=fun ts k=>∃(o o2:Bool) (R:Rws) (D:List Ent) (d i:Nat) (t:Option Int),ts=[.lst o (R.map rwT),.dT o2 (dM D),.int (d:Int),tT t,.int (i:Int)]/\i < R.length/\R.length<=50/\DOk R D/\(d ||| 2 ^ i,some (tl R i))∈D.map (·.1)/\∀ z1 z2,k (.int (Lv R (d ||| 2 ^ i) (some (tl R i)) + cst t (tl R i))) [z1,z2,.int (d:Int),tT t,.int (i:Int)]
section
variable{P:Kz}{w:KD}{K:Kk}{mg:Str->Option Kj}{base:KH}
theorem iY:FnScope ["rows","least","done","tool","number","taken"] ["rows","least","done","tool","number"] (ai ff):=⟨rfl,rfl,rfl,by decide +kernel,rfl,by decide +kernel,by decide +kernel⟩
set_option maxHeartbeats 4000000 in
theorem qf{f:Kl}{fd:KP}(F:Fun K "takes_by" "takes_by" ff f fd)(TX:Txt mg)  :FnOk P w K mg base CX0 1 f fd ["rows","least","done","tool","number"] (aE K 5 f9):=by
 refine bT F iY [true,true,true,true,true] rfl (fun cdv A outer s H E hr=>?_)
 have sc:=@iY
 refine⟨_,(af (aL (i:=5) sc.nd (by rfl) (j' rfl) (by rfl) (aS (aU hr (aU hr (ae 0) (ae 4)) ge_int))) (ay (b6 (aS (bc d4 (aU hr (ae 1) (bu (ab (bc CQ (ae 2) (bc gF ge_int (ae 4))) (ab (ae 5) ag)))) (ge_if (e9 (jE hr) (ae 3) (ae 5) (bj _)) ge_int ge_int)))))),fun ts kk hl hp=>?_⟩
 clear hl
 obtain⟨o,o2,R,D,d,i,t,rfl,hi,hl,ok,mem,q⟩:=hp
 obtain⟨m,em⟩:=vJ hi
 walk_at "go"
 refine aF (iP em) ?_
 walk_at "go"
 refine⟨oy (by omega),aF (rR ok mem) ?_⟩
 walk_at "go"
 refine d9 (fun h=>?_) (fun h=>?_)
 ·walk_at "go"
  have:=q (.lst o (R.map rwT)) (.dT o2 (dM D))
  unfold cst at this
  rw[if_pos h]at this
  exact this
 walk_at "go"
 have:=q (.lst o (R.map rwT)) (.dT o2 (dM D))
 unfold cst at this
 rw[if_neg h]at this
 exact this
end
noncomputable def cM:FP:=fun ts k=>∃(o:Bool) (R:Rws),ts=[.lst o (R.map rwT)]/\R.length<=10/\∀(D:List Ent) z,DOk R D->(∀ d t,d < 2 ^ R.length->TS R t->(d,t)∈D.map (·.1))->k (.dT true (dM D)) [z]
section
variable{P:Kz}{w:KD}{K:Kk}{mg:Str->Option Kj}{base:KH}
theorem cu:FnScope ["rows","least","done","numbers","tool","takes"] ["rows"] (ai bH):=⟨rfl,rfl,rfl,by decide +kernel,rfl,by decide +kernel,by decide +kernel⟩
set_option maxHeartbeats 4000000 in
theorem gZ{f:Kl}{fd:KP}(F:Fun K "takes_from_all" "takes_from_all" bH f fd)(TX:Txt mg)  (G_whole_of:Cal P w K mg base 1 "whole_of" ["rows"] (aE K 1 d7))(G_ready:Cal P w K mg base 2 "ready" ["rows","done"] (aE K 2 jA))(G_tools_in:Cal P w K mg base 1 "tools_in" ["rows"] (aE K 1 kS))(G_takes_by:Cal P w K mg base 1 "takes_by" ["rows","least","done","tool","number"] (aE K 5 f9)):FnOk P w K mg base CX0 3 f fd ["rows"] (aE K 1 cM):=by
 refine bT F cu [true] rfl (fun cdv A outer s H E hr=>?_)
 have sc:=@cu
 have nd1:(["number","tool","done","least","rows"]:List Str).Nodup:=by decide +kernel
 refine⟨_,(af (aL (i:=1) sc.nd (by rfl) (j_ rfl) (by rfl) (aS Dm)) (af (du Ly (by rfl) (uz (by rfl) TX.range (ab (aS (av G_whole_of hr (by rfl) (ah (ae 0) aq))) (ab (aS (qO ge_int)) (ab (aS (qO ge_int)) ag)))) (aA (i:=2) sc.nd (by rfl) (j_ rfl) (by rfl)) (af (aL (i:=3) sc.nd (by rfl) (j' rfl) (by rfl) (aS (av G_ready hr (by rfl) (ah (ae 0) (ah (ae 2) aq))))) (ay (du Ly (by rfl) (bS (aS (bc d4 (aT (ab nD ag)) (av G_tools_in hr (by rfl) (ah (ae 0) aq))))) (aA (i:=4) sc.nd (by rfl) (j_ rfl) (by rfl)) (af (oj sc (i:=5) ["number","tool","done","least","rows"] [none,some 4,some 2,some 1,some 0] nd1 (by decide +kernel) (by rfl) (j' rfl) (by rfl) (bS (ae 3)) (fun _ _ _=>(aA (i:=0) nd1 (by rfl) (j' rfl) (by rfl) (hf:=(j_ rfl)))) (fun _ _ _=>bK) (fun _ _ _=>(av G_takes_by hr (by rfl) (ah (ae 4) (ah (ae 3) (ah (ae 2) (ah (ae 1) (ah (ae 0) aq))))))) (by rfl)) (ay (qL (aS (Aq (by rfl) (by rfl) TX.min (ae 5))) (xQ (i:=1) hr (aS (bu (ab (ae 2) (ab (ae 4) ag)))))))))))) (ay (b6 (pO 1))))),fun ts kk hl hp=>?_⟩
 clear hl
 obtain⟨o,R,rfl,hl,q⟩:=hp
 have hW:2 ^ R.length<=1024:=Hs (n:=2) (by decide) hl
 have hp:0 < 2 ^ R.length:=Gw _
 walk_at "go"
 refine⟨_,R,rfl,by omega,fun z=>?_⟩
 walk_at "go"
 refine⟨⟨by omega,by omega,by decide,by decide⟩,?_⟩
 refine bX (fun s env=>∃(D:List Ent) (z2 z3 z4 z5:T),Hld R D s []/\D.length<=s * 11/\env=[.lst o (R.map rwT),.dT true (dM D),z2,z3,z4,z5]) ⟨[],_,_,_,_,Eu R,B' _,rfl⟩ ?_ ?_
 ·rintro s u _ ⟨D,z2,z3,z4,z5,H,hD,rfl⟩ ei
  obtain⟨hs,rfl⟩:=E9 ei
  have hs:s < 2 ^ R.length:=by omega
  have e0:((2 ^ R.length - 1:Nat):Int) - (s:Int)=((2 ^ R.length - 1 - s:Nat):Int):=by omega
  rw[e0]
  have hd:2 ^ R.length - 1 - s < 2 ^ R.length:=by omega
  walk_at "go"
  refine⟨_,R,_,rfl,by omega,fun z=>?_⟩
  walk_at "go"
  refine⟨_,R,rfl,by omega,fun ms z u1 u2=>?_⟩
  walk_at "go"
  have tl1:=yE u1 u2
  have tl2:ms.length + 1<=R.length + 1:=by rw[k_,a_]at tl1;exact tl1
  have nd:=B9 u1
  have mem:=BM u2
  rw[A3]
  generalize none::ms.map some=l at tl1 nd mem
  refine⟨by omega,bX (fun j env=>∃(D:List Ent) (z4 z5:T),Hld R D s (l.take j)/\D.length<=s * 11 + j/\env=[.lst o (R.map rwT),.dT true (dM D),.int ((2 ^ R.length - 1 - s:Nat):Int),.lst true ((rdy R (2 ^ R.length - 1 - s)).map nT),z4,z5]) ⟨D,_,_,H,hD,rfl⟩ ?_ ?_⟩
  ·clear H hD D
   rintro j u _ ⟨D,z4,z5,H,hD,rfl⟩ ej
   obtain⟨t,et,rfl⟩:=bI ej
   have hj:j < l.length:=(c_.mp et).1
   walk_at "go"
   have rl:(rdy R (2 ^ R.length - 1 - s)).length<=50:=by
    have:=Ig (rdB R (2 ^ R.length - 1 - s)) (m_ R.length)
    rw[z_]at this
    unfold rdy
    omega
   refine aY (by rw[a_,K5];omega) (fun a acc ie=>∃ z1,acc=((rdy R (2 ^ R.length - 1 - s)).take a).map (fun i=>T.int (Lv R ((2 ^ R.length - 1 - s) ||| 2 ^ i) (some (tl R i)) + cst t (tl R i)))/\ie=[z1,tT t,.int ((2 ^ R.length - 1 - s:Nat):Int),.dT false (dM D),.lst false (R.map rwT)]) ⟨_,rfl,rfl⟩ ?_ ?_
   ·rintro a u _ _ ⟨z1,rfl,rfl⟩ ea
    obtain⟨i,ei',rfl⟩:=bI ea
    have mi:=C_ ei'
    walk_at "go"
    refine⟨_,_,R,D,_,i,t,rfl,bx mi,by omega,H.1,C7 hs H mi,fun z1 z2=>?_⟩
    walk_at "go"
    exact⟨_,by rw[map_take ei'],rfl⟩
   rintro _ _ ⟨z1,rfl,rfl⟩
   rw[a_,F_]
   walk_at "go"
   refine aF vx (fun m hm=>?_)
   have em:=C1 hm
   rw[<-AA hd]at em
   subst em
   walk_at "go"
   have nm:(2 ^ R.length - 1 - s,t) ∉ D.map (·.1):=fun m=>by
    rcases(H.2 _ _).mp m with m | m
    ·omega
    exact nN nd et m.2
   refine⟨by unfold dM;rw[a_];omega,_,_,_,?_,?_,by rw[show([NG ((2 ^ R.length - 1 - s:Nat):Int),tK t]:List Key)=kD (2 ^ R.length - 1 - s) t from rfl,BK nm]⟩
   ·rw[Gy,et]
    exact yI H
   rw[h_,GN]
   omega
  rintro _ ⟨D,z4,z5,H,hD,rfl⟩
  rw[a_]at H hD
  rw[F_]at H
  exact⟨D,_,_,_,_,vw hs H mem,by omega,rfl⟩
 rintro _ ⟨D,z2,z3,z4,z5,H,hD,rfl⟩
 rw[vY]at H
 walk_at "go"
 refine q D _ H.1 fun d t hd ht=>(H.2 d t).mpr (.inl ⟨by omega,hd,ht⟩)
end
noncomputable def cC:FP:=fun ts k=>∃(c o:Bool) (J:List Jb),ts=[jsT c o J]/\J.length<=10/\(∀ j∈J,∀ n∈j.needs,n<=1000)/\dH (aX J)/\∀(L:Int) (os:List Nat) z,lC (aX J) L os->k (.tup [.int L,.lst true (os.map nT)]) [z]
section
variable{P:Kz}{w:KD}{K:Kk}{mg:Str->Option Kj}{base:KH}
theorem e7:FnScope ["jobs","rows","least","order","done","tool","takes","good"] ["jobs"] (ai cx):=⟨rfl,rfl,rfl,by decide +kernel,rfl,by decide +kernel,by decide +kernel⟩
set_option maxHeartbeats 4000000 in
theorem jH{f:Kl}{fd:KP}(F:Fun K "least_takes" "least_takes" cx f fd)(TX:Txt mg)  (G_rows_of:Cal P w K mg base 2 "rows_of" ["jobs"] (aE K 1 lj))(G_whole_of:Cal P w K mg base 1 "whole_of" ["rows"] (aE K 1 d7))(G_ready:Cal P w K mg base 2 "ready" ["rows","done"] (aE K 2 jA))(G_refuse_rings:Cal P w K mg base 3 "refuse_rings" ["rows"] (aE K 1 dW))(G_takes_from_all:Cal P w K mg base 3 "takes_from_all" ["rows"] (aE K 1 cM))(G_takes_by:Cal P w K mg base 1 "takes_by" ["rows","least","done","tool","number"] (aE K 5 f9)):FnOk P w K mg base CX0 4 f fd ["jobs"] (aE K 1 cC):=by
 refine bT F e7 [true] rfl (fun cdv A outer s H E hr=>?_)
 have sc:=@e7
 have nd1:(["number","tool","done","least","rows","takes"]:List Str).Nodup:=by decide +kernel
 refine⟨_,(af (aL (i:=1) sc.nd (by rfl) (j_ rfl) (by rfl) (aS (av G_rows_of hr (by rfl) (ah (ae 0) aq)))) (af (eQ (av G_refuse_rings hr (by rfl) (ah (aR 1) aq))) (af (aL (i:=2) sc.nd (by rfl) (j_ rfl) (by rfl) (aS (av G_takes_from_all hr (by rfl) (ah (ae 1) aq)))) (af (aL (i:=3) sc.nd (by rfl) (j' rfl) (by rfl) (aS (aT ag))) (af (aL (i:=4) sc.nd (by rfl) (j_ rfl) (by rfl) ge_int) (af (aL (i:=5) sc.nd (by rfl) (j_ rfl) (by rfl) nD) (af (pV Ly (rg (e9 (r6 hr) (ae 4) (av G_whole_of hr (by rfl) (ah (ae 1) aq)) (bj _))) (af (aL (i:=6) sc.nd (by rfl) (j_ rfl) (by rfl) (aS (aU hr (ae 2) (bu (ab (ae 4) (ab (ae 5) ag)))))) (af (oj sc (i:=7) ["number","tool","done","least","rows","takes"] [none,some 5,some 4,some 2,some 1,some 6] nd1 (by decide +kernel) (by rfl) (j' rfl) (by rfl) (bS (av G_ready hr (by rfl) (ah (ae 1) (ah (ae 4) aq)))) (fun _ _ _=>(aA (i:=0) nd1 (by rfl) (j' rfl) (by rfl) (hf:=(j_ rfl)))) (fun _ _ _=>(mT (e9 (jE hr) (av G_takes_by hr (by rfl) (ah (ae 4) (ah (ae 3) (ah (ae 2) (ah (ae 1) (ah (ae 0) aq)))))) (ae 5) (bj _)))) (fun _ _ _=>(ae 0)) (by rfl)) (af (eQ (jy 3 MK ML fD (ab (aS (aU hr (ae 7) ge_int)) ag))) (af (qM (i:=4) sc.nd (by rfl) (j_ rfl) (by rfl) (aS (bc gF ge_int (aU hr (ae 7) ge_int))) qI) (ay (aL (i:=5) sc.nd (by rfl) (j_ rfl) (by rfl) (aS (aU hr (aU hr (ae 1) (aU hr (ae 7) ge_int)) ge_int))))))))) (ay (b6 (bu (ab (aS (aU hr (ae 2) (bu (ab ge_int (ab nD ag))))) (ab (pO 3) ag)))))))))))),fun ts kk hl hp=>?_⟩
 clear hl
 obtain⟨c,o,J,rfl,hl,hn,nr,q⟩:=hp
 have hL:(aX J).length=J.length:=a_ ..
 walk_at "go"
 refine⟨c,false,J,rfl,by omega,hn,fun z=>?_⟩
 walk_at "go"
 generalize aX J=R at *
 refine⟨_,R,rfl,by omega,nr,fun z=>?_⟩
 walk_at "go"
 refine⟨_,R,rfl,by omega,fun D z dk dm=>?_⟩
 walk_at "go"
 have V:=B3 R
 have hW:2 ^ R.length<=1024:=Hs (n:=2) (by decide) (by omega:R.length<=10)
 refine mf (fun m env=>∃(d:Nat) (t:Option Int) (os:List Nat) (z6 z7:T),d < 2 ^ R.length/\TS R t/\m=2 ^ R.length - d/\os.length<=d/\(∀ o2,um R (Lv R) d t o2->um R (Lv R) 0 none (os++o2))/\env=[jsT c o J,.lst false (R.map rwT),.dT true (dM D),.lst true (os.map nT),.int (d:Int),tT t,z6,z7]) _ ⟨0,none,[],_,_,Gw _,.inl rfl,rfl,B' _,fun o2 h=>h,rfl⟩ ?_
 rintro m _ ⟨d,t,os,z6,z7,hd,ht,rfl,hos,hb,rfl⟩
 walk_at "go"
 refine⟨_,R,rfl,by omega,fun z=>?_⟩
 walk_at "go"
 refine d9 (fun h=>?_) (fun h=>?_)
 ·have ew:d=2 ^ R.length - 1:=by omega
  have B:=hb [] (by rw[ew];exact vh V ht)
  rw[FX]at B
  walk_at "go"
  refine aF (rR dk (dm 0 none (Gw _) (.inl rfl))) ?_
  walk_at "go"
  exact q _ _ _ (y3 V B)
 obtain⟨i,l,eg,mi,vi,fi⟩:=wD nr hd (fun z=>h (by rw[z])) ht
 have il:=bx mi
 have ig:=xr (eU mi)
 have it:=kE hd il
 walk_at "go"
 refine aF (rR dk (dm d t hd ht)) ?_
 walk_at "go"
 refine⟨_,R,d,rfl,by omega,fun z=>?_⟩
 walk_at "go"
 have rl:(rdy R d).length<=50:=by
  have:=Ig (rdB R d) (m_ R.length)
  rw[z_]at this
  unfold rdy
  omega
 refine aY (by rw[a_,K5];omega) (fun a acc ie=>∃ z1,acc=(((rdy R d).take a).filter fun i=>decide (Lv R (d ||| 2 ^ i) (some (tl R i)) + cst t (tl R i)=Lv R d t)).map nT/\ie=[z1,tT t,.int (d:Int),.dT false (dM D),.lst false (R.map rwT),.int (Lv R d t)]) ⟨_,rfl,rfl⟩ ?_ ?_
 ·rintro a u _ _ ⟨z1,rfl,rfl⟩ ea
  obtain⟨j,ej,rfl⟩:=bI ea
  have mj:=C_ ej
  walk_at "go"
  refine⟨_,_,R,D,_,j,t,rfl,bx mj,by omega,dk,dm _ _ (kE hd (bx mj)) (.inr ⟨j,bx mj,rfl⟩),fun z1 z2=>?_⟩
  walk_at "go"
  rw[uC ej]
  refine d9 (fun g=>?_) (fun g=>?_)
  ·walk_at "go"
   exact⟨_,by rw[if_pos g],rfl⟩
  walk_at "go"
  exact⟨_,by rw[if_neg g];exact(FX _).symm,rfl⟩
 rintro _ _ ⟨z1,rfl,rfl⟩
 rw[a_,F_]
 have eg':((rdy R d).filter fun i=>decide (Lv R (d ||| 2 ^ i) (some (tl R i)) + cst t (tl R i)=Lv R d t))=i::l:=eg
 rw[eg']
 walk_at "go"
 obtain⟨mk,em⟩:=vJ il
 refine⟨by omega,oy (by omega),aF (iP em) ?_⟩
 walk_at "go"
 refine⟨_,?_,d ||| 2 ^ i,some (tl R i),os++[i],_,_,it,.inr ⟨i,il,rfl⟩,rfl,?_,fun o2 B=>?_,by rw[v_];rfl⟩
 ·omega
 ·rw[h_,GN];omega
 rw[i_]
 exact hb _ (uw V hd ht mi vi fi B)
end
noncomputable def kT:FP:=fun ts k=>∃(o o2:Bool) (J:List Jb) (os:List Nat),ts=[.lst o (J.map jbT),.lst o2 (os.map nT)]/\(∀ i∈os,i < J.length)/\os.length<=50/\∀ z1 z2,k (.int (tkF (aX J) none os)) [z1,z2]
section
variable{P:Kz}{w:KD}{K:Kk}{mg:Str->Option Kj}{base:KH}
theorem j6:FnScope ["_law_jobs_here","_law_order","_law_tools"] ["_law_jobs_here","_law_order"] (ai fv):=⟨rfl,rfl,rfl,by decide +kernel,rfl,by decide +kernel,by decide +kernel⟩
set_option maxHeartbeats 4000000 in
theorem pA{f:Kl}{fd:KP}(F:Fun K "_law_takes_in" "_law_takes_in" fv f fd)(TX:Txt mg)  :FnOk P w K mg base CX0 1 f fd ["_law_jobs_here","_law_order"] (aE K 2 kT):=by
 refine bT F j6 [true,true] rfl (fun cdv A outer s H E hr=>?_)
 have sc:=@j6
 have nd1:(["_law_number","_law_jobs_here"]:List Str).Nodup:=by decide +kernel
 have nd2:(["_law_k","_law_tools"]:List Str).Nodup:=by decide +kernel
 refine⟨_,(af (aL (i:=2) sc.nd (by rfl) (j_ rfl) (by rfl) (aS (bc d4 (aT (ab nD ag)) (cv sc ["_law_number","_law_jobs_here"] [none,some 0] nd1 (by decide +kernel) (bS (ae 1)) (fun _ _ _=>(aA (i:=0) nd1 (by rfl) (j' rfl) (by rfl) (hf:=(j_ rfl)))) (fun _ _ _=>bK) (fun _ _ _=>(aU hr (aU hr (ae 1) (ae 0)) ge_int)))))) (ay (b6 (aS (bN cg (by rfl) TX.len (by decide +kernel) (ab (cv sc ["_law_k","_law_tools"] [none,some 2] nd2 (by decide +kernel) (cP (by rfl) TX.range (ab (bN cg (by rfl) TX.len (by decide +kernel) (ab (ae 1) ag)) ag)) (fun _ _ _=>(aA (i:=0) nd2 (by rfl) (j' rfl) (by rfl) (hf:=(j_ rfl)))) (fun _ _ _=>(mT (e9 (r6 hr) (aU hr (ae 1) (ae 0)) (aU hr (ae 1) (bc d4 (ae 0) ge_int)) (bj _)))) (fun _ _ _=>ge_int)) ag)))))),fun ts kk hl hp=>?_⟩
 clear hl
 obtain⟨o,o2,J,os,rfl,hm,hl,q⟩:=hp
 walk_at "go"
 refine aY (by rw[a_,K5];omega) (fun i acc ie=>∃ z1,acc=(os.take i).map (fun i=>tT (some (tl (aX J) i)))/\ie=[z1,.lst false (J.map jbT)]) ⟨_,rfl,rfl⟩ ?_ ?_
 ·rintro i u _ _ ⟨z1,rfl,rfl⟩ ei
  obtain⟨j,ej,rfl⟩:=bI ei
  obtain⟨b,eb,et⟩:=Eh (hm j (C_ ej))
  walk_at "go"
  refine aF (iP eb) ?_
  walk_at "go"
  exact⟨_,by rw[map_take ej,et];rfl,rfl⟩
 rintro _ _ ⟨z1,rfl,rfl⟩
 rw[a_,F_]
 walk_at "go"
 have e1:T.non::G1 (fun i=>tT (some (tl (aX J) i))) os=(none::os.map fun i=>some (tl (aX J) i)).map tT:=by rw[g_,FZ];rfl
 rw[e1]
 have hll:(none::os.map fun i=>some (tl (aX J) i)).length=os.length + 1:=by rw[k_,a_]
 have hc:=se (os.map fun i=>some (tl (aX J) i)) none
 rw[a_]at hc
 have hk:=v3 (aX J) os none
 rw[<-hc]at hk
 generalize (none::os.map fun i=>some (tl (aX J) i))=l at *
 refine⟨by omega,⟨by omega,by omega⟩,aY (by rw[dw,K5];omega) (fun i acc ie=>∃ z1,acc=((m_ i).filter fun k=>decide (l[k]?≠l[k + 1]?)).map (fun _=>T.int 1)/\ie=[z1,.lst false (l.map tT)]) ⟨_,rfl,rfl⟩ ?_ ?_⟩
 ·rintro i u _ _ ⟨z1,rfl,rfl⟩ ei
  have hi:=kP ei
  have et:=Bx ei
  subst et
  rw[Kb]
  have ha:l[i]?=some (l[i]'(by omega)):=b_ _
  have hb:l[i + 1]?=some (l[i + 1]'(by omega)):=b_ _
  walk_at "go"
  refine aF (iP ha) ?_
  walk_at "go"
  rw[show(i:Int) + 1=((i + 1:Nat):Int) by omega]
  refine aF (iP hb) ?_
  walk_at "go"
  rw[ve ha hb]
  refine d9 (fun g=>?_) (fun g=>?_)
  ·walk_at "go"
   exact⟨_,by rw[if_pos g,FX],rfl⟩
  walk_at "go"
  exact⟨_,by rw[if_neg g],rfl⟩
 rintro _ _ ⟨z1,rfl,rfl⟩
 rw[dw,E_]
 walk_at "go"
 rw[hk]
 exact q _ _
end
noncomputable def dX:Nat->FP
 | 0=>fun _ _=>False
 | n + 1=>fun ts k=>∃(o o2:Bool) (J:List Jb) (os:List Nat),ts=[.lst o (J.map jbT),.lst o2 (os.map nT)]/\n<=7/\J.length<=6/\(∀ j∈J,j.needs.length<=50)/\J.length<=os.length + n/\os.Nodup/\(∀ i∈os,i < J.length)/\∀(l:List (List Nat)) z1 z2,l.length<=7 ^ n->(∀ x,x∈l↔∃ y,x=os++y/\Cmp (aX J) (sM os) y)->k (.lst true (l.map fun x=>.lst false (x.map nT))) [z1,z2]
section
variable{P:Kz}{w:KD}{K:Kk}{mg:Str->Option Kj}{base:KH}
theorem lB:FnScope ["_law_jobs_here","_law_begun","_law_found","_law_number","_law_job"] ["_law_jobs_here","_law_begun"] (ai gP):=⟨rfl,rfl,rfl,by decide +kernel,rfl,by decide +kernel,by decide +kernel⟩
set_option maxHeartbeats 4000000 in
theorem uW(n:Nat){f:Kl}{fd:KP}(F:Fun K "_law_orders" "_law_orders" gP f fd)(TX:Txt mg)(G_orders:Cal P w K mg base (1 + n) "_law_orders" ["_law_jobs_here","_law_begun"] (aE K 2 (dX n))):FnOk P w K mg base CX0 (1 + (n + 1)) f fd ["_law_jobs_here","_law_begun"] (aE K 2 (dX (n + 1))):=by
 refine bT (k:=1 + n) F lB [true,true] rfl (fun cdv A outer s H E hr=>?_)
 have sc:=@lB
 have nd1:(["_law_need","_law_begun"]:List Str).Nodup:=by decide +kernel
 refine⟨_,(af (pC (rg (e9 (jE hr) (bN cg (by rfl) TX.len (by decide +kernel) (ab (ae 1) ag)) (bN cg (by rfl) TX.len (by decide +kernel) (ab (ae 0) ag)) (bj _))) (ay (b6 (aT (ab (aR 1) ag)))) gu) (af (aL (i:=2) sc.nd (by rfl) (j' rfl) (by rfl) (aS (aT ag))) (af (du Ly (by rfl) (mQ (by rfl) TX.enumerate (ab (aR 0) ag)) (jZ (n:=2) (by rfl) (br (aA (i:=3) sc.nd (by rfl) (j' rfl) (by rfl)) (br (aA (i:=4) sc.nd (by rfl) (j' rfl) (by rfl)) fH))) (ay (pC (rg (DZ (wL (e9 (zl hr) (ae 3) (ae 1) (by with_unfolding_all rfl)) (sZ (iA (bN (tY rfl) (by rfl) TX.all (by decide +kernel) (ab (cv sc ["_law_need","_law_begun"] [none,some 1] nd1 (by decide +kernel) (bS (aU hr (ae 4) ge_int)) (fun _ _ _=>(aA (i:=0) nd1 (by rfl) (j' rfl) (by rfl) (hf:=(j_ rfl)))) (fun _ _ _=>bK) (fun _ _ _=>(qo (Bi hr) (ae 0) (ae 1) (by with_unfolding_all rfl)))) ag))))))) (ay (eQ (jy 2 PySem.F.slot_list_extend PySem.F.type_list_extend rq (ab (av G_orders hr (by rfl) (ah (aR 0) (ah (aS (bc d4 (ae 1) (aT (ab (ae 3) ag)))) aq))) ag)))) gu))) (ay (b6 (pO 2)))))),fun ts kk hl hp=>?_⟩
 clear hl
 obtain⟨o,o2,J,os,rfl,h7,hJ,hN,hn,nd,hm,q⟩:=hp
 have ol:=dj nd fun i m=>Gg.mpr (hm i m)
 rw[z_]at ol
 have hR:(aX J).length=J.length:=a_ ..
 walk_at "go"
 refine d9 (fun h=>?_) (fun h=>?_)
 ·have ew:=(qp nd hm).mp (by omega)
  walk_at "go"
  refine q [os] _ _ (Nat.one_le_pow _ _ (by decide)) fun x=>?_
  rw[A_]
  refine⟨fun e=>⟨[],by rw[e,FX],trivial,by rw[hR];exact ew⟩,?_⟩
  rintro⟨y,rfl,hy⟩
  cases y with
  | nil=>exact FX _
  | cons i y=>
   have:=hy.1.1
   rw[ew,<-hR,cO]at this
   cases this
 have ew:sM os≠2 ^ J.length - 1:=fun z=>h (by rw[(qp nd hm).mpr z])
 walk_at "go"
 cases n with
 | zero=>
  have:=dj nd fun i m=>Gg.mpr (hm i m)
  rw[z_]at this
  omega
 | succ n=>
 refine bX (fun i env=>∃(l:List (List Nat)) (z3 z4:T),l.length<=i * 7 ^ n/\(∀ x,x∈l↔∃ a y,a < i/\a∈rdy (aX J) (sM os)/\x=os++a::y/\Cmp (aX J) (sM os ||| 2 ^ a) y)/\env=[.lst false (J.map jbT),.lst o2 (os.map nT),.lst true (l.map fun x=>.lst false (x.map nT)),z3,z4]) ⟨[],_,_,B' _,fun x=>⟨fun m=>(by cases m),fun⟨a,y,z,_⟩=>absurd z (Im _)⟩,rfl⟩ ?_ ?_
 ·rintro i u _ ⟨l,z3,z4,hl,mem,rfl⟩ ei
  obtain⟨j,ej,rfl⟩:=ni ei
  have hi:i < J.length:=(c_.mp ej).1
  have rd:=sD (os:=os) ej
  have eB:(¬ i∈rdy (aX J) (sM os))->∃(l':List (List Nat)) (z3 z4:T),l'.length<=(i + 1) * 7 ^ n/\(∀ x,x∈l'↔∃ a y,a < i + 1/\a∈rdy (aX J) (sM os)/\x=os++a::y/\Cmp (aX J) (sM os ||| 2 ^ a) y)/\[T.lst false (J.map jbT),.lst o2 (os.map nT),.lst true (l.map fun x=>.lst false (x.map nT)),.int (i:Int),jbT j]=[.lst false (J.map jbT),.lst o2 (os.map nT),.lst true (l'.map fun x=>.lst false (x.map nT)),z3,z4]:=fun g=>by
   refine⟨l,_,_,by rw[Jy];exact n_ hl (Ia _ _),fun x=>?_,rfl⟩
   rw[mem x]
   constructor
   ·rintro⟨a,y,h1,h2⟩
    exact⟨a,y,by omega,h2⟩
   rintro⟨a,y,h1,h2,h3⟩
   by_cases z:a=i
   ·subst z;exact absurd h2 g
   exact⟨a,y,by omega,h2,h3⟩
  walk_at "go"
  refine d9 (fun g=>?_) (fun g=>?_)
  ·walk_at "go"
   exact eB fun z=>(rd.mp z).1 g
  walk_at "go"
  have hN':=hN j (C_ ej)
  refine aY (by rw[a_,K5];omega) (fun a acc ie=>∃ z1,acc=(j.needs.take a).map (fun n=>T.bl (decide (n∈os)))/\ie=[z1,.lst false (os.map nT)]) ⟨_,rfl,rfl⟩ ?_ ?_
  ·rintro a u _ _ ⟨z1,rfl,rfl⟩ ea
   obtain⟨b,eb,rfl⟩:=bI ea
   walk_at "go"
   exact⟨_,by rw[map_take eb],rfl⟩
  rintro _ _ ⟨z1,rfl,rfl⟩
  rw[a_,F_]
  walk_at "go"
  rw[CN]
  refine mC (fun g2=>?_) (fun g2=>?_)
  ·have hr:i∈rdy (aX J) (sM os):=rd.mpr ⟨g,fun n m=>of_decide_eq_true (Hj.mp g2 n m)⟩
   walk_at "go"
   refine⟨by omega,false,true,J,os++[i],by rw[v_];rfl,by omega,hJ,hN,by rw[h_,GN];omega,Gz.mpr ⟨nd,Ja _ _,fun a ma b mb=>fun z=>g (by rw[<-A_.mp mb,<-z];exact ma)⟩,fun a ma=>(FF.mp ma).elim (hm a) fun z=>by rw[A_.mp z];exact hi,fun l2 z1 z2 hl2 mem2=>?_⟩
   have p7:7 ^ n<=7 ^ 6:=Hs (by decide) (by omega)
   have p9:i * 7 ^ n<=6 * 7 ^ 6:=Nat.mul_le_mul (by omega) p7
   walk_at "go"
   refine⟨n_ (JY (n_ hl p9) (n_ hl2 p7)) (by decide),l++l2,_,_,by rw[h_,Jy];exact JY hl hl2,fun x=>?_,by rw[v_]⟩
   rw[FF,mem x,mem2 x,rn]
   constructor
   ·rintro(⟨a,y,h1,h2⟩ | ⟨y,h1,h2⟩)
    ·exact⟨a,y,by omega,h2⟩
    exact⟨i,y,by omega,hr,by rw[h1,i_];rfl,h2⟩
   rintro⟨a,y,h1,h2,h3,h4⟩
   by_cases z:a=i
   ·subst z
    exact .inr ⟨y,by rw[h3,i_];rfl,h4⟩
   exact .inl ⟨a,y,by omega,h2,h3,h4⟩
  walk_at "go"
  refine eB fun z=>?_
  have:j.needs.all (fun x=>decide (x∈os))=true:=Hj.mpr fun n m=>decide_eq_true ((rd.mp z).2 n m)
  rw[this]at g2
  cases g2
 rintro _ ⟨l,z3,z4,hl,mem,rfl⟩
 rw[fL]at hl mem
 walk_at "go"
 refine q l _ _ ?_ fun x=>?_
 ·rw[Nat.pow_succ]
  exact n_ hl (by rw[J5];exact Nat.mul_le_mul_left _ (by omega))
 rw[mem x]
 constructor
 ·rintro⟨a,y,_,h1,h2,h3⟩
  exact⟨a::y,h2,⟨h1,h3.1⟩,h3.2⟩
 rintro⟨y,rfl,hy⟩
 cases y with
 | nil=>exact absurd hy.2 (by rw[hR];exact ew)
 | cons a y=>exact⟨a,y,by have:=bx hy.1.1;omega,hy.1.1,rfl,hy.1.2,hy.2⟩
end
noncomputable def xi:FP:=fun ts k=>∃(c:Cells) (n:Nat) (m u:Nat),ts=[stT c n,.int (m:Int),.int (u:Int)]/\n < 2 ^ 30/\m<=10/\1<=u/\u<=5/\∀(c':Cells) (n':Nat) (J:List Jb) z1 z2,n'<=n + 1000->J.length=m->(∀ j∈J,j.a=false/\j.b=true/\j.needs.length<=8/\∀ i∈j.needs,i < m)->dH (aX J)->k (.lst true (J.map jbT)) [stT c' n',z1,z2]
section
variable{P:Kz}{w:KD}{K:Kk}{mg:Str->Option Kj}{base:KH}
theorem rY:FnScope ["_law_state","_law_many","_law_tools","_law_left","_law_turn","_law_order","_law_names","_law_jobs_here","_law_most","_law_place","_law_number","_law_needs"] ["_law_state","_law_many","_law_tools"] (ai rP):=⟨rfl,rfl,rfl,by decide +kernel,rfl,by decide +kernel,by decide +kernel⟩
set_option maxHeartbeats 4000000 in
theorem zt{f:Kl}{fd:KP}(F:Fun K "_law_jobs" "_law_jobs" rP f fd)(TX:Txt mg)  (G_take:Cal P w K mg base 1 "_law_take" ["_law_state","_law_many"] (aE K 2 k7)):FnOk P w K mg base CX0 2 f fd ["_law_state","_law_many","_law_tools"] (aE K 3 xi):=by
 refine bT F rY [true,true,true] rfl (fun cdv A outer s H E hr=>?_)
 have sc:=@rY
 have nd1:(["_law_turn","_law_left","_law_state"]:List Str).Nodup:=by decide +kernel
 refine⟨_,(@af _ _ _ _ _ _ (@aL _ _ _ _ _ 3 _ _ sc.nd (by rfl) (j_ rfl) (by rfl) (@aS _ _ _ (@l8 _ _ _ _ _ _ _ (by rfl) (by rfl) TX.list (by rfl) TX.range (@ab _ _ _ _ _ (@ae _ _ 1 _ (by rfl) (by first | exact j' rfl | exact j_ (j' rfl) | exact j_ (j_ rfl)) (by decide) (by decide)) (@ag _) (by rfl)) (by rfl) (by rfl))) (by rfl) (by first | exact .inl rfl | exact .inr rfl)) (@af _ _ _ _ _ _ (@nI _ _ _ _ _ sc 5 _ _ _ ["_law_turn","_law_left","_law_state"] [none,some 3,some 0] nd1 _ _ _ _ _ _ _ _ _ _ (by decide +kernel) (by rfl) (j' rfl) (by rfl) (@cP _ _ _ _ _ _ (by rfl) TX.range (@ab _ _ _ _ _ (@aR _ _ 1 _ (by rfl) (by first | exact j' rfl | exact j_ (j' rfl) | exact j_ (j_ rfl)) (by decide) (by decide)) (@ag _) (by rfl)) (by rfl)) (fun _ _ _=>(@aA _ _ _ 0 _ nd1 (by rfl) (j' rfl) (by rfl) (j_ rfl))) (fun _ _ _=>(@bK _)) (fun _ _ _=>(@jy _ _ _ _ _ _ _ _ _ 1 _ _ PySem.F.slot_list_pop PySem.F.type_list_pop uA (@ab _ _ _ _ _ (@av _ _ _ _ _ _ _ _ _ _ _ _ G_take hr (by rfl) (@bB _ _ _ 2 _ _ (@ah _ _ _ _ _ (@aS _ _ _ (@bN _ _ _ _ _ _ _ _ _ cg (by rfl) TX.len (by decide +kernel) (@ab _ _ _ _ _ (@ae _ _ 1 _ (by rfl) (by first | exact j' rfl | exact j_ (j' rfl) | exact j_ (j_ rfl)) (by decide) (by decide)) (@ag _) (by rfl)) (by decide) (by decide) (by rfl) (by rfl))) (@aq _) (by rfl)) (by rfl) (by first | exact j' rfl | exact j_ (j' rfl) | exact j_ (j_ rfl)) (by decide) (by decide) (by rfl)) (by omega) (by decide) (by rfl) (by rfl)) (@ag _) (by rfl)) (by rfl) (by first | exact j' rfl | exact j_ (j' rfl) | exact j_ (j_ rfl)) (by decide) (by decide) (by rfl) (by rfl) (by rfl) (by rfl) (by rfl))) (by rfl) (by rfl) (by rfl) (by rfl) (by rfl) (by intro _;rfl)) (@af _ _ _ _ _ _ (@aL _ _ _ _ _ 6 _ _ sc.nd (by rfl) (j' rfl) (by rfl) (@aU _ _ _ _ _ _ _ hr (@aS _ _ _ (@aT _ _ _ _ (@ab _ _ _ _ _ (@aT _ _ _ _ (@ab _ _ _ _ _ (@ge_int _ _ _ _) (@ab _ _ _ _ _ (@ge_int _ _ _ _) (@ab _ _ _ _ _ (@ge_int _ _ _ _) (@ab _ _ _ _ _ (@ge_int _ _ _ _) (@ab _ _ _ _ _ (@ge_int _ _ _ _) (@ag _) (by rfl)) (by rfl)) (by rfl)) (by rfl)) (by rfl))) (@ab _ _ _ _ _ (@aT _ _ _ _ (@ab _ _ _ _ _ (@ge_int _ _ _ _) (@ab _ _ _ _ _ (@ge_int _ _ _ _) (@ab _ _ _ _ _ (@ge_int _ _ _ _) (@ab _ _ _ _ _ (@ge_int _ _ _ _) (@ab _ _ _ _ _ (@ge_int _ _ _ _) (@ag _) (by rfl)) (by rfl)) (by rfl)) (by rfl)) (by rfl))) (@ab _ _ _ _ _ (@aT _ _ _ _ (@ab _ _ _ _ _ (@ge_int _ _ _ _) (@ab _ _ _ _ _ (@ge_int _ _ _ _) (@ab _ _ _ _ _ (@ge_int _ _ _ _) (@ab _ _ _ _ _ (@ge_int _ _ _ _) (@ab _ _ _ _ _ (@ge_int _ _ _ _) (@ag _) (by rfl)) (by rfl)) (by rfl)) (by rfl)) (by rfl))) (@ag _) (by rfl)) (by rfl)) (by rfl)))) (@av _ _ _ _ _ _ _ _ _ _ _ _ G_take hr (by rfl) (@bB _ _ _ 0 _ _ (@ah _ _ _ _ _ (@ge_int _ _ _ _) (@aq _) (by rfl)) (by rfl) (by first | exact j' rfl | exact j_ (j' rfl) | exact j_ (j_ rfl)) (by decide) (by decide) (by rfl)) (by omega) (by decide) (by rfl) (by rfl)) (by intro _ _;rfl)) (by rfl) (by first | exact .inl rfl | exact .inr rfl)) (@af _ _ _ _ _ _ (@aL _ _ _ _ _ 7 _ _ sc.nd (by rfl) (j' rfl) (by rfl) (@bc _ _ _ _ _ _ _ _ wa (@aS _ _ _ (@aT _ _ _ _ (@ab _ _ _ _ _ (@bu _ _ _ _ _ (@ab _ _ _ _ _ (@ge_int _ _ _ _) (@ab _ _ _ _ _ (@aT _ _ _ _ (@ag _)) (@ag _) (by rfl)) (by rfl))) (@ag _) (by rfl)))) (@aR _ _ 1 _ (by rfl) (by first | exact j' rfl | exact j_ (j' rfl) | exact j_ (j_ rfl)) (by decide) (by decide))) (by rfl) (by first | exact .inl rfl | exact .inr rfl)) (@af _ _ _ _ _ _ (@aL _ _ _ _ _ 8 _ _ sc.nd (by rfl) (j' rfl) (by rfl) (@aU _ _ _ _ _ _ _ hr (@aS _ _ _ (@aT _ _ _ _ (@ab _ _ _ _ _ (@ge_int _ _ _ _) (@ab _ _ _ _ _ (@ge_int _ _ _ _) (@ab _ _ _ _ _ (@ge_int _ _ _ _) (@ab _ _ _ _ _ (@ge_int _ _ _ _) (@ag _) (by rfl)) (by rfl)) (by rfl)) (by rfl)))) (@av _ _ _ _ _ _ _ _ _ _ _ _ G_take hr (by rfl) (@bB _ _ _ 0 _ _ (@ah _ _ _ _ _ (@ge_int _ _ _ _) (@aq _) (by rfl)) (by rfl) (by first | exact j' rfl | exact j_ (j' rfl) | exact j_ (j_ rfl)) (by decide) (by decide) (by rfl)) (by omega) (by decide) (by rfl) (by rfl)) (by intro _ _;rfl)) (by rfl) (by first | exact .inl rfl | exact .inr rfl)) (@af _ _ _ _ _ _ (@du _ _ _ _ _ _ _ _ _ Ly (by rfl) (@mQ _ _ _ _ _ _ _ _ (by rfl) TX.enumerate (@ab _ _ _ _ _ (@aR _ _ 5 _ (by rfl) (by first | exact j' rfl | exact j_ (j' rfl) | exact j_ (j_ rfl)) (by decide) (by decide)) (@ag _) (by rfl)) (by rfl)) (@jZ _ _ _ _ _ _ 2 (by rfl) (@br _ _ _ _ _ _ (@aA _ _ _ 9 _ sc.nd (by rfl) (j' rfl) (by rfl) (by first | exact .inl rfl | exact .inr rfl)) (@br _ _ _ _ _ _ (@aA _ _ _ 10 _ sc.nd (by rfl) (j' rfl) (by rfl) (by first | exact .inl rfl | exact .inr rfl)) (@fH _ _) (by rfl)) (by rfl)) (by rfl) (by rfl)) (@af _ _ _ _ _ _ (@aL _ _ _ _ _ 11 _ _ sc.nd (by rfl) (j' rfl) (by rfl) (@aS _ _ _ (@aT _ _ _ _ (@ag _))) (by rfl) (by first | exact .inl rfl | exact .inr rfl)) (@af _ _ _ _ _ _ (@du _ _ _ _ _ _ _ _ _ Ly (by rfl) (@cP _ _ _ _ _ _ (by rfl) TX.range (@ab _ _ _ _ _ (@ge_if _ _ _ _ _ _ _ _ (@rg _ _ _ (@e9 _ _ _ _ _ _ _ _ BU (@ae _ _ 9 _ (by rfl) (by first | exact j' rfl | exact j_ (j' rfl) | exact j_ (j_ rfl)) (by decide) (by decide)) (@ge_int _ _ _ _) (bj _))) (@av _ _ _ _ _ _ _ _ _ _ _ _ G_take hr (by rfl) (@bB _ _ _ 0 _ _ (@ah _ _ _ _ _ (@aS _ _ _ (@bc _ _ _ _ _ _ _ _ d4 (@ae _ _ 8 _ (by rfl) (by first | exact j' rfl | exact j_ (j' rfl) | exact j_ (j_ rfl)) (by decide) (by decide)) (@ge_int _ _ _ _))) (@aq _) (by rfl)) (by rfl) (by first | exact j' rfl | exact j_ (j' rfl) | exact j_ (j_ rfl)) (by decide) (by decide) (by rfl)) (by omega) (by decide) (by rfl) (by rfl)) (@ge_int _ _ _ _)) (@ag _) (by rfl)) (by rfl)) (@aA _ _ _ 4 _ sc.nd (by rfl) (j' rfl) (by rfl) (by first | exact .inl rfl | exact .inr rfl)) (@ay _ _ _ _ (@eQ _ _ _ _ _ (@jy _ _ _ _ _ _ _ _ _ 11 _ _ MK ML fD (@ab _ _ _ _ _ (@aU _ _ _ _ _ _ _ hr (@aR _ _ 5 _ (by rfl) (by first | exact j' rfl | exact j_ (j' rfl) | exact j_ (j_ rfl)) (by decide) (by decide)) (@av _ _ _ _ _ _ _ _ _ _ _ _ G_take hr (by rfl) (@bB _ _ _ 0 _ _ (@ah _ _ _ _ _ (@aR _ _ 9 _ (by rfl) (by first | exact j' rfl | exact j_ (j' rfl) | exact j_ (j_ rfl)) (by decide) (by decide)) (@aq _) (by rfl)) (by rfl) (by first | exact j' rfl | exact j_ (j' rfl) | exact j_ (j_ rfl)) (by decide) (by decide) (by rfl)) (by omega) (by decide) (by rfl) (by rfl)) (by intro _ _;rfl)) (@ag _) (by rfl)) (by rfl) (by first | exact j' rfl | exact j_ (j' rfl) | exact j_ (j_ rfl)) (by decide) (by decide) (by rfl) (by rfl) (by rfl) (by rfl) (by rfl)) (by rfl))) (by intro _;rfl)) (@ay _ _ _ _ (@qL _ _ _ _ _ _ _ (@bu _ _ _ _ _ (@ab _ _ _ _ _ (@aU _ _ _ _ _ _ _ hr (@aR _ _ 6 _ (by rfl) (by first | exact j' rfl | exact j_ (j' rfl) | exact j_ (j_ rfl)) (by decide) (by decide)) (@av _ _ _ _ _ _ _ _ _ _ _ _ G_take hr (by rfl) (@bB _ _ _ 0 _ _ (@ah _ _ _ _ _ (@aR _ _ 2 _ (by rfl) (by first | exact j' rfl | exact j_ (j' rfl) | exact j_ (j_ rfl)) (by decide) (by decide)) (@aq _) (by rfl)) (by rfl) (by first | exact j' rfl | exact j_ (j' rfl) | exact j_ (j_ rfl)) (by decide) (by decide) (by rfl)) (by omega) (by decide) (by rfl) (by rfl)) (by intro _ _;rfl)) (@ab _ _ _ _ _ (@aR _ _ 11 _ (by rfl) (by first | exact j' rfl | exact j_ (j' rfl) | exact j_ (j_ rfl)) (by decide) (by decide)) (@ag _) (by rfl)) (by rfl))) (@xQ _ _ _ _ 7 _ _ _ _ hr (@aR _ _ 10 _ (by rfl) (by first | exact j' rfl | exact j_ (j' rfl) | exact j_ (j_ rfl)) (by decide) (by decide)) (by rfl) (by first | exact j' rfl | exact j_ (j' rfl) | exact j_ (j_ rfl)) (by decide) (by decide) (by intro _;rfl)) (by rfl) (by rfl) (by rfl))))) (by intro _;rfl)) (@ay _ _ _ _ (@b6 _ _ _ _ _ (@pO _ _ 7 _ (by rfl) (by first | exact j' rfl | exact j_ (j' rfl) | exact j_ (j_ rfl)) (by decide) (by decide)))))))))),fun ts kk hl hp=>?_⟩
 clear hl
 obtain⟨c,n,m,u,rfl,hn,hm,u0,u1,q⟩:=hp
 walk_at "go"
 rw[E_,CG]
 refine⟨⟨by omega,by omega⟩,vW,⟨by omega,by omega⟩,?_⟩
 refine aY (by rw[a_,z_,K5];omega) (fun i acc ie=>∃(c':Cells) (l os:List Nat) (z1:T),(os++l).Perm (m_ m)/\os.length=i/\acc=os.map nT/\ie=[z1,.lst true (l.map nT),stT c' (n + i)]) ⟨c,m_ m,[],_,.refl _,rfl,rfl,rfl⟩ ?_ ?_
 ·rintro i t _ _ ⟨c',l,os,z1,pm,hos,rfl,rfl⟩ ei
  have hi:i < m:=by
   have:=(c_.mp ei).1
   rwa[a_,z_]at this
  have hl:os.length + l.length=m:=by
   have:=pm.length_eq
   rwa[h_,z_]at this
  walk_at "go"
  refine⟨_,_,_,rfl,by omega,by omega,by omega,?_⟩
  intro r c1 a1 b1
  have hr:r.toNat < l.length:=by omega
  have ex:l[r.toNat]?=some l[r.toNat]:=b_ hr
  walk_at "go"
  refine⟨⟨a1,by omega⟩,aF (by rw[A',ex];rfl) ?_⟩
  walk_at "go"
  rw[xX]
  refine⟨c1,l.eraseIdx r.toNat,os++[l[r.toNat]],_,?_,by rw[h_,hos];rfl,by rw[v_];rfl,rfl⟩
  rw[i_]
  exact((qu ex).symm.append_left os).trans pm
 rintro _ _ ⟨c',l,os,z1,pm,hos,rfl,rfl⟩
 rw[a_,z_]at hos ⊢
 have hl:l=[]:=by
  have:=pm.length_eq
  rw[h_,z_]at this
  exact FH (by omega)
 subst hl
 rw[FX]at pm
 have nd:os.Nodup:=pm.nodup_iff.mpr JO
 have mem:∀ i,i∈os↔i < m:=fun i=>pm.mem_iff.trans Gg
 walk_at "go"
 walk_at "take"
 intro r c1 a1 b1
 walk_at "go"
 obtain⟨ns,hns,en⟩:=xc a1 b1
 refine aF en ?_
 walk_at "go"
 refine⟨⟨by omega,by omega⟩,?_⟩
 walk_at "take"
 intro r2 c2 a2 b2
 walk_at "go"
 obtain⟨v,v0,v1,ev⟩:=Ar a2 b2
 refine aF ev ?_
 walk_at "go"
 rw[E_,Bd]
 refine bX (fun p env=>∃(c':Cells) (n':Nat) (J:List Jb) (o6:Bool) (z4 z9 z10 z11:T),n'<=n + m + 2 + p * 10/\JP os m p J/\env=[stT c' n',.int (m:Int),.int (u:Int),.lst true [],z4,.lst false (os.map nT),.lst o6 (ns.map T.int),.lst true (J.map jbT),.int (v:Int),z9,z10,z11]) ⟨c2,_,_,true,_,_,_,_,by omega,FD,rfl⟩ ?_ ?_
 ·rintro p t _ ⟨c',n',J,o6,z4,z9,z10,z11,hn',hJ,rfl⟩ ei
  obtain⟨i,ej,rfl⟩:=ni ei
  have hp:p < os.length:=(c_.mp ej).1
  have im:i < m:=(mem i).mp (C_ ej)
  walk_at "go"
  refine d9 (fun g=>?_) (fun g=>?_)
  ·walk_at "go"
   refine⟨_,_,_,rfl,by omega,by omega,by omega,?_⟩
   intro r3 c3 a3 b3
   walk_at "go"
   refine⟨⟨by omega,by omega⟩,bX (fun a env=>∃(c3:Cells) (n3:Nat) (nds:List Nat) (z4:T),n3<=n' + 1 + a/\nds.length=a/\(∀ x∈nds,x∈os.take p)/\env=[stT c3 n3,.int (m:Int),.int (u:Int),.lst true [],z4,.lst false (os.map nT),.lst o6 (ns.map T.int),.lst true (J.map jbT),.int (v:Int),.int (p:Int),.int (i:Int),.lst true (nds.map nT)]) ⟨c3,n' + 1,[],_,by omega,rfl,(fun x z=>by cases z),rfl⟩ ?_ ?_⟩
   ·rintro a t _ ⟨c5,n5,nds,z4,hn5,hnd,hx,rfl⟩ ea
    have ha:=kP ea
    walk_at "go"
    refine⟨_,_,_,rfl,by omega,by omega,by omega,?_⟩
    intro r5 c6 a5 b5
    have h5:r5.toNat < os.length:=by omega
    have e5:os[r5.toNat]?=some os[r5.toNat]:=b_ h5
    walk_at "go"
    refine aF (u:=nT os[r5.toNat]) (by have:=iP (g:=nT) e5;rwa[HB a5]at this) ?_
    walk_at "go"
    refine⟨by omega,c6,n5 + 1,nds++[os[r5.toNat]],_,by omega,by rw[h_,hnd];rfl,fun x hx'=>?_,by rw[v_];rfl⟩
    rcases FF.mp hx' with hx' | hx'
    ·exact hx x hx'
    rw[A_.mp hx']
    exact Gn.mpr ⟨r5.toNat,by rw[HJ (by omega)];exact e5⟩
   rintro _ ⟨c5,n5,nds,z4,hn5,hnd,hx,rfl⟩
   rw[dw]at hn5 hnd
   walk_at "go"
   refine⟨_,_,_,rfl,by omega,by omega,by omega,?_⟩
   intro r4 c4 a4 b4
   walk_at "go"
   obtain⟨tv,etv,_⟩:=lM (fun _=>True) (ns:=ns) (i:=r4) a4 (by omega) (fun _ _=>trivial)
   refine aF etv ?_
   walk_at "go"
   refine aF (AV (by rw[hJ.1];exact im)) ?_
   walk_at "go"
   exact⟨c4,n5 + 1,J.set i ⟨tv,nds,false,true⟩,false,_,_,_,_,by omega,va nd mem hJ ej (by omega) hx,by rw[JD];rfl⟩
  walk_at "go"
  refine⟨⟨by decide,by decide⟩,bX (fun a env=>∃(c3:Cells) (n3:Nat) (nds:List Nat) (z4:T),n3<=n' + 1 + a/\nds.length=a/\(∀ x∈nds,x∈os.take p)/\env=[stT c3 n3,.int (m:Int),.int (u:Int),.lst true [],z4,.lst false (os.map nT),.lst o6 (ns.map T.int),.lst true (J.map jbT),.int (v:Int),.int (p:Int),.int (i:Int),.lst true (nds.map nT)]) ⟨c',n',[],_,by omega,rfl,(fun x z=>by cases z),rfl⟩ (fun a t _ _ ea=>absurd (kP ea) (Im _)) ?_⟩
  rintro _ ⟨c5,n5,nds,z4,hn5,hnd,hx,rfl⟩
  rw[dw]at hn5 hnd
  walk_at "go"
  refine⟨_,_,_,rfl,by omega,by omega,by omega,?_⟩
  intro r4 c4 a4 b4
  walk_at "go"
  obtain⟨tv,etv,_⟩:=lM (fun _=>True) (ns:=ns) (i:=r4) a4 (by omega) (fun _ _=>trivial)
  refine aF etv ?_
  walk_at "go"
  refine aF (AV (by rw[hJ.1];exact im)) ?_
  walk_at "go"
  exact⟨c4,n5 + 1,J.set i ⟨tv,nds,false,true⟩,false,_,_,_,_,by omega,va nd mem hJ ej (by omega) hx,by rw[JD];rfl⟩
 rintro _ ⟨c',n',J,o6,z4,z9,z10,z11,hn',hJ,rfl⟩
 rw[fL,hos]at hn' hJ
 walk_at "go"
 exact q c' n' J _ _ (by omega) hJ.1 hJ.2.1 (zD nd mem hos hJ)
end
noncomputable def pM:FP:=fun ts k=>∃(c:Cells) (n:Nat) (o:Bool) (J:List Jb),ts=[stT c n,.lst o (J.map jbT)]/\n < 2 ^ 30/\J.length<=10/\(∀ j∈J,j.a=false/\j.needs.length<=50)/\∀(c':Cells) (n':Nat) (g o':Bool) (J':List Jb) z,n'<=n + 1000->J'.map (fun j=>(j.tool,j.needs))=J.map (fun j=>(j.tool,j.needs))->k (jsT g o' J') [stT c' n',z]
section
variable{P:Kz}{w:KD}{K:Kk}{mg:Str->Option Kj}{base:KH}
theorem lE:FnScope ["_law_state","_law_jobs_here","_law_some"] ["_law_state","_law_jobs_here"] (ai kc):=⟨rfl,rfl,rfl,by decide +kernel,rfl,by decide +kernel,by decide +kernel⟩
set_option maxHeartbeats 4000000 in
theorem ue{f:Kl}{fd:KP}(F:Fun K "_law_handed" "_law_handed" kc f fd)(TX:Txt mg)  (G_take:Cal P w K mg base 1 "_law_take" ["_law_state","_law_many"] (aE K 2 k7)):FnOk P w K mg base CX0 2 f fd ["_law_state","_law_jobs_here"] (aE K 2 pM):=by
 refine bT F lE [true,true] rfl (fun cdv A outer s H E hr=>?_)
 have sc:=@lE
 have nd1:(["_law_tool","_law_needs","_law_state"]:List Str).Nodup:=by decide +kernel
 have nd2:(["_law_job","_law_state"]:List Str).Nodup:=by decide +kernel
 refine⟨_,(af (nI sc (i:=2) ["_law_tool","_law_needs","_law_state"] [none,none,some 0] nd1 (by decide +kernel) (by rfl) (j' rfl) (by rfl) (bS (aR 1)) (fun _ _ _=>(jZ (n:=2) (by rfl) (br (aA (i:=0) nd1 (by rfl) (j' rfl) (by rfl) (hf:=(j_ rfl))) (br (aA (i:=1) nd1 (by rfl) (j' rfl) (by rfl) (hf:=(j_ rfl))) fH)))) (fun _ _ _=>bK) (fun _ _ _=>(bu (ab (aR 0) (ab (aU hr (aT (ab (cY f6 (by rfl) TX.list (by decide +kernel) (ab (aR 1) ag)) (ab (cY j4 (by rfl) TX.tuple (by decide +kernel) (ab (aR 1) ag)) ag))) (av G_take hr (by rfl) (bB 2 (ah ge_int aq)))) ag)))) (by rfl)) (af (nI sc (i:=2) ["_law_job","_law_state"] [none,some 0] nd2 (by decide +kernel) (by rfl) (j' rfl) (by rfl) (bS (aR 2)) (fun _ _ _=>(aA (i:=0) nd2 (by rfl) (j' rfl) (by rfl) (hf:=(j_ rfl)))) (fun _ _ _=>bK) (fun _ _ _=>(aU hr (aT (ab (aR 0) (ab (cY f6 (by rfl) TX.list (by decide +kernel) (ab (aR 0) ag)) ag))) (av G_take hr (by rfl) (bB 1 (ah ge_int aq))))) (by rfl)) (ay (b6 (aU hr (aT (ab (aR 2) (ab (cY j4 (by rfl) TX.tuple (by decide +kernel) (ab (aR 2) ag)) ag))) (av G_take hr (by rfl) (bB 0 (ah ge_int aq)))))))),fun ts kk hl hp=>?_⟩
 clear hl
 obtain⟨c,n,o,J,rfl,hn,hl,hj,q⟩:=hp
 walk_at "go"
 refine aY (by rw[a_,K5];omega) (fun i acc ie=>∃(c':Cells) (J':List Jb) (z1 z2:T),J'.map (fun j=>(j.tool,j.needs))=(J.take i).map (fun j=>(j.tool,j.needs))/\acc=J'.map joT/\ie=[z1,z2,stT c' (n + i)]) ⟨c,[],_,_,rfl,rfl,rfl⟩ ?_ ?_
 ·rintro i t _ _ ⟨c',J',z1,z2,e1,rfl,rfl⟩ ei
  obtain⟨j,ej,rfl⟩:=bI ei
  have il:i < J.length:=(c_.mp ej).1
  obtain⟨ja,jn⟩:=hj j (C_ ej)
  rw[xv ja]
  walk_at "go"
  walk_at "take"
  intro r c1 a1 b1
  walk_at "go"
  refine aF (rQ a1 b1) ?_
  walk_at "go"
  refine⟨c1,J'++[⟨j.tool,j.needs,false,decide (r=0)⟩],_,_,?_,?_,rfl⟩
  ·rw[v_,e1,map_take ej];rfl
  rw[v_]
  congr 1
  show _=[joT _]
  unfold joT
  by_cases g:r=0
  ·rw[if_pos g,decide_eq_true g];rfl
  rw[if_neg g,decide_eq_false g];rfl
 rintro _ _ ⟨c',J',z1,z2,e1,rfl,rfl⟩
 rw[a_,F_]at *
 have l1:J'.length=J.length:=by have:=congrArg Hu e1;rwa[a_,a_]at this
 walk_at "go"
 refine aY (by rw[a_,K5];omega) (fun i acc ie=>∃(c':Cells) (J2:List Jb) (z1:T),J2.map (fun j=>(j.tool,j.needs))=(J'.take i).map (fun j=>(j.tool,j.needs))/\erL acc=J2.map jbT/\ie=[z1,stT c' (n + J.length + i)]) ⟨c',[],_,rfl,rfl,rfl⟩ ?_ ?_
 ·rintro i t _ _ ⟨c',J2,z1,e2,e3,rfl⟩ ei
  obtain⟨j,ej,rfl⟩:=bI ei
  have il:i < J'.length:=(c_.mp ej).1
  walk_at "go"
  walk_at "take"
  intro r c1 a1 b1
  walk_at "go"
  refine aF (rQ a1 b1) ?_
  walk_at "go"
  refine⟨c1,J2++[⟨j.tool,j.needs,decide (r≠0),j.b⟩],_,?_,?_,rfl⟩
  ·rw[v_,e2,map_take ej];rfl
  rw[e3,v_]
  congr 1
  show [er _]=[jbT _]
  by_cases g:r=0
  ·rw[if_pos g,d6,decide_eq_false (fun z=>z g)]
  rw[if_neg g,decide_eq_true g]
  show [er (.lst true [.int j.tool,ndT j.b j.needs])]=[T.lst false [.int j.tool,ndT j.b j.needs]]
  simp only[er,erL,df]
 rintro acc _ ⟨c2,J2,z1,e2,e3,rfl⟩
 rw[a_,F_]at *
 walk_at "go"
 walk_at "take"
 intro r c3 a1 b1
 walk_at "go"
 refine aF (rQ a1 b1) ?_
 walk_at "go"
 rw[e3,show erL (J2.map jbT)=J2.map jbT by rw[eS];exact Gh fun _ _=>d6]
 by_cases g:r=0
 ·rw[if_pos g]
  exact q c3 _ false false J2 _ (by omega) (e2.trans e1)
 rw[if_neg g]
 exact q c3 _ true false J2 _ (by omega) (e2.trans e1)
end
noncomputable def jc:FP:=fun ts k=>∃(c:Cells) (n:Nat) (o:Bool) (J:List Jb),ts=[stT c n,.lst o (J.map jbT)]/\n < 2 ^ 29/\J.length<=6/\(∀ j∈J,j.a=false/\j.b=true/\j.needs.length<=8/\∀ i∈j.needs,i < J.length)/\dH (aX J)/\∀(c':Cells) (n':Nat) z,n'<=n + 1000->k (.bl true) [stT c' n',z]
section
variable{P:Kz}{w:KD}{K:Kk}{mg:Str->Option Kj}{base:KH}
theorem gC:FnScope ["_law_state","_law_jobs_here","_law_orders_here","_law_least","_law_order","_law_handed_here","_law_turn","_law_found"] ["_law_state","_law_jobs_here"] (ai dO):=⟨rfl,rfl,rfl,by decide +kernel,rfl,by decide +kernel,by decide +kernel⟩
set_option maxHeartbeats 4000000 in
theorem nM{f:Kl}{fd:KP}(F:Fun K "_law_one_right" "_law_one_right" dO f fd)(TX:Txt mg)  (G_least_takes:Cal P w K mg base 4 "least_takes" ["jobs"] (aE K 1 cC))(G_same:Cal P w K mg base 4 "_law_same" ["_law_found","_law_due"] (aE K 2 (iF 4)))(G_takes_in:Cal P w K mg base 1 "_law_takes_in" ["_law_jobs_here","_law_order"] (aE K 2 kT))(G_orders:Cal P w K mg base 9 "_law_orders" ["_law_jobs_here","_law_begun"] (aE K 2 (dX 8)))(G_handed:Cal P w K mg base 2 "_law_handed" ["_law_state","_law_jobs_here"] (aE K 2 pM)):FnOk P w K mg base CX0 10 f fd ["_law_state","_law_jobs_here"] (aE K 2 jc):=by
 refine bT F gC [true,true] rfl (fun cdv A outer s H E hr=>?_)
 have sc:=@gC
 have nd1:(["_law_some","_law_jobs_here"]:List Str).Nodup:=by decide +kernel
 have nd2:(["_law_job"]:List Str).Nodup:=by decide +kernel
 refine⟨_,(af (aL (i:=2) sc.nd (by rfl) (j' rfl) (by rfl) (av G_orders hr (by rfl) (ah (aR 1) (ah (aS (aT ag)) aq)))) (af (qL (bN (qr hr rfl) (by rfl) TX.min (by decide +kernel) (ab (cv sc ["_law_some","_law_jobs_here"] [none,some 1] nd1 (by decide +kernel) (bS (aR 2)) (fun _ _ _=>(aA (i:=0) nd1 (by rfl) (j' rfl) (by rfl) (hf:=(j_ rfl)))) (fun _ _ _=>bK) (fun _ _ _=>(bu (ab (aS (av G_takes_in hr (by rfl) (ah (ae 1) (ah (ae 0) aq)))) (ab (aR 0) ag))))) ag)) (jZ (n:=2) (by rfl) (br (aA (i:=3) sc.nd (by rfl) (j' rfl) (by rfl)) (br (aA (i:=4) sc.nd (by rfl) (j' rfl) (by rfl)) fH)))) (af (aL (i:=5) sc.nd (by rfl) (j' rfl) (by rfl) (av G_handed hr (by rfl) (bB 0 (ah (aR 1) aq)))) (af (du Ly (by rfl) (cP (by rfl) TX.range (ab ge_int ag)) (aA (i:=6) sc.nd (by rfl) (j' rfl) (by rfl)) (af (aL (i:=7) sc.nd (by rfl) (j' rfl) (by rfl) (av G_least_takes hr (by rfl) (ah (aR 5) aq))) (af (pC (rg (rS (iA (av G_same hr (by rfl) (ah (ae 7) (ah (bu (ab (ae 3) (ab (ae 4) ag))) aq)))))) (ay (b6 Aw)) gu) (af (eQ (qG 7 PySem.F.slot_list_reverse PySem.F.type_list_reverse qb)) (ay (eQ (ug 7 MK ML fD (ab (aS (qO ge_int)) ag)))))))) (ay (b6 (aS (qo (jE hr) (cv sc ["_law_job"] [none] nd2 (by decide +kernel) (bS (ae 5)) (fun _ _ _=>(aA (i:=0) nd2 (by rfl) (j' rfl) (by rfl) (hf:=(j_ rfl)))) (fun _ _ _=>bK) (fun _ _ _=>(bu (ab (aU hr (ae 0) ge_int) (ab (cY f6 (by rfl) TX.list (by decide +kernel) (ab (aU hr (ae 0) ge_int) ag)) ag))))) (ae 1) (bj _))))))))),fun ts kk hl hp=>?_⟩
 clear hl
 obtain⟨c,n,o,J,rfl,hn,hl,hj,nr,q⟩:=hp
 have hR:(aX J).length=J.length:=a_ ..
 walk_at "go"
 refine⟨false,true,J,[],rfl,by decide,hl,fun j m=>by have:=(hj j m).2.2.1;omega,by show J.length<=0 + 7;omega,GZ,(fun i m=>by cases m),fun l z1 z2 hll mem=>?_⟩
 walk_at "go"
 have hl7:l.length<=823543:=hll
 refine aY (by rw[a_,K5];omega) (fun i acc ie=>∃ z1,acc=(l.take i).map (fun x=>T.tup [.int (tkF (aX J) none x),.lst false (x.map nT)])/\ie=[z1,.lst false (J.map jbT)]) ⟨_,rfl,rfl⟩ ?_ ?_
 ·rintro i t _ _ ⟨z1,rfl,rfl⟩ ei
  obtain⟨x,ex,rfl⟩:=bI ei
  obtain⟨y,exy,cy⟩:=(mem x).mp (C_ ex)
  rw[GO]at exy
  subst exy
  have cl:=qE cy.1
  walk_at "go"
  refine⟨_,_,J,_,rfl,fun i m=>by have:=((xC _ _ cy.1).2 i m).1;omega,by omega,fun z1 z2=>?_⟩
  walk_at "go"
  exact⟨_,by rw[map_take ex],rfl⟩
 rintro _ _ ⟨z1,rfl,rfl⟩
 rw[a_,F_]
 walk_at "go"
 refine aF Dz ?_
 walk_at "go"
 refine⟨fun z=>?_,fun i u m hu hm hb=>?_⟩
 ·obtain⟨y,cy⟩:=nr
  have:=(mem y).mpr ⟨y,rfl,cy⟩
  rw[Jw.mp z]at this
  cases this
 obtain⟨x,ex,rfl⟩:=bI hu
 rw[A',ex]at hm
 cases hm
 have fx:lC (aX J) (tkF (aX J) none x) x:=by
  obtain⟨y,exy,cy⟩:=(mem x).mp (C_ ex)
  rw[GO]at exy
  subst exy
  exact⟨cy,rfl,fun o' c'=>hb _ (FG.mpr ⟨o',(mem o').mpr ⟨o',rfl,c'⟩,rfl⟩)⟩
 have xl:=qE fx.1.1
 generalize tkF (aX J) none x=L at fx
 clear hb hu ex mem hll hl7
 walk_at "go"
 refine⟨c,n,_,J,rfl,by omega,by omega,fun j m=>⟨(hj j m).1,by have:=(hj j m).2.2.1;omega⟩,fun c' n' g o' J' z hn' sm=>?_⟩
 have er':=Ae sm
 have jl:J'.length=J.length:=by have:=congrArg Hu sm;rwa[a_,a_]at this
 walk_at "go"
 refine⟨⟨by decide,by decide⟩,bX (fun i env=>∃(o5:Bool) (z2 z6 z7:T),env=[stT c' n',.lst false (J.map jbT),z2,.int L,.lst false (x.map nT),jsT g o5 J',z6,z7]) ⟨_,_,_,_,rfl⟩ ?_ ?_⟩
 ·rintro i t _ ⟨o5,z2,z6,z7,rfl⟩ ei
  walk_at "go"
  refine⟨g,false,J',rfl,by omega,fun j m=>?_,by rw[er'];exact nr,fun L' os z h1=>?_⟩
  ·obtain⟨j0,m0,e0⟩:=rz sm m
   rw[<-e0]
   intro a ma
   have:=(hj j0 m0).2.2.2 a ma
   omega
  rw[er']at h1
  obtain⟨rfl,rfl⟩:=qw h1 fx
  walk_at "go"
  refine same_self (n:=2) (qB (by omega)) (by decide) ?_
  walk_at "go"
  refine⟨_,1,_,rfl,rfl,rfl,rfl,?_⟩
  walk_at "go"
  refine⟨_,1,_,rfl,rfl,rfl,rfl,?_⟩
  walk_at "go"
  exact⟨by rw[GF,a_];omega,_,_,_,_,rfl⟩
 rintro _ ⟨o5,z2,z6,z7,rfl⟩
 walk_at "go"
 refine aY (by rw[a_,K5];omega) (fun i acc ie=>∃ z1,acc=(J'.take i).map (fun j=>T.tup [.int j.tool,.lst true (j.needs.map nT)])/\ie=[z1]) ⟨_,rfl,rfl⟩ ?_ ?_
 ·rintro i t _ _ ⟨z1,rfl,rfl⟩ ei
  obtain⟨j,ej,rfl⟩:=bI ei
  walk_at "go"
  exact⟨_,by rw[map_take ej],rfl⟩
 rintro _ _ ⟨z1,rfl,rfl⟩
 rw[a_,F_]
 walk_at "go"
 refine yu sm (by omega) (fun j m=>⟨(hj j m).1,(hj j m).2.1,by have:=(hj j m).2.2.1;omega⟩) ?_
 walk_at "go"
 exact q _ _ _ (by omega)
end
section
variable{P:Kz}{w:KD}{K:Kk}{mg:Str->Option Kj}{base:KH}
theorem vG:FnScope ["_law_script","_law_state","_law_turn","_law_jobs_here"] ["_law_script"] (ai dR):=⟨rfl,rfl,rfl,by decide +kernel,rfl,by decide +kernel,by decide +kernel⟩
set_option maxHeartbeats 4000000 in
theorem Cg{f:Kl}{fd:KP}(F:Fun K "law" "law" dR f fd)(TX:Txt mg)  (G_least_takes:Cal P w K mg base 4 "least_takes" ["jobs"] (aE K 1 cC))(G_begin:Cal P w K mg base 1 "_law_begin" ["_law_script"] (aE K 1 (my K)))(G_take:Cal P w K mg base 1 "_law_take" ["_law_state","_law_many"] (aE K 2 k7))(G_same:Cal P w K mg base 4 "_law_same" ["_law_found","_law_due"] (aE K 2 (iF 4)))(G_jobs:Cal P w K mg base 2 "_law_jobs" ["_law_state","_law_many","_law_tools"] (aE K 3 xi))(G_one_right:Cal P w K mg base 10 "_law_one_right" ["_law_state","_law_jobs_here"] (aE K 2 jc)):FnOk P w K mg base CX0 11 f fd ["_law_script"] (aE K 1 (vI K)):=by
 refine bT F vG [true] rfl (fun cdv A outer s H E hr=>?_)
 have sc:=@vG
 refine⟨_,(af (aL (i:=1) sc.nd (by rfl) (j' rfl) (by rfl) (aS (av G_begin hr (by rfl) (ah (ae 0) aq)))) (af (du Ly (by rfl) (cP (by rfl) TX.range (ab ge_int ag)) (aA (i:=2) sc.nd (by rfl) (j' rfl) (by rfl)) (af (aL (i:=3) sc.nd (by rfl) (j' rfl) (by rfl) (av G_jobs hr (by rfl) (bB 1 (ah (av G_take hr (by rfl) (bB 1 (ah ge_int aq))) (ah (bc d4 ge_int (av G_take hr (by rfl) (bB 1 (ah ge_int aq)))) aq))))) (ay (pC (rS (iA (av G_one_right hr (by rfl) (bB 1 (ah (aR 3) aq))))) (ay (b6 Aw)) gu)))) (ay (b6 (aS (BE (av G_same hr (by rfl) (ah (av G_least_takes hr (by rfl) (ah (aT ag) aq)) (ah (bu (ab ge_int (ab (aT ag) ag))) aq))) (CO (av G_same hr (by rfl) (ah (av G_least_takes hr (by rfl) (ah (bu ag) aq)) (ah (bu (ab ge_int (ab (aT ag) ag))) aq)))))))))),fun ts kk hl hp=>?_⟩
 clear hl
 obtain⟨t,ns,rfl,hs,hn,q⟩:=hp
 walk_at "go"
 obtain⟨e,i⟩:=C0 hs
 rw[e]
 refine⟨i,t,ns,rfl,hs,hn,fun c=>?_⟩
 walk_at "go"
 refine⟨⟨by decide,by decide⟩,bX (fun i env=>∃(c:Cells) (n:Nat) (z0 z2 z3:T),n<=i * 3000/\env=[z0,stT c n,z2,z3]) ⟨c,0,_,_,_,B' _,rfl⟩ ?_ ?_⟩
 ·rintro i t _ ⟨c,n,z0,z2,z3,hn',rfl⟩ ei
  have hi:i < 3:=kP ei
  walk_at "go"
  refine⟨_,_,_,rfl,by omega,by decide,by decide,?_⟩
  intro r c1 a1 b1
  walk_at "go"
  refine⟨_,_,_,rfl,by omega,by decide,by decide,?_⟩
  intro r2 c2 a2 b2
  walk_at "go"
  refine⟨c2,_,r.toNat,(1 + r2).toNat,by rw[HB a1,HB (by omega)],by omega,by omega,by omega,by omega,fun c3 n3 J z1 z2 h1 h2 h3 h4=>?_⟩
  walk_at "go"
  refine⟨c3,n3,_,J,rfl,by omega,by omega,by rw[h2];exact h3,h4,fun c4 n4 z h5=>?_⟩
  walk_at "go"
  exact⟨c4,n4,_,_,_,by omega,rfl⟩
 rintro _ ⟨c,n,z0,z2,z3,hn',rfl⟩
 have nr0:dH (aX []):=⟨[],trivial,rfl⟩
 have f0:∀(L:Int) (os:List Nat),lC (aX []) L os->L=0/\os=[]:=fun L os h1=>by
  have:=qE h1.1.1
  have e:os=[]:=FH (Kd.mp this)
  subst e
  exact⟨h1.2.1.symm,rfl⟩
 walk_at "go"
 refine⟨false,true,[],rfl,by decide,(fun j m=>by cases m),nr0,fun L os z h1=>?_⟩
 obtain⟨rfl,rfl⟩:=f0 L os h1
 walk_at "go"
 refine same_self (n:=2) (qB (o:=true) (x:=[]) (by decide)) (by decide) ?_
 walk_at "go"
 refine⟨true,false,[],rfl,by decide,(fun j m=>by cases m),nr0,fun L os z h1=>?_⟩
 obtain⟨rfl,rfl⟩:=f0 L os h1
 walk_at "go"
 refine same_self (n:=2) (qB (o:=true) (x:=[]) (by decide)) (by decide) ?_
 walk_at "go"
 exact q _
end
theorem ar0{α:Type}{P:List α->Prop}(h:P []):∀ us:List α,us.length=0->P us:=fun us e=>by
 cases us with
 | nil=>exact h
 | cons a r=>cases e
theorem ar1{α:Type}{P:List α->Prop}(h:∀ a0,P [a0]):∀ us:List α,us.length=1->P us:=fun us e=>by
 cases us with
 | nil=>cases e
 | cons a0 r=>exact ar0 (P:=fun r=>P (a0::r)) (h a0) r (GJ e)
theorem ar2{α:Type}{P:List α->Prop}(h:∀ a0 a1,P [a0,a1]):∀ us:List α,us.length=2->P us:=fun us e=>by
 cases us with
 | nil=>cases e
 | cons a0 r=>exact ar1 (P:=fun r=>P (a0::r)) (h a0) r (GJ e)
theorem ar3{α:Type}{P:List α->Prop}(h:∀ a0 a1 a2,P [a0,a1,a2]):∀ us:List α,us.length=3->P us:=fun us e=>by
 cases us with
 | nil=>cases e
 | cons a0 r=>exact ar2 (P:=fun r=>P (a0::r)) (h a0) r (GJ e)
theorem ar4{α:Type}{P:List α->Prop}(h:∀ a0 a1 a2 a3,P [a0,a1,a2,a3]):∀ us:List α,us.length=4->P us:=fun us e=>by
 cases us with
 | nil=>cases e
 | cons a0 r=>exact ar3 (P:=fun r=>P (a0::r)) (h a0) r (GJ e)
theorem ar5{α:Type}{P:List α->Prop}(h:∀ a0 a1 a2 a3 a4,P [a0,a1,a2,a3,a4]):∀ us:List α,us.length=5->P us:=fun us e=>by
 cases us with
 | nil=>cases e
 | cons a0 r=>exact ar4 (P:=fun r=>P (a0::r)) (h a0) r (GJ e)
theorem walk{l:NY}{q:Kz}{loose:List Str}{XP:(Str->Option Kj)->KH->Prop}{YP:KD->KH->Prop}{d:DefRec}{K:NM->Kk}(hn:l.most=some 63)(hdf:d.params.defaults=[])
  (hY:∀(w:KD) (h:KH),YP w h->(K w.params).In h)
  (F:∀(w:KD) (mg:Str->Option Kj) (fa:Kl) (h:KH),(K w.params).In h->h.Ns Ll mg->mg d.name=some (.ref fa)->
   ∃ fd:KP,(∀(s:Km) (u:Kj),Oa s fd ⟨[u],[]⟩ [("_law_script",u)])/\∀ base:KH,(K w.params).In base->base.Ns Ll mg->FnOk l.prog w (K w.params) mg base CX0 11 fa fd ["_law_script"] (sG (K w.params))) :
  QG q loose XP YP l.row.toRowW d [] (fun f vs=>PZ f vs):=
 L2.zq (n:=63) (k:=11) (x:="_law_script") (CX:=fun _=>CX0) (sp:=fun w=>sG (K w.params)) hn (by decide) hdf ⟨rfl,by decide,by decide,rfl⟩ hY F (fun _ _ a ns hl _ hS=>⟨a,ns,rfl,hS,hl,fun _=>rfl⟩) fun _ _ _ _ _ z=>z
noncomputable def kd(P:NM) (x:Str) (t:Tok) (v:Kj):Qv:=⟨PyData.keyHash P x,.str x t,v⟩
noncomputable def kf(n:Str) (s:K8) (m:Kj) (c:Kl):Obj:=⟨.type "function",none,.func (LY n n (cq s) (bL s) (ai s) .none .none .none m none (.ref c) .none),#[]⟩
noncomputable def KK(P:NM):Kk:=[(3,⟨.type "dict",none,.dict #[kd P "__name__" 165 (.str "law_millpath_k58_least_takes_and_first_order" 302),kd P "__doc__" 166 (.none),kd P "__package__" 167 (.none),kd P "__loader__" 168 (.builtin "__main__.__loader__#opaque"),kd P "__spec__" 169 (.none),kd P "__annotations__" 170 (.ref 6),kd P "__builtins__" 171 (.ref 4),kd P "__file__" 173 (.str "/claim/cut.py" 172),kd P "__cached__" 174 (.none),kd P "MillError" 206 (.ref 24),kd P "Round" 222 (.ref 37),kd P "rows_of" 230 (.ref 44),kd P "set_of" 239 (.ref 51),kd P "whole_of" 246 (.ref 58),kd P "is_part" 254 (.ref 65),kd P "ready" 260 (.ref 70),kd P "tools_in" 266 (.ref 75),kd P "least_takes" 274 (.ref 80),kd P "refuse_rings" 283 (.ref 87),kd P "takes_from_all" 289 (.ref 92),kd P "takes_by" 301 (.ref 99),kd P "_law_begin" 311 (.ref 106),kd P "_law_take" 324 (.ref 113),kd P "_law_same" 330 (.ref 118),kd P "_law_jobs" 336 (.ref 123),kd P "_law_takes_in" 342 (.ref 128),kd P "_law_orders" 348 (.ref 133),kd P "_law_handed" 354 (.ref 138),kd P "_law_one_right" 360 (.ref 143),kd P "law" 370 (.ref 150)] 30,#[]⟩),(44,kf "rows_of" iu (.str "millpath.jobsets" 223) 43),(43,⟨.type "code",none,.fields #[.str "rows_of" 225,.str "rows_of" 226,.str "/claim/cut.py" 227,.int (7) 0,.int (1) 0,.int (0) 0,.int (0) 0,.int (3) 0,.ref 40,.bool true,.int (181) 0,.ref 41,.none,.none,.none,.ref 42,.int (228) 0,.int (7) 0,.str "/claim/cut.py" 229],#[]⟩),(51,kf "set_of" k8 (.str "millpath.jobsets" 223) 50),(50,⟨.type "code",none,.fields #[.str "set_of" 231,.str "set_of" 232,.str "/claim/cut.py" 233,.int (9) 0,.int (1) 0,.int (0) 0,.int (0) 0,.int (3) 0,.ref 45,.bool true,.int (181) 0,.ref 46,.none,.ref 47,.ref 48,.ref 49,.int (237) 0,.int (9) 0,.str "/claim/cut.py" 238],#[]⟩),(58,kf "whole_of" fw (.str "millpath.jobsets" 223) 57),(57,⟨.type "code",none,.fields #[.str "whole_of" 240,.str "whole_of" 241,.str "/claim/cut.py" 242,.int (14) 0,.int (1) 0,.int (0) 0,.int (0) 0,.int (3) 0,.ref 52,.bool true,.int (181) 0,.ref 53,.none,.ref 54,.ref 55,.ref 56,.int (244) 0,.int (14) 0,.str "/claim/cut.py" 245],#[]⟩),(65,kf "is_part" iI (.str "millpath.jobsets" 223) 64),(64,⟨.type "code",none,.fields #[.str "is_part" 247,.str "is_part" 248,.str "/claim/cut.py" 249,.int (16) 0,.int (2) 0,.int (0) 0,.int (0) 0,.int (3) 0,.ref 59,.bool true,.int (181) 0,.ref 60,.none,.ref 61,.ref 62,.ref 63,.int (252) 0,.int (16) 0,.str "/claim/cut.py" 253],#[]⟩),(70,kf "ready" nB (.str "millpath.jobsets" 223) 69),(69,⟨.type "code",none,.fields #[.str "ready" 255,.str "ready" 256,.str "/claim/cut.py" 257,.int (18) 0,.int (2) 0,.int (0) 0,.int (0) 0,.int (3) 0,.ref 66,.bool true,.int (181) 0,.ref 67,.none,.none,.none,.ref 68,.int (258) 0,.int (18) 0,.str "/claim/cut.py" 259],#[]⟩),(75,kf "tools_in" fA (.str "millpath.jobsets" 223) 74),(74,⟨.type "code",none,.fields #[.str "tools_in" 261,.str "tools_in" 262,.str "/claim/cut.py" 263,.int (20) 0,.int (1) 0,.int (0) 0,.int (0) 0,.int (3) 0,.ref 71,.bool true,.int (181) 0,.ref 72,.none,.none,.none,.ref 73,.int (264) 0,.int (20) 0,.str "/claim/cut.py" 265],#[]⟩),(80,kf "least_takes" cx (.str "millpath.jobs" 267) 79),(79,⟨.type "code",none,.fields #[.str "least_takes" 269,.str "least_takes" 270,.str "/claim/cut.py" 271,.int (23) 0,.int (1) 0,.int (0) 0,.int (0) 0,.int (3) 0,.ref 76,.bool true,.int (181) 0,.ref 77,.none,.none,.none,.ref 78,.int (272) 0,.int (23) 0,.str "/claim/cut.py" 273],#[]⟩),(87,kf "refuse_rings" ck (.str "millpath.jobs" 267) 86),(86,⟨.type "code",none,.fields #[.str "refuse_rings" 275,.str "refuse_rings" 276,.str "/claim/cut.py" 277,.int (37) 0,.int (1) 0,.int (0) 0,.int (0) 0,.int (3) 0,.ref 81,.bool true,.int (181) 0,.ref 82,.none,.ref 83,.ref 84,.ref 85,.int (281) 0,.int (37) 0,.str "/claim/cut.py" 282],#[]⟩),(92,kf "takes_from_all" bH (.str "millpath.jobs" 267) 91),(91,⟨.type "code",none,.fields #[.str "takes_from_all" 284,.str "takes_from_all" 285,.str "/claim/cut.py" 286,.int (45) 0,.int (1) 0,.int (0) 0,.int (0) 0,.int (3) 0,.ref 88,.bool true,.int (181) 0,.ref 89,.none,.none,.none,.ref 90,.int (287) 0,.int (45) 0,.str "/claim/cut.py" 288],#[]⟩),(99,kf "takes_by" ff (.str "millpath.jobs" 267) 98),(98,⟨.type "code",none,.fields #[.str "takes_by" 290,.str "takes_by" 291,.str "/claim/cut.py" 292,.int (53) 0,.int (5) 0,.int (0) 0,.int (0) 0,.int (3) 0,.ref 93,.bool true,.int (181) 0,.ref 94,.none,.ref 95,.ref 96,.ref 97,.int (299) 0,.int (53) 0,.str "/claim/cut.py" 300],#[]⟩),(106,kf "_law_begin" jw (.str "law_millpath_k58_least_takes_and_first_order" 302) 105),(105,⟨.type "code",none,.fields #[.str "_law_begin" 304,.str "_law_begin" 305,.str "/claim/cut.py" 306,.int (57) 0,.int (1) 0,.int (0) 0,.int (0) 0,.int (3) 0,.ref 100,.bool true,.int (181) 0,.ref 101,.none,.ref 102,.ref 103,.ref 104,.int (309) 0,.int (57) 0,.str "/claim/cut.py" 310],#[]⟩),(113,kf "_law_take" mV (.str "law_millpath_k58_least_takes_and_first_order" 302) 112),(112,⟨.type "code",none,.fields #[.str "_law_take" 312,.str "_law_take" 313,.str "/claim/cut.py" 314,.int (62) 0,.int (2) 0,.int (0) 0,.int (0) 0,.int (3) 0,.ref 107,.bool true,.int (181) 0,.ref 108,.none,.ref 109,.ref 110,.ref 111,.int (322) 0,.int (62) 0,.str "/claim/cut.py" 323],#[]⟩),(118,kf "_law_same" s_same (.str "law_millpath_k58_least_takes_and_first_order" 302) 117),(117,⟨.type "code",none,.fields #[.str "_law_same" 325,.str "_law_same" 326,.str "/claim/cut.py" 327,.int (73) 0,.int (2) 0,.int (0) 0,.int (0) 0,.int (3) 0,.ref 114,.bool true,.int (181) 0,.ref 115,.none,.none,.none,.ref 116,.int (328) 0,.int (73) 0,.str "/claim/cut.py" 329],#[]⟩),(123,kf "_law_jobs" rP (.str "law_millpath_k58_least_takes_and_first_order" 302) 122),(122,⟨.type "code",none,.fields #[.str "_law_jobs" 331,.str "_law_jobs" 332,.str "/claim/cut.py" 333,.int (89) 0,.int (3) 0,.int (0) 0,.int (0) 0,.int (3) 0,.ref 119,.bool true,.int (181) 0,.ref 120,.none,.none,.none,.ref 121,.int (334) 0,.int (89) 0,.str "/claim/cut.py" 335],#[]⟩),(128,kf "_law_takes_in" fv (.str "law_millpath_k58_least_takes_and_first_order" 302) 127),(127,⟨.type "code",none,.fields #[.str "_law_takes_in" 337,.str "_law_takes_in" 338,.str "/claim/cut.py" 339,.int (101) 0,.int (2) 0,.int (0) 0,.int (0) 0,.int (3) 0,.ref 124,.bool true,.int (181) 0,.ref 125,.none,.none,.none,.ref 126,.int (340) 0,.int (101) 0,.str "/claim/cut.py" 341],#[]⟩),(133,kf "_law_orders" gP (.str "law_millpath_k58_least_takes_and_first_order" 302) 132),(132,⟨.type "code",none,.fields #[.str "_law_orders" 343,.str "_law_orders" 344,.str "/claim/cut.py" 345,.int (104) 0,.int (2) 0,.int (0) 0,.int (0) 0,.int (3) 0,.ref 129,.bool true,.int (181) 0,.ref 130,.none,.none,.none,.ref 131,.int (346) 0,.int (104) 0,.str "/claim/cut.py" 347],#[]⟩),(138,kf "_law_handed" kc (.str "law_millpath_k58_least_takes_and_first_order" 302) 137),(137,⟨.type "code",none,.fields #[.str "_law_handed" 349,.str "_law_handed" 350,.str "/claim/cut.py" 351,.int (112) 0,.int (2) 0,.int (0) 0,.int (0) 0,.int (3) 0,.ref 134,.bool true,.int (181) 0,.ref 135,.none,.none,.none,.ref 136,.int (352) 0,.int (112) 0,.str "/claim/cut.py" 353],#[]⟩),(143,kf "_law_one_right" dO (.str "law_millpath_k58_least_takes_and_first_order" 302) 142),(142,⟨.type "code",none,.fields #[.str "_law_one_right" 355,.str "_law_one_right" 356,.str "/claim/cut.py" 357,.int (116) 0,.int (2) 0,.int (0) 0,.int (0) 0,.int (3) 0,.ref 139,.bool true,.int (181) 0,.ref 140,.none,.none,.none,.ref 141,.int (358) 0,.int (116) 0,.str "/claim/cut.py" 359],#[]⟩),(150,kf "law" dR (.str "law_millpath_k58_least_takes_and_first_order" 302) 149),(149,⟨.type "code",none,.fields #[.str "law" 361,.str "law" 362,.str "/claim/cut.py" 363,.int (127) 0,.int (1) 0,.int (0) 0,.int (0) 0,.int (3) 0,.ref 144,.bool true,.int (181) 0,.ref 145,.none,.ref 146,.ref 147,.ref 148,.int (368) 0,.int (127) 0,.str "/claim/cut.py" 369],#[]⟩)]
noncomputable def kas:List Kl:=[3,44,43,51,50,58,57,65,64,70,69,75,74,80,79,87,86,92,91,99,98,106,105,113,112,118,117,123,122,128,127,133,132,138,137,143,142,150,149]
theorem qA(P:NM):kas=(KK P).map (·.1):=by kernel_rfl
noncomputable def VW:Kz:=PySem.W.view PySem.Challenge.pw_millpath_k58_least_takes_and_first_order [1,2,4,5,6,7,8,9,11,12,13,14,16,17,18,19,20,21,22,23,24]
def Cb(s:K8):Pos:=match s with
 | .FunctionDef _ _ _ _ _ _ _ _ _ p=>p
 | _=>⟨0,0,0,0⟩
theorem dfn{h:KH}{mg:Str->Option Kj}{P:NM}{x:Str}{st:K8}{ps:List Str}(X:(KK P).In h)(G:h.Ns Ll mg)(f c:Kl)(m:Kj)(l:(KK P).lookup f=some (kf x st m c):=by kernel_rfl)(a:OZ (KK P) Ll x=some (some (.ref f)):=by kernel_rfl)(cd:Ng (KK P) (.ref c) x=true:=by kernel_rfl)(kp:MN (KK P) (.ref f)=true:=by kernel_rfl)
  (hb:∀(kV doc pm:Kj) (an:Option Kl) (cdv ct:Kj) (us:List Kj),us.length=ps.length->Rj (LY x x (cq st) (bL st) (ai st) .none kV doc pm an cdv ct) ⟨us,[]⟩=pure (ps.zip us):=by intro _ _ _ _ _ _ us;revert us;first | (apply ar1;intros;rfl) | (apply ar2;intros;rfl) | (apply ar3;intros;rfl) | (apply ar5;intros;rfl)):Dfn (KK P) mg x st ps:=⟨f,_,rA (st:=st) l cd kp,QN X G a,(rA (st:=st) l cd kp).binds hb⟩
def mo0:Kj:=.str "millpath.jobsets" 223
def mo1:Kj:=.str "millpath.jobs" 267
def mo2:Kj:=.str "law_millpath_k58_least_takes_and_first_order" 302
set_option maxHeartbeats 0 in
theorem all_mk{l:NY}{w:KD}{h:KH}{mg:Str->Option Kj}{fa:Kl}(X:(KK w.params).In h)(G:h.Ns Ll mg)(hfa:mg "law"=some (.ref fa)):∃ fd:KP,(∀(s:Km) (v:Kj),Oa s fd ⟨[v],[]⟩ [("_law_script",v)])/\∀ base:KH,(KK w.params).In base->base.Ns Ll mg->FnOk l.prog w (KK w.params) mg base CX0 11 fa fd ["_law_script"] (sG (KK w.params)):=by
 have e:=hfa.symm.trans (QN X G (show OZ (KK w.params) Ll "law"=some (some (.ref 150)) by kernel_rfl))
 cases e
 have z:∀ {x:Str},OZ (KK w.params) Ll x=some none->mg x=none:=fun h=>PySem.W.mg_none_of X G h
 have T:Txt mg:=⟨z (by kernel_rfl),z (by kernel_rfl),z (by kernel_rfl),z (by kernel_rfl),z (by kernel_rfl),z (by kernel_rfl),z (by kernel_rfl),z (by kernel_rfl),z (by kernel_rfl),z (by kernel_rfl),z (by kernel_rfl),z (by kernel_rfl),z (by kernel_rfl),z (by kernel_rfl),z (by kernel_rfl),z (by kernel_rfl),z (by kernel_rfl),z (by kernel_rfl),z (by kernel_rfl),z (by kernel_rfl),z (by kernel_rfl)⟩
 have F:=rA (st:=dR) (K:=KK w.params) (x:="law") (qual:="law") (f:=150) (oc:=.type "function") (od:=none) (an:=none) (osl:=#[]) (kV:=.none) (doc:=.none) (pm:=mo2) (cdv:=.ref 149) (ct:=.none) (by kernel_rfl) (by kernel_rfl) (by kernel_rfl)
 refine⟨LY "law" "law" (cq dR) (bL dR) (ai dR) .none .none .none mo2 none (.ref 149) .none,fun s v=>.of_eq rfl,fun base _ _=>?_⟩
 have G_take:Cal l.prog w (KK w.params) mg base 1 "_law_take" ["_law_state","_law_many"] (aE (KK w.params) 2 k7):=vv (dfn X G 113 112 mo2) T
 have G_begin:Cal l.prog w (KK w.params) mg base 1 "_law_begin" ["_law_script"] (aE (KK w.params) 1 (my (KK w.params))):=uO (dfn X G 106 105 mo2) T
 have G_same:Cal l.prog w (KK w.params) mg base 4 "_law_same" ["_law_found","_law_due"] (aE (KK w.params) 2 (iF 4)):=v7 (dfn X G 118 117 mo2) 4 (oK (dfn X G 118 117 mo2) T 4)
 have G_set_of:=(dfn X G 51 50 mo0).cal (base:=base) (P:=l.prog) (w:=w) fun _ _ F=>tV F T
 have G_rows_of:=(dfn X G 44 43 mo0).cal (base:=base) (P:=l.prog) (w:=w) fun _ _ F=>rF F T G_set_of
 have G_whole_of:=(dfn X G 58 57 mo0).cal (base:=base) (P:=l.prog) (w:=w) fun _ _ F=>pZ F T
 have G_is_part:=(dfn X G 65 64 mo0).cal (base:=base) (P:=l.prog) (w:=w) fun _ _ F=>qS F T
 have G_ready:=(dfn X G 70 69 mo0).cal (base:=base) (P:=l.prog) (w:=w) fun _ _ F=>x6 F T G_is_part
 have G_tools_in:=(dfn X G 75 74 mo0).cal (base:=base) (P:=l.prog) (w:=w) fun _ _ F=>pN F T
 have G_refuse_rings:=(dfn X G 87 86 mo1).cal (base:=base) (P:=l.prog) (w:=w) fun _ _ F=>jf F T G_set_of G_whole_of G_ready
 have G_takes_by:=(dfn X G 99 98 mo1).cal (base:=base) (P:=l.prog) (w:=w) fun _ _ F=>qf F T
 have G_takes_from_all:=(dfn X G 92 91 mo1).cal (base:=base) (P:=l.prog) (w:=w) fun _ _ F=>gZ F T G_whole_of G_ready G_tools_in G_takes_by
 have G_least_takes:=(dfn X G 80 79 mo1).cal (base:=base) (P:=l.prog) (w:=w) fun _ _ F=>jH F T G_rows_of G_whole_of G_ready G_refuse_rings G_takes_from_all G_takes_by
 have G_takes_in:=(dfn X G 128 127 mo2).cal (base:=base) (P:=l.prog) (w:=w) fun _ _ F=>pA F T
 have G_orders:Cal l.prog w (KK w.params) mg base 9 "_law_orders" ["_law_jobs_here","_law_begun"] (aE (KK w.params) 2 (dX 8)):=Nat.rec (motive:=fun n=>Cal l.prog w (KK w.params) mg base (1 + n) "_law_orders" ["_law_jobs_here","_law_begun"] (aE (KK w.params) 2 (dX n))) ((dfn X G 133 132 mo2).cal fun f fd (_:Fun (KK w.params) "_law_orders" "_law_orders" gP f fd)=>xO rfl) (fun n ih=>(dfn X G 133 132 mo2).cal fun _ _ F=>uW n F T ih) 8
 have G_jobs:=(dfn X G 123 122 mo2).cal (base:=base) (P:=l.prog) (w:=w) fun _ _ F=>zt F T G_take
 have G_handed:=(dfn X G 138 137 mo2).cal (base:=base) (P:=l.prog) (w:=w) fun _ _ F=>ue F T G_take
 have G_one_right:=(dfn X G 143 142 mo2).cal (base:=base) (P:=l.prog) (w:=w) fun _ _ F=>nM F T G_least_takes G_same G_takes_in G_orders G_handed
 exact Cw (Cg F T G_least_takes G_begin G_take G_same G_jobs G_one_right)
end Mp
open PySem PySem.W PyProof.Rows
set_option maxRecDepth 100000 in
set_option maxHeartbeats 0 in
theorem Mp.Bq:PySem.Challenge.rw_millpath_k58_least_takes_and_first_order.wellSaid=true:=by kernel_rfl
set_option maxRecDepth 100000 in
theorem Mp.left:PySem.W.LeftO PySem.Challenge.rw_millpath_k58_least_takes_and_first_order.row.prog Mp.VW [] (fun s=>PySem.W.xlAt Mp.VW [] s && PySem.W.recOk (PySem.Challenge.rw_millpath_k58_least_takes_and_first_order.row.toRowW.records) s) (Sx (OE Mp.KK Mp.kas Mp.qA)) (Sy (OE Mp.KK Mp.kas Mp.qA)) 6000:=fun w=>by kernel_rfl
set_option maxRecDepth 100000 in
set_option maxHeartbeats 0 in
theorem PySem.Challenge.cw_millpath_k58_least_takes_and_first_order_holds : PySem.Challenge.rw_millpath_k58_least_takes_and_first_order.Holds := by
 refine PySem.W.holds_law Mp.Bq fun Bq=>?_
 refine PySem.W.holds_open (r:=PySem.Challenge.rw_millpath_k58_least_takes_and_first_order.row) (XP:=PySem.W.XL Mp.VW []) (YP:=Sr (OE Mp.KK Mp.kas Mp.qA)) (d:=⟨"law",L2.cq Mp.dR,L2.bL Mp.dR,L2.ai Mp.dR,Mp.Cb Mp.dR⟩) (kwd:=[]) Mp.left (SH _) (Si _) (fun s e=>PySem.W.xl_of s (Js.mp e).1) Sz (by kernel_rfl) (by kernel_rfl) (by kernel_rfl) (fun s e=>PySem.W.recFacts_of (Js.mp e).2) (by kernel_rfl) Bq (by kernel_rfl) ⟨rfl,rfl,rfl,rfl,rfl,by decide +kernel⟩ ?hw ?hc
 case hw=>w_witness2
 case hc=>
  refine Mp.walk (l:=PySem.Challenge.rw_millpath_k58_least_takes_and_first_order) rfl (by kernel_rfl) (fun w h Y=>PySem.W.kIn_of Y) ?F
  case F=>
  intro w mg fa h KX G hmg
  exact Mp.all_mk KX G hmg
