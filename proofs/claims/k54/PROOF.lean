import PyProof.Rows.All
import Wide.All
import OpenK.AllK
import Wide.FinOn
import Lean
import PyProof.EqAt
import PyProof.EqKinds
import PyProof.TupleCall
import PyProof.ZipIter
import PyProof.NeKinds
import PyProof.SeqI3
import PyProof.MaxThree
import PyProof.CompUse
import PyProof.DictFindH
import PyProof.DictRoadsH
import PyProof.TupleKey
import PyProof.DictWalks
import PyProof.AttrMissHeap
import KE.KDictOf
import KE.KDictList
import PyProof.Rows.SortRuns
import KE.KSortTup
import PyProof.ListRange
import PyProof.Rows.SetFrom
import PySem.Challenge.RW_millpath_k54_octos_of_programs
set_option maxHeartbeats 4000000
set_option Elab.async false
set_option linter.all false
set_option maxRecDepth 100000
set_option genSizeOf false
noncomputable section
open List renaming length_map->a_,getElem?_eq_getElem->c_,length_cons->d_,map_cons->f',getElem?_eq_some_iff->gV,length_append->g_,perm_middle->i_,mem_cons_of_mem->j_,append_assoc->k_,mem_cons_self->n_,mem_cons->o_,size_toArray->p_,mem_append_right->q_,mem_map->t_,range->u_,map_append->v_,perm_append_comm_assoc->x_,take_length->y_,getElem?_map->z_,mem_append->A_,mem_singleton->A',Perm.trans->B_,mem_range->B',pairwise_append->C',append_nil->D_,nodup_cons->D',map_map->F_,mem_of_getElem?->F',length_take->G_,mem_append_left->H_,take_append_drop->Jw,length_reverse->Jz,length_set->JB,getD_eq_getElem?_getD->JE,mem_of_mem_take->JF,Pairwise.sublist->JG,length_range->JH,mem_filter->JJ,length_drop->JL,cons_append->JM,filter_cons->JN,not_mem_nil->JO,mem_map_of_mem->JP,take_add_one->JR,Perm.append_left->JS,map->JV,pairwise_map->JX,length_nil->JY,find?_cons->JZ,cons.injEq->J_,mem_iff_getElem->Ka,take_of_length_le->Kd,drop_of_length_le->Ke,getElem?_append_right->Kh,getElem_mem->Ki,perm_append_comm->Km,pairwise_cons->Kn,all_map->Ko,Pairwise.imp_of_mem->Kr,sum_cons->Ku,eq_nil_of_length_eq_zero->Kv,getElem?_cons_succ->Kw,map_congr_left->Ky,replicate->Kz,nodup_nil->KA,length_filter_le->KL,nodup_append->KP,getElem?_append_left->KQ,mem_of_mem_drop->KR,extract_eq_drop_take->KU,drop_eq_getElem_cons->KW,pairwise_iff_getElem->KY,Perm.swap->K0,mem_reverse->K4,all_eq_true->K5,any_eq_true->K6,mem_flatMap->K7,cons_ne_nil->K8,reverse_append->K9,flatMap_append->K_,getElem?_cons_zero->K',getElem?_drop->Lb,getElem?_take->Lc,range_succ->Lf,take_sublist->Lj,Pairwise.nil->Lk,drop_sublist->Lm,reverse_cons->Lo,mem_iff_getElem?->Lr,lookup_cons->Lu,filterMap_cons->Ly,mem_filterMap->LF,map_nil->LG,set_eq_of_length_le->LL,drop_drop->LR,drop_zero->LU,getElem?_set_self->LZ,cons.inj->L6,countP_cons->L7,getElem?_set_ne->L9,nil_append->Mb,length_take_le'->Md,drop_append_of_le_length->Me,getElem?_range->Mg,length->Mh,set_cons_succ->Mi,filter_append->Mk,any_cons->Mn,all_cons->Mq,take_add->Ms,filter_congr->Mw,zipIdx_cons->MA,set_set->MD,length_erase_of_mem->MF,nodup_range->MG,pairwise_singleton->MM,of_mem_zip->MN,forIn_cons->MO,foldl_cons->MQ,Perm.append_right->MT,length_pos_of_mem->MV,flatMap_singleton->MX,forIn_nil->MY,set_append_right->MZ,singleton_append->M0,getElem?_eq_none->M1,reverse_reverse->M4,mem_erase_of_ne->M7,length_pos_iff->M9,replicate_succ->M_,filter_eq_self->M',set_cons_zero->Nb,zip_cons_cons->Nc,find?_eq_none->Nf,ext_getElem?->Ni,mapM_toArray->Nj,map_id->Nk,filter->Nm,flatMap_def->Nv,zipIdx_nil->Nx,zip_append->NB,find?_some->ND,sum_append->NF,take_zero->NH,Perm.cons->NI,Perm->NK,zip_map'->NL,any_map->NN
open Nat renaming le_refl->b_,le_trans->m_,lt_of_lt_of_le->s_,ne_of_lt->w_,zero_le->E_,le_of_lt->Jy,pow_succ->JA,le_of_not_lt->JC,lt_of_le_of_lt->JK,sub_le->JQ,two_pow_pos->JT,pos_of_ne_zero->JU,lt_irrefl->Kg,zero_add->Kq,succ.inj->Ks,add_le_add_left->Kx,le_add_right->KC,add_mul_mod_self_left->KZ,add_assoc->La,lt_of_le_of_ne->Ld,one_pos->Lh,lt_succ_of_lt->Ln,ne_of_gt->Lp,lt_trans->Lq,add_sub_cancel'->Lz,not_lt_zero->LB,sub_lt_left_of_lt_add->LC,add_zero->LH,add_sub_cancel_left->LV,le_of_lt_succ->LX,le_succ_of_le->LY,mul_mod->L0,lt_of_succ_lt_succ->L3,mul_assoc->L5,sub_self->L_,le_sub_one_of_lt->Ma,mod_lt->Mc,add_lt_add_left->Mf,add_right_comm->Mj,sub_lt->Mx,not_lt->My,le_of_eq->Mz,lt_of_not_le->MB,max_eq_right->MC,mod_eq_of_lt->ME,succ_le_succ->MJ,dvd_of_mod_eq_zero->MU,sub_le_sub_right->M5,pow_le_pow_right->M6,one_lt_two_pow->Nd,add_sub_assoc->Nh,mul_one->Nl,min_eq_right->Nr,lt_succ_self->Nu,min_eq_left->Ny,le_add_left->Nz,le_antisymm->NA,div_le_self->NC,pow_zero->NO,mul_succ->NP,succ_pos->NQ,le_succ->NX,pow_mul->NY,pow_add->NZ,mul_add->N0,one_mul->N1
open Int renaming le_total->JW,min_le_left->Kb,le_max_left->Kc,max_eq_right->Kj,le_max_right->Kk,min_le_right->Kl,max_eq_left->Kt,min_eq_right->KD,add_le_add->KG,le_trans->KH,add_comm->KI,min_eq_left->KJ,emod_lt_of_pos->Le,add_le_add_left->LA,emod_nonneg->LD,natCast_nonneg->LM,mul_comm->LN,sub_add_cancel->LO,zero_add->LP,toNat_natCast->LW,fdiv_eq_ediv_of_nonneg->Ml,fmod_eq_emod_of_nonneg->Mm,min_self->MK,max_self->ML,natCast_one->MR,mul_add->Nn,one_mul->Np,natCast_zero->Nw,ofNat_le->NR,zero_mul->NS,mul_one->NU,mul_sub->N2
open Option renaming some.inj->I_,map_eq_some_iff->Lg,isSome_map->Mu,some.injEq->Mv,isSome_some->Na,getD_none->Nq,some->NV,any->N3,map->N4
open Bool renaming false_ne_true->C_,false_eq_true->Jv,and_eq_true->JD,true_and->JI,beq_eq_decide_eq->J',eq_false_iff->Ll,not_false->LQ,and_true->L4,false_or->Mo,not_true->Mr,and_eq_true_iff->M8,and_false->NG
open Array renaming getElem?_toList->f_,length_toList->h_,getElem?_eq_getElem->l_,getD_eq_getD_getElem?->G',toList_append->Jx,getElem?_eq_none->Kf,perm_iff_toList_perm->KN,toList_push->KO,toList_extract->KS,getElem?_extract->Li,toList_reverse->Lv,mem_toList_iff->Lw,getElem?_eq_some_iff->Lx,size_setIfInBounds->LJ,size_extract->LK,toList_setIfInBounds->Mt,getElem?_replicate->MI,Perm.refl->MP,toList_filterMap->MW,mem_of_getElem?->M3,forIn_toList->Ng,toList_map->Nt,size_map->NJ,toList->NM
open Or renaming inl->e_,inr->r_
open Prod renaming ext->L8,ext_iff->NT,mk.inj->NW
open Classical renaming byContradiction->PV,propDecidable->Uv
open False renaming elim->Oz
open ForInStep renaming done->Oi,yield->Ox
open Function renaming comp->Ub
open Ne renaming symm->Qs
open PyProof renaming noPylong_small->RK
open PyProof.Rows renaming Keyed->N_,arrOf->Ob,wpS_bind->Og,SortSt->Oh,wpS_pure->Om,pendingOf->Ow,wpS_forRange->OP,elem'->OR,failedOf->OU,seqObj->OZ,wpS_mono->O7,SortKind->Pa,callWith_type1->PC,reverseSlice'->Qg,wpS_get->Qk,subscriptTail->QG,AllBare->QK,envOfC->QO,wpS_modify->QS,IntsAre->QZ,gallopOf->Rx,wpS_lift->Ry,keyKind'->RA,subscriptTail_builtinR->RM,mergeAt'->R',getElem?_mirror_all->Si,minRun'->Sw,oneType'->S4,callWith_builtin1->S8,Subscript_->S9,bubble->Tf,getElem?_bubble->Tg,ltAt'->Ti,get?_update_seq->Tj,entry_list_sort->Tn,tuples'->TB,slot_list_sort->TC,args_list_sort->TF,countRun'->TN,listUpdate_at->T8,plain_sorted->Ul,entry_sorted->Um,args_sorted1->Uo,binarySort'->UI,seqEpoch_at->UJ,kind_sorted->UK,IsTup->UQ
open PyProof.Rows.F renaming plain_set_update_loop->Qw,entry_set_update_loop->RD
open PyProof.Rows.IsTup renaming new->U5
open PyProof.Rows.SortSt renaming mk'->PR
open PySem renaming Value->N5,wpAny_bind->N6,Addr->N8,Shared->N9,wpAny_pure->Oa,wpAny->Of,Program->Oj,model->Oq,World->Ot,Heap->Ou,Expr->Ov,starEach->Oy,FuncData->OA,Around->OB,Stmt->OF,wpAny_mono->OG,wpAny_holding->OH,eval->OK,intItems->OM,compareOp->OV,mainGlobals->OW,foldedSetIterable->OX,sysModules->OY,wpAny_callSpecial?_slot->O3,Scope->O4,wpAny_call_entry->O6,wpAny_seqItems->O8,mem_of_lookup->Pb,wpAny_field->Pc,IsPair->Pe,binaryOp->Ph,wpAny_pyIter_tuple->Pj,wpAny_truthy_bool->Pl,wpAny_pyIter_list->Pm,wpAny_typeNameOfWhole_keyiter->Po,assignEach->Pw,bootBuiltins->Pz,wpAny_setField_rec->PH,wpAny_attempt->PN,wpAny_newObj_type->PQ,DictEntry->PX,codeAny_mono->PY,NameKind->PZ,numAt->P5,Paired->P6,wpAny_Call_Name_kw->P7,codeAny_builtin->P8,Model->P_,wpAny_setState_of->Qa,backTo->Qb,IsZip->Qd,pyNext->Qe,behindInMarks->Qf,codeAny->Qh,sliceBounds->Qi,Builtin->Qj,wpAny_passesOwn->Ql,tupleKind->Qn,wpAny_dictEntries->Qx,ofAClassStatement->Qz,assign->QA,rawInt->QB,intItems_at->QE,wpAny_standAt->QF,comprehension->QH,wpAny_newList->QI,swapsWith->QL,holding->QM,letOwnedTupleGo->QN,wpAny_updateSeq_pair->QP,wpAny_ite_split->QU,wpAny_setField->Q1,firstArgMember->Q2,SetTable->Q4,subscripted->Q5,wpAny_of_eq->Q7,attributeBase->Rb,wpAny_onRaise->Rc,Comprehension->Rf,wpAny_rule->Rm,valueAt->Rr,callerA->Rt,pyIter->Ru,noFill_tuple_add->Rv,Params->Rw,wpAny_forIn_list->RB,wpAny_execs_nil->RE,atKey->RF,wpAny_specialOf->RG,wpAny_dictEpoch->RI,wpAny_letGo->RP,codeAny_compStart_list->RQ,hashByValue->RS,BindsTo->RT,getItem->RU,getitemInPython_of_ne->RV,wpAny_isOneOf_keyiter->RY,wpAny_eqIsQuiet_tuple->R1,entryOfKey->R4,builtinsNs->R5,bindL->R6,bindC->R7,wpAny_letTemporaryGo->R8,field->R9,wpAny_newFunctionEnv->R_,wpAny_pyIter_keyiter->Sd,seq_tuple_add->Se,Builtin->Sf,plainId_quiet->Sg,isTrue->Sl,wpAny_List_spliced->Sn,concat_meets->So,seqIndex_neg->Sr,tupleKind_room_in1->Ss,CmpOp->Sv,wpAny_assign_Name->Sx,searchCouldBeSeen->SH,wpAny_storeSet_of->SI,seqIndex_of->SJ,wpAny_eqBool_int->SM,GenState->SN,wpAny_execs_cons->SO,wpAny_isInstance->SU,wpAny_comp_letGo->SY,wpAny_pyIter_zip->S0,wpAny_Name->S7,call_tuple_same->S_,call_meets->Ta,wpAny_operating->Tb,call->Tc,codeAny_of_tree->To,setItem->Tq,standAt->Tr,Keyword->Ts,letTemporaryGo->Tt,wpAny_newTuple->Tu,isSubtype_stop->Tv,argBest->Tx,wpAny_fieldsOf->Tz,wpAny_runValue->TH,PassesOwn->TL,cellsFrom->TM,swapsWithSole->TR,swappedStores->TU,intBits_le_64->TV,evalPart_none->TY,call_list_seq->TZ,wpAny_handled->T4,wpAny_standIf->T5,setSearchFrom->Ua,bindArgs->Ue,typeOf->Ug,newExc->Ui,setAddHashed->Ur,wpAny_mkInt->Uy,interactive->Uz,IsRangeIter->UA,keywordEach->UC,wpAny_throw->UG,intKind->UM,operate->UN,ItemsOf->UO,collect->UP
open PySem.Around renaming under_plainId->PU
open PySem.AutoSeq1 renaming list_extend_list_list_0->SQ,list_clear_list_0->T1
open PySem.Builtin.Dict renaming showsAll->RX,dictSlotNone->Uc,pendingCount->Ud
open PySem.Builtin.Dict_items renaming ownsTuple->Q3
open PySem.Builtin.Frozenset renaming updateFrom->TJ,newClass->T9
open PySem.Builtin.List renaming listTooLong->Qp,listUpdate->Uu
open PySem.Builtin.Range renaming rangeSize->Us
open PySem.Builtin.SmallTypes renaming nextOf->OI,ownedTupleIsFree->O9,ownedTupleHandOut->Qr
open PySem.Calls renaming call_function_entry->Qm,spliced_cons->Q8,Name_function_global->Ra,callWith_builtin->RO
open PySem.Data renaming cell->Sm,seq->Uh,fields->UB
open PySem.Env renaming kindOf->Td
open PySem.F renaming slot_list_append->ON,type_list_append->OO,slot_dict_keyiterator_next->O',slot_tuple_iterator_next->PK,called_set->P4,args_tuple_add_2->Qo,entry_tuple_add->Qv,slot_tuple_add->QC,slot_zip_next->QQ,args_dict_keyiterator_next_1->QR,entry_dict_keyiterator_next->QW,args_tuple_iterator_next_1->Q0,entry_tuple_iterator_next->Q9,slot_dict_getitem->Rl,plainAttrs_list->RC,slot_dict_len->RZ,args_zip_next_1->Sz,plain_list_iadd->SF,entry_zip_next->SR,slot_dict_iter->S3,plain_set_new->Tp
open PySem.Heap renaming get?_push_of_some->Oe,lt_size->Ol,get?_push_size->Oo,SameBut->O1,size_push->O_,get?_update_self->Qc,get?_update_ne->QX,ExtBut->Q6,push->Q_,get?_update_other->RN,IsTuple->Su,get?_push_ne->SE,IsList->SK
open PySem.Heap.DictOf renaming new->Vh
open PySem.Heap.IsList renaming push->SX,extBut->U6
open PySem.Heap.IsListIter renaming extBut->UE
open PySem.Heap.IsSliceOf renaming new->U4
open PySem.Heap.IsTuple renaming push->SD,extBut->UY
open PySem.Heap.IsTupleIter renaming extBut->Ut
open PySem.Heap.SameBut renaming update->Pp
open PySem.IsL renaming update->Vb
open PySem.NameKind renaming free->Pg,cell->Vj
open PySem.Obj renaming mapSeq->O0,data_mapFields->Qq,putSet->Ro,isFreed_of_fields->RW,cls_mapFields->Sy,mapFields->T7
open PySem.Paired renaming length->Pf,snoc->UD
open PySem.PassesOwn renaming never->OD
open PySem.SeqAt renaming EqAt->Rn,RcAt->Te,RcNeAt->Uj
open PySem.SeqAt.EqAt renaming same->S5,int_none->UT,str_none->UU,none_int->UW,none_str->UX,int_str->U2,str_int->U3,of_refs->U7
open PySem.SeqAt.RcAt renaming lists_lengths->Uk,tuples->U',lists->Vc
open PySem.SeqAt.RcNeAt renaming lists_lengths->T6,tuples->UZ,lists->U8
open PySem.SetTable renaming below->OJ,insertAt->OQ,Probe->O2,bits->Pn,turns->Pq,sizeAbove->PJ,advance->QJ,runEnd->QT,slot->Rg,fill->Rh,grown->R3,layClean->SG,laid->T_,fits->T',toList_insertAt->Uq,sameMemory->U1,gaveWay->Vd,has->Vk,put->Vl
open PySem.SetTable.Met renaming candidate->UL,empty->U9
open PySem.SetTable.below renaming go->Qy
open PySem.SetTable.layClean renaming free->P9
open PySem.SetTable.probe renaming go->Rk
open PySem.SetTable.sizeAbove renaming go->R0
open PySem.Shared renaming heap->QD
open PySem.Str renaming ofString->P0
open PySem.Value renaming ref->OC,none->OL,int->O5,type->Pu,str->Sj,bool->S6,isStrOf->TQ,isInt->Uw
open PySem.W renaming Frag->N7,fnOf->PD,keepIn->Qu,nsIn->QV,codeIn->QY,mg_of->Ri,methodObj->Rj,OpenLaw->RH,kat_nil->RJ,cellsFrom_some->RL,kHook->Sh,kitAny->Tw,WalkO->T3
open PySem.W.Hook renaming keeps->U_,says->Va,obs->Ve,val->Vf,of->Vi
open PySem.W.KatTups renaming cons->US,nil->U0
open PySem.W.XL renaming keeps->Vg
open PySem.Walks renaming tuple->UH,list->UR
open Sum renaming inr->OE,inl->Rq
open Sum.inl renaming inj->Ux
open True renaming intro->Py
namespace L2
open PySem PySem.Spec PyProof.Rows
abbrev Key:=Sum Int (Option Str)
noncomputable def rT:Key->N5->Bool
 | .inl k,v=>Uw k v
 | .inr (some x),v=>TQ x v
 | .inr none,.none=>true
 | .inr none,_=>false
noncomputable def Ji(w:Ot):Key->Int
 | .inl k=>hashInt k
 | .inr (some x)=>hashStr w x
 | .inr none=>4238894112
theorem bZ:∀{k:Key}{v:N5},rT k v=true->(∃i t,k=Rq i/\v=O5 i t)\/(∃x t,k=OE (some x)/\v=Sj x t)\/(k=OE none/\v=OL)
 | .inl i,v,h=>by obtain⟨t,e⟩:=Value.isInt_shape (k:=i) (v:=v) h;exact .inl ⟨i,t,rfl,e⟩
 | .inr (some x),v,h=>by obtain⟨t,e⟩:=Value.isStrOf_shape (x:=x) (v:=v) h;exact .inr (.inl ⟨x,t,rfl,e⟩)
 | .inr none,v,h=>by cases v <;> first|exact .inr (.inr ⟨rfl,rfl⟩)|cases h
theorem yU(i:Int)(t:Tok):rT (.inl i) (.int i t)=true:=by simp[rT,Uw]
theorem zZ(x:Str)(t:Tok):rT (.inr x) (.str x t)=true:=by simp[rT,TQ]
theorem Fl(a b:Int):decide ((Rq a:Key)=Rq b)=(a == b):=by
 by_cases e:a=b
 ·subst e;simp
 have h:¬(Rq a:Key)=Rq b:=fun q=>e (Ux q);rw[decide_eq_false h];exact(beq_eq_false_iff_ne.mpr e).symm
theorem EU(a b:Str):decide ((OE (some a):Key)=OE (some b))=decide (a=b):=by
 by_cases e:a=b
 ·subst e;simp
 have h:¬(OE (some a):Key)=OE (some b):=fun q=>e (I_ (Sum.inr.inj q));rw[decide_eq_false h,decide_eq_false e]
variable {A:OB}{E:N5->N9->Prop}{s:N9}{w:Ot}
theorem Bl{prog:Oj}{Q:Int->N9->Prop}(h:Q 4238894112 {s with toks:=s.toks+1}):Of (Oq prog w) A (PySem.pyHash .none) Q E s:=
 PySem.W.pyHash_slot (T:="NoneType") rfl F.slot_NoneType_hash F.entry_NoneType_hash (F.args_NoneType_hash_1 _) (beq_builtin_none _) (.inl rfl) (N6 (Oa (N6 (Uy (Oa ⟨_,_,rfl,h⟩)))))
noncomputable def bg(prog:Oj)(w:Ot):PySem.KeyKind prog w Key where
 is:=rT
 hash:=Ji w
 inj:=fun v a b ha hb=>by rcases bZ ha with⟨i,t,rfl,rfl⟩|⟨x,t,rfl,rfl⟩|⟨rfl,rfl⟩ <;> rcases bZ hb with⟨j,u,rfl,e⟩|⟨y,u,rfl,e⟩|⟨rfl,e⟩ <;> cases e <;> rfl
 byValue:=fun k v h=>by rcases bZ h with⟨i,t,rfl,rfl⟩|⟨x,t,rfl,rfl⟩|⟨rfl,rfl⟩ <;> rfl
 pyHash:=fun hv h=>by
  rcases bZ hv with⟨i,t,rfl,rfl⟩|⟨x,t,rfl,rfl⟩|⟨rfl,rfl⟩
  ·exact wpAny_pyHash_int h
  ·exact wpAny_pyHash_str h
  exact Bl h
 eqBool:=fun hu hv h=>by
  rcases bZ hu with⟨i,t,rfl,rfl⟩|⟨x,t,rfl,rfl⟩|⟨rfl,rfl⟩ <;> rcases bZ hv with⟨j,u,rfl,rfl⟩|⟨y,u,rfl,rfl⟩|⟨rfl,rfl⟩
  ·rw[Fl]at h;exact SM h
  ·exact U2 i t y u _ _ _ _ h
  ·exact UT i t _ _ _ _ h
  ·exact U3 x t j u _ _ _ _ h
  ·rw[EU]at h;exact wpAny_eqBool_str h
  ·exact UU x t _ _ _ _ h
  ·exact UW j u _ _ _ _ h
  ·exact UX y u _ _ _ _ h
  exact S5 _ _ _ _ _ h
 «strs»:=fun k x t v h=>by
  rcases bZ h with⟨i,u,rfl,e⟩|⟨y,u,rfl,e⟩|⟨rfl,e⟩
  ·exact nomatch e
  ·injection e with e1 _
   subst e1;cases v <;> rfl
  exact nomatch e
theorem v8(prog:Oj)(w:Ot)(i:Int)(t:Tok):(bg prog w).is (.inl i) (.int i t)=true:=yU i t
theorem uQ(prog:Oj)(w:Ot)(x:Str)(t:Tok):(bg prog w).is (.inr x) (.str x t)=true:=zZ x t
inductive V where
 |non|bl (b:Bool)|int (i:Int)|str (x:Str)|byt (b:Array UInt8)|flt (b:UInt64)|ref (a:N8)|ty (n:String)
 deriving DecidableEq
set_option genInjectivity false
noncomputable def RelV:V->N5->Prop
 | .non,u=>u=OL
 | .bl b,u=>u=S6 b
 | .int i,u=>∃t,u=O5 i t
 | .str x,u=>∃t,u=Sj x t
 | .byt b,u=>∃t,u=Value.bytes b t
 | .flt b,u=>∃t,u=Value.float b t
 | .ref a,u=>u=OC a
 | .ty n,u=>u=Pu n
abbrev Vals:List V->List N5->Prop:=P6 RelV
variable {us:List N5}{xs:List V}
theorem Vals.length (r:Vals xs us):xs.length=us.length:=Pf r
theorem Vals.get:∀{xs:List V}{us:List N5}{i:Nat}{x:V},Vals xs us->xs[i]?=some x->∃u,us[i]?=some u/\RelV x u
 | _,_,_,_,.nil,e=>by simp at e
 | _,_,0,_,.cons r _,e=>by simp at e;subst e;exact⟨_,rfl,r⟩
 | _,_,i+1,x,.cons _ t,e=>by obtain⟨u,h1,h2⟩:=Vals.get (i:=i) (x:=x) t (by simpa using e);exact⟨u,by simpa using h1,h2⟩
variable {u:N5}
theorem Vals.set {x:V}(r:RelV x u):∀{xs:List V}{us:List N5} (i:Nat),Vals xs us->Vals (xs.set i x) (us.set i u)
 | _,_,_,.nil=>.nil
 | _,_,0,.cons _ t=>.cons r t
 | _,_,i+1,.cons q t=>.cons q (Vals.set r i t)
theorem Vals.append:∀{xs ys:List V}{us ws:List N5},Vals xs us->Vals ys ws->Vals (xs++ys) (us++ws):=by
 intro xs ys us ws x s;induction x with
 |nil=>exact s
 |cons r t ih=>exact .cons r ih
theorem Vals.take:∀{xs:List V}{us:List N5} (n:Nat),Vals xs us->Vals (xs.take n) (us.take n)
 | _,_,0,_=>.nil
 | _,_,_+1,.nil=>.nil
 | _,_,n+1,.cons r t=>.cons r (Vals.take n t)
theorem Vals.drop:∀{xs:List V}{us:List N5} (n:Nat),Vals xs us->Vals (xs.drop n) (us.drop n)
 | _,_,0,r=>r
 | _,_,_+1,.nil=>.nil
 | _,_,n+1,.cons _ t=>Vals.drop n t
noncomputable def qI:Option V->Option N5->Prop
 |some v,some u=>RelV v u
 |none,none=>True
 | _,_=>False
noncomputable def KV{κ:Type}:List (κ×V)->List (κ×N5)->Prop:=P6 fun(p:κ×V) (q:κ×N5)=>p.1=q.1/\RelV p.2 q.2
def kV:Key->V
 | .inl i=>.int i
 | .inr (some x)=>.str x
 | .inr none=>.non
inductive HO where
 |lst (xs:List V)
 |tup (xs:List V)
 |dK (kvs:List (Key×V))|dT (kvs:List (List Key×V))
 |set (S:Int->Bool) (n:Nat)
 |ins (C dx:N8) (fs:List (Str×V))
 |own (x:N8)
 |xd (fs:List (Str×V))
 |met (f x:N8)
 |rng (lo hi:Int)
 |frz (o:Obj) (u:HO)
 |tbl (ps:Array N5)
 |ext (φ:Ou->Prop)
abbrev Hp:=N8->Option HO
def upd(H:Hp)(a:N8)(o:HO):Hp:=fun b=>if b=a then some o else H b
variable {H:Hp}{a:N8}{o:HO}
theorem aO:upd H a o a=some o:=by unfold upd;rw[if_pos rfl]
variable {b:N8}
theorem aL(h:b≠a):upd H a o b=H b:=by unfold upd;rw[if_neg h]
theorem DT{u:HO}:upd (upd H a o) a u=upd H a u:=by funext b;unfold upd;split <;> rfl
theorem C3{u:HO}(h:H a=some o)(h':H b=some u)(d:o≠u):a≠b:=by intro e;subst e;rw[h]at h';exact d (I_ h')
theorem bN(h:H a=some o)(h':H b=none):a≠b:=by intro e;subst e;rw[h]at h';cases h'
section
variable(P:Oj)(w:Ot)
noncomputable def ba(H:Hp)(h:Ou)(a:N8):HO->Prop
 | .lst xs=>xs.length<=sizeLine/\∃(its:List N5) (n:Nat),Vals xs its/\h.get? a=some { cls:=.type "list",data:=.seq its.toArray n}
 | .tup xs=>xs.length<=sizeLine/\∃its:List N5,Vals xs its/\UQ h a its.toArray
 | .dK kvs=>kvs.length<=sizeLine/\(a == OY)=false/\∃vs,KV kvs vs/\h.DictOf (bg P w) a vs
 | .dT kvs=>kvs.length<=sizeLine/\(a == OY)=false/\∃xs:List (List Key×N8×N5),
   P6 (fun(p:List Key×V) (q:List Key×N8×N5)=>p.1=q.1/\H q.2.1=some (.tup (p.1.map kV))/\RelV p.2 q.2.2) kvs xs/\
   ∃o es ep,h.get? a=some o/\o.ExactDict/\o.data=.dict es ep/\es.toList=xs.map (R4 (Qn (bg P w)))/\(xs.map (·.1)).Nodup
 | .set S n=>h.SetOf (UM P w) a S n
 | .ins C dx fs=>H dx=some (.own a)/\fs.length<=1000/\dx≠a/\h.get? a=some (PySem.W.instObj C dx)/\
   ∃mA,h.Ns1 dx mA/\(∀f,qI (fs.lookup f) (mA f))/\PySem.Within mA (fs.map (·.1))
 | .own _=>∃o,h.get? a=some o
 | .xd fs=>∃mA,h.Ns1 a mA/\∀f,qI (fs.lookup f) (mA f)
 | .rng lo hi=>∃t u v,h.get? a=some { cls:=.type "range",data:=.fields #[.int lo t,.int hi u,.int 1 v] }
 | .frz o u=>h.get? a=some o/\ba H h a u
 | .tbl ps=>h.get? a=some { cls:=.none,data:=.fields ps}
 | .met f x=>h.get? a=some (Rj (.ref f) (.ref x))
 | .ext φ=>φ h/\(∃o,h.get? a=some o)/\∀h1 h2:Ou,φ h1->(∀o,h1.get? a=some o->h2.get? a=some o)->φ h2
def HOk(H:Hp)(h:Ou):Prop:=∀a o,H a=some o->ba P w H h a o
end
section
variable{P:Oj}{w:Ot}{H H':Hp}{h h':Ou}{a:N8}{o:HO}
theorem ba.lt (x:ba P w H h a o):a<h.objs.size:=by
 cases o with
 |lst xs=>obtain⟨_,_,_,_,e⟩:=x;exact Ol e
 |tup xs=>obtain⟨_,_,_,p⟩:=x;exact p.lt
 |dK kvs=>obtain⟨_,_,_,_,o,_,_,e,_⟩:=x;exact Ol e
 |dT kvs=>obtain⟨_,_,_,_,o,_,_,e,_⟩:=x;exact Ol e
 |set S n=>obtain⟨o,_,_,_,e,_⟩:=x;exact Ol e
 |ins C dx fs=>obtain⟨_,_,_,e,_⟩:=x;exact Ol e
 |own y=>obtain⟨_,e⟩:=x;exact Ol e
 |xd fs=>obtain⟨_,⟨_,_,_,e,_⟩,_⟩:=x;exact Ol e
 |rng lo hi=>obtain⟨_,_,_,e⟩:=x;exact Ol e
 |frz ob u=>obtain⟨e,_⟩:=x;exact Ol e
 |tbl ps=>exact Ol (show h.get? a=some _ from x)
 |met f y=>exact Ol (show h.get? a=some _ from x)
 |ext φ=>obtain⟨_,⟨_,e⟩,_⟩:=x;exact Ol e
theorem Paired.IS {α β:Type}{F G:α->β->Prop}:∀{l₁:List α}{l₂:List β},P6 F l₁ l₂->(∀a b,F a b->G a b)->P6 G l₁ l₂:=by
 intro l₁ l₂ x f;induction x with
 |nil=>exact .nil
 |cons r t ih=>exact .cons (f _ _ r) ih
theorem ba.o6 (x:ba P w H h a o)(k:∀b u,(b=a\/H b=some (.own a))->h.get? b=some u->h'.get? b=some u)
  (ho:∀b,H b=some (.own a)->H' b=some (.own a)) (ht:∀b xs,H b=some (.tup xs)->H' b=some (.tup xs)):ba P w H' h' a o:=by
 induction o with
 |lst xs=>obtain⟨z,its,n,r,e⟩:=x;exact⟨z,its,n,r,k _ _ (.inl rfl) e⟩
 |tup xs=>obtain⟨z,its,r,ob,e,c⟩:=x;exact⟨z,its,r,ob,k _ _ (.inl rfl) e,c⟩
 |dK kvs=>obtain⟨z,y,vs,r,ob,es,ep,e,c⟩:=x;exact⟨z,y,vs,r,ob,es,ep,k _ _ (.inl rfl) e,c⟩
 |dT kvs=>
  obtain⟨z,y,xs,r,ob,es,ep,e,c⟩:=x;exact⟨z,y,xs,Paired.IS r fun p q z=>⟨z.1,ht _ _ z.2.1,z.2.2⟩,ob,es,ep,k _ _ (.inl rfl) e,c⟩
 |set S n=>obtain⟨ob,es,ep,t,e,c⟩:=x;exact⟨ob,es,ep,t,k _ _ (.inl rfl) e,c⟩
 |ins C dx fs=>
  obtain⟨d,z,ne,e,mA,⟨od,es,ep,e2,c⟩,r⟩:=x;exact⟨ho _ d,z,ne,k _ _ (.inl rfl) e,mA,⟨od,es,ep,k _ _ (.inr d) e2,c⟩,r⟩
 |own y=>obtain⟨ob,e⟩:=x;exact⟨ob,k _ _ (.inl rfl) e⟩
 |xd fs=>obtain⟨mA,⟨od,es,ep,e,c⟩,r⟩:=x;exact⟨mA,⟨od,es,ep,k _ _ (.inl rfl) e,c⟩,r⟩
 |rng lo hi=>obtain⟨t,u,v,e⟩:=x;exact⟨t,u,v,k _ _ (.inl rfl) e⟩
 |frz ob u ih=>obtain⟨e,q⟩:=x;exact⟨k _ _ (.inl rfl) e,ih q⟩
 |tbl ps=>
  have e:h.get? a=some { cls:=.none,data:=.fields ps}:=x;show h'.get? a=some { cls:=.none,data:=.fields ps};exact k a _ (.inl rfl) e
 |met f y=>
  have e:h.get? a=some (Rj (.ref f) (.ref y)):=x;show h'.get? a=some (Rj (.ref f) (.ref y));exact k a _ (.inl rfl) e
 |ext φ=>obtain⟨p,⟨o,e⟩,st⟩:=x;exact⟨st _ _ p fun o q=>k _ _ (.inl rfl) q,⟨o,k _ _ (.inl rfl) e⟩,st⟩
theorem HOk.lt (x:HOk P w H h)(e:H a=some o):a<h.objs.size:=(x a o e).lt
theorem HOk.fresh (x:HOk P w H h)(e:h.objs.size<=a):H a=none:=by
 cases q:H a with
 |none=>rfl
 |some u=>exact absurd (s_ (x.lt q) e) (Kg _)
theorem HOk.kept (x:HOk P w H h)(k:∀b u,h.get? b=some u->h'.get? b=some u):HOk P w H h':=fun a o e=>
 (x a o e).o6 (fun b u _ q=>k b u q) (fun _ q=>q) fun _ _ q=>q
theorem HOk.laid (x:HOk P w H h)(k:∀b u,h.get? b=some u->h'.get? b=some u)(hp:h.objs.size<=a)(new:ba P w (upd H a o) h' a o):HOk P w (upd H a o) h':=fun b u e=>by
 have hn:=x.fresh hp;by_cases hb:b=a
 ·subst hb;rw[aO]at e;cases e;exact new
 rw[aL hb]at e;exact(x b u e).o6 (fun c v _ q=>k c v q) (fun c q=>by rw[aL (bN q hn)];exact q) fun c xs q=>by rw[aL (bN q hn)];exact q
end
def Rd(H:Hp)(a:N8)(u:HO):Prop:=H a=some u\/∃o,H a=some (.frz o u)
variable {P:Oj}{h:Ou}
theorem Rd.ok {u:HO}(r:Rd H a u)(x:HOk P w H h):ba P w H h a u:=by
 rcases r with r|⟨o,r⟩
 ·exact x a u r
 obtain⟨_,q⟩:=x a _ r;exact q
noncomputable def Mut:Option HO->Prop
 |some (.lst _)=>True
 |some (.dK _)=>True
 |some (.dT _)=>True
 |some (.set _ _)=>True
 |some (.ins _ _ _)=>True
 |some (.ext _)=>True
 | _=>False
section
variable{P:Oj}{w:Ot}{H:Hp}{h h':Ou}{x e:N8}{o':HO}
theorem HOk.write (ok:HOk P w H h)(mu:Mut (H x))(he:e=x\/H e=some (.own x))(k:∀b u,b≠e->h.get? b=some u->h'.get? b=some u)(heo:∃u,h'.get? e=some u)
  (new:ba P w (upd H x o') h' x o'):HOk P w (upd H x o') h':=fun b u q=>by
 have nown:∀c y,H c=some (.own y)->c≠x:=fun c y r z=>by subst z;rw[r]at mu;exact mu
 have ntup:∀c xs,H c=some (.tup xs)->c≠x:=fun c xs r z=>by subst z;rw[r]at mu;exact mu
 by_cases hb:b=x
 ·subst hb;rw[aO]at q;cases q;exact new
 rw[aL hb]at q;by_cases hbe:b=e
 ·have q':H b=some (.own x):=by
   rcases he with z|z
   ·exact absurd (hbe.trans z) hb
   rw[hbe];exact z
  rw[q]at q';cases q';obtain⟨v,hv⟩:=heo;exact⟨v,by rw[hbe];exact hv⟩
 refine(ok b u q).o6 (fun c v hc r=>k c v ?_ r) (fun c r=>by rw[aL (nown c b r)];exact r) fun c xs r=>by rw[aL (ntup c xs r)];exact r
 rcases hc with rfl|hc
 ·exact hbe
 rintro rfl;rcases he with z|z
 ·exact nown c b hc z
 rw[hc]at z;cases z;exact hb rfl
end
structure Un (fs ex:List N8) (H H':Hp) (h h':Ou):Prop where
 keep:∀b o,h.get? b=some o->H b=none->b ∉ fs->b ∉ ex->h'.get? b=some o
 slot:∀b o,h.get? b=some o->H b=none->b∈fs->b ∉ ex->∃sl,h'.get? b=some {o with slots:=sl}
 free:∀b o,h.get? b=some o->H b=none->b ∉ ex->H' b=none
 there:∀b o,h.get? b=some o->b ∉ ex->∃o',h'.get? b=some o'
 tups:∀b xs,H b=some (.tup xs)->H' b=some (.tup xs)
 frzs:∀b o u,H b=some (.frz o u)->H' b=some (.frz o u)
 tbls:∀b ps,H b=some (.tbl ps)->∃more,H' b=some (.tbl (ps++more))
section
variable{fs fs' ex ex':List N8}{H H1 H2:Hp}{h h1 h2 h':Ou}{a x e:N8}{o:HO}
theorem Un.any (u:Un fs ex H H1 h h1){ob:Obj}(q:h.get? b=some ob)(n:H b=none)(hx:b ∉ ex):∃sl,h1.get? b=some {ob with slots:=sl}:=by
 by_cases hb:b∈fs
 ·exact u.slot b ob q n hb hx
 exact⟨ob.slots,u.keep b ob q n hb hx⟩
theorem Un.kept (k:∀b u,h.get? b=some u->h'.get? b=some u):Un fs ex H H h h':=
 ⟨fun b ob q _ _ _=>k b ob q,fun b ob q _ _ _=>⟨ob.slots,k b ob q⟩,fun _ _ _ n _=>n,fun b ob q _=>⟨ob,k b ob q⟩,fun _ _ q=>q,fun _ _ _ q=>q,fun _ ps q=>⟨#[],by rw[q];simp⟩⟩
theorem Un.refl:Un fs ex H H h h:=Un.kept fun _ _ q=>q
theorem Un.laid (k:∀b u,h.get? b=some u->h'.get? b=some u)(hp:h.objs.size<=a)(hn:H a=none):Un fs ex H (upd H a o) h h' where
 keep:=fun b u q _ _ _=>k b u q
 slot:=fun b u q _ _ _=>⟨u.slots,k b u q⟩
 free:=fun b u q n _=>by rw[aL (w_ (s_ (Ol q) hp))];exact n
 there:=fun b u q _=>⟨u,k b u q⟩
 tups:=fun b xs q=>by rw[aL (bN q hn)];exact q
 frzs:=fun b u xs q=>by rw[aL (bN q hn)];exact q
 tbls:=fun b ps q=>⟨#[],by rw[aL (bN q hn),q];simp⟩
theorem Un.write (mu:Mut (H x))(he:e=x\/H e=some (.own x))(k:∀b u,b≠e->h.get? b=some u->h'.get? b=some u)(heo:∃u,h'.get? e=some u):Un fs ex H (upd H x o) h h':=by
 have hx:∀b,H b=none->b≠x:=fun b n z=>by subst z;rw[n]at mu;exact mu
 have hb:∀b,H b=none->b≠e:=fun b n z=>by
  subst z;rcases he with r|r
  ·exact hx b n r
  rw[n]at r;cases r
 have hm:∀b u,H b=some u->¬Mut (some u)->b≠x:=fun b u q nm z=>by subst z;rw[q]at mu;exact nm mu
 refine⟨fun b u q n _ _=>k b u (hb b n) q,fun b u q n _ _=>⟨u.slots,k b u (hb b n) q⟩,fun b u q n _=>by rw[aL (hx b n)];exact n,fun b u q _=>?_,
  fun b xs q=>by rw[aL (hm b _ q fun z=>z)];exact q,fun b u xs q=>by rw[aL (hm b _ q fun z=>z)];exact q,fun b ps q=>⟨#[],by rw[aL (hm b _ q fun z=>z),q];simp⟩⟩
 by_cases hbe:b=e
 ·subst hbe;exact heo
 exact⟨u,k b u hbe q⟩
end
def trk(h:Ou)(H:Hp):List N8:=(u_ h.objs.size).filter fun a=>(H a).isSome
def tm(h:Ou)(H:Hp):Ou:=PySem.W.hideAll h (trk h H)
theorem yX(h:Ou)(H:Hp):(tm h H).objs.size=h.objs.size:=PySem.W.hideAll_size _ _
theorem By{o:Obj}(e:h.get? b=some o)(n:H b=none):(tm h H).get? b=some o:=
 PySem.W.hideAll_get _ e fun hm=>by have q:(H b).isSome=true:=(JJ.mp hm).2;rw[n]at q;simp at q
theorem Dv{o:Obj}(e:(tm h H).get? b=some o):h.get? b=some o/\H b=none:=by
 have e':h.get? b=some o:=PySem.W.of_hideAll (trk h H) e;refine⟨e',?_⟩;cases q:H b with
 |none=>rfl
 |some x=>
  have hm:b∈trk h H:=JJ.mpr ⟨B'.mpr (Ol e'),by simp[q]⟩;have z:(tm h H).get? b=none:=PySem.W.hideAll_none (trk h H) hm;rw[z]at e;cases e
noncomputable def Dk(g h:Ou)(L:N8):List (N8×Obj):=(u_ h.objs.size).filterMap fun a=>if a=L\/(g.get? a).isSome=true then none else(h.get? a).map fun o=>(a,o)
def rest(g h:Ou)(L d:N8):List (N8×Obj):=(Dk g h L).filter fun p=>decide (p.1≠d)
structure Mod (K:N7) (mg:Str->Option N5) (base:Ou):Prop where
 kin:K.In base
 glob:base.Ns OW mg
 blt:∃mb,base.Ns R5 mb/\∀x:Str,x≠"__name__"->mb x=Pz x
 nolimit:base.NoLimit
structure Cx where
 prog:Oj
 w:Ot
 K:N7
 mg:Str->Option N5
 base:Ou
 A:OB
 N:List Str
 s₀:N9
 H₀:Hp
 env:Env
 outer:List Env
 stack:List Env
 ex:List N8
 fn:Str->Bool
 calm:Bool
 pn:List (N8×Obj)
 xe:N5->N9->Prop
def frs(l:List Env):List N8:=l.filterMap (·.frame)
abbrev Cx.fs (X:Cx):List N8:=frs X.outer
noncomputable def Vis(sc:O4)(x:Str):Prop:=sc.names.lookup x=some .local\/sc.names.lookup x=some .cell\/sc.names.lookup x=some .free
def Loc(sc:O4)(x:Str):Prop:=sc.names.lookup x=some .local\/sc.names.lookup x=some .cell
noncomputable def Look(env:Env)(h:Ou)(m:Str->Option N5)(x:Str)(u:N5):Prop:=
 (env.kindOf x=some .local/\m x=some u)\/((env.kindOf x=some .cell\/env.kindOf x=some .free)/\∃c,env.cells.lookup x=some c/\h.IsCell c (some u))
structure Cx.Ok (X:Cx):Prop where
 mod:Mod X.K X.mg X.base
 kind:X.env.scope.kind=.function
 glob:X.env.globals=OW
 blt:X.env.builtins=R5
 above:X.s₀.heap.objs.size<=X.env.locals
 inj:∀x y c,X.env.cells.lookup x=some c->X.env.cells.lookup y=some c->x=y
 has:∀x,(X.env.kindOf x=some .cell\/X.env.kindOf x=some .free)->∃c,X.env.cells.lookup x=some c
 cab:∀x c,X.fn x=true->X.env.cells.lookup x=some c->X.s₀.heap.objs.size<=c
 hd:X.calm=true->X.A.handled=none
 frames:X.A.frames=some X.stack
 stk:X.stack=X.outer\/(X.stack=X.env::X.outer/\X.env.frame=some X.env.locals)
 exf:∀b∈X.ex,b≠X.env.locals/\∀x c,X.env.cells.lookup x=some c->c≠b
 bs:∀b o,X.base.get? b=some o->X.s₀.heap.get? b=some o/\X.H₀ b=none
 bsz:X.base.objs.size<=X.s₀.heap.objs.size
 noex:∀b o,X.base.get? b=some o->b ∉ X.ex
 exfs:∀b∈X.ex,b ∉ X.fs
 qf:X.s₀.heap.FunFrames X.base X.outer
 frf:∀b∈X.fs,X.H₀ b=none
structure Inv (X:Cx) (pins:List (N8×Obj)) (σ:List (Option V)) (H:Hp) (s:N9):Prop where
 ok:X.Ok
 os:s.os=X.s₀.os
 bare:QK s.gens
 base:Un X.fs X.ex X.H₀ H X.s₀.heap s.heap
 loc:∃m,s.heap.Ns X.env.locals m/\∀(i:Nat) (x:Str) (v:V),X.N[i]?=some x->σ[i]?=some (some v)->Vis X.env.scope x->∃u,RelV v u/\Look X.env s.heap m x u
 cell:∀x c,X.env.cells.lookup x=some c->∃v,s.heap.IsCell c v
 free:H X.env.locals=none
 freeC:∀x c,X.env.cells.lookup x=some c->H c=none
 pin:∀p∈X.pn++pins,s.heap.get? p.1=some p.2/\H p.1=none/\p.1≠X.env.locals/\p.1 ∉ X.fs/\∀v,p.2.data≠.cell v
 hok:HOk X.prog X.w H s.heap
 len:σ.length=X.N.length
variable {M:P_}{N:List Str}{Q:Unit->N9->Prop}{ch:List N8}{g':Array SN}{i t':Nat}{v:V}{x:Str}
section
variable{X:Cx}{pins:List (N8×Obj)}{σ:List (Option V)}{H H':Hp}{s:N9}{h':Ou}
theorem Cx.Ok.Jp (ok:X.Ok){o:Obj}(e:X.base.get? b=some o):b ∉ X.fs:=fun hb=>by have:=(ok.qf.mem hb).1;rw[e]at this;cases this
theorem Inv.bs (I:Inv X pins σ H s):∀b o,X.base.get? b=some o->s.heap.get? b=some o/\H b=none:=fun b o e=>
 ⟨I.base.keep b o (I.ok.bs b o e).1 (I.ok.bs b o e).2 (I.ok.Jp e) (I.ok.noex b o e),I.base.free b o (I.ok.bs b o e).1 (I.ok.bs b o e).2 (I.ok.noex b o e)⟩
theorem Inv.bk (I:Inv X pins σ H s):∀b o,X.base.get? b=some o->s.heap.get? b=some o:=fun b o e=>(I.bs b o e).1
theorem Inv.mod (I:Inv X pins σ H s):Mod X.K X.mg X.base:=I.ok.mod
theorem Inv.kIn (I:Inv X pins σ H s):X.K.In s.heap:=I.ok.mod.kin.keeps I.bk
theorem Inv.lt (I:Inv X pins σ H s):X.env.locals<s.heap.objs.size:=let ⟨_,hn,_⟩:=I.loc;hn.lt
theorem Inv.sz (I:Inv X pins σ H s):X.s₀.heap.objs.size<=s.heap.objs.size:=m_ I.ok.above (Jy I.lt)
theorem Inv.J6 (I:Inv X pins σ H s)(h:s.heap.objs.size<=a):a ∉ X.fs:=fun hb=>by obtain⟨_,o,ho,_⟩:=I.ok.qf.mem hb;exact absurd (s_ (Ol ho) (m_ I.sz h)) (Kg _)
theorem Inv.cne (I:Inv X pins σ H s):∀x c,X.env.cells.lookup x=some c->c≠X.env.locals:=fun x c e z=>by obtain⟨v,o,ho,hd⟩:=I.cell x c e;obtain⟨m,⟨o',es,ep,ho',hd',_⟩,_⟩:=I.loc;rw[z,ho']at ho;cases ho;rw[hd']at hd;cases hd
theorem Inv.qf (I:Inv X pins σ H s):s.heap.FunFrames X.base X.outer:=by
 have all:∀(l:List Env),(∀b∈frs l,b∈X.fs)->X.s₀.heap.FunFrames X.base l->s.heap.FunFrames X.base l:=by
  intro l;induction l with
  |nil=>intro _ _;trivial
  |cons env r ih=>
   intro hs hl;obtain⟨hk,⟨L,o,hf,hn,ho,hd⟩,hr⟩:=hl;have hL:L∈X.fs:=hs L (by unfold frs;rw[Ly,hf];exact n_);obtain⟨sl,e⟩:=I.base.slot L o ho (I.ok.frf L hL) hL fun z=>I.ok.exfs L z hL;exact⟨hk,⟨L,_,hf,hn,e,hd⟩,ih (fun b hb=>hs b (by unfold frs;rw[Ly,hf];exact j_ _ hb)) hr⟩
 exact all X.outer (fun _ hb=>hb) I.ok.qf
theorem Inv.stack (I:Inv X pins σ H s):s.heap.FunFrames X.base X.stack:=by
 rcases I.ok.stk with e|⟨e,hf⟩
 ·rw[e];exact I.qf
 rw[e];obtain⟨m,hn,_⟩:=I.loc;refine .cons (by rw[I.ok.kind];decide) hf hn ?_ I.qf;exact Heap.get?_none_of_le (m_ I.ok.bsz I.ok.above)
theorem Inv.x9 (I:Inv X pins σ H s):∀b∈frs X.stack,b∈X.env.locals::X.fs:=fun b hb=>by
 rcases I.ok.stk with e|⟨e,hf⟩
 ·rw[e]at hb;exact j_ _ hb
 rw[e]at hb;unfold frs at hb;rw[Ly,hf]at hb;exact hb
theorem Inv.xy (I:Inv X pins σ H s):∀b∈frs X.stack,H b=none:=fun b hb=>by
 rcases o_.mp (I.x9 b hb)with e|hb
 ·rw[e];exact I.free
 obtain⟨_,o,ho,_⟩:=I.ok.qf.mem hb;exact I.base.free b o ho (I.ok.frf b hb) fun z=>I.ok.exfs b z hb
theorem Inv.step {d':Drawn}(I:Inv X pins σ H s)
  (hch:∀b∈ch,(b∈X.ex\/X.s₀.heap.objs.size<=b)/\b≠X.env.locals/\(∀x c,X.env.cells.lookup x=some c->c≠b)/\∀p∈X.pn++pins,p.1≠b)
  (keep:∀b o,b≠X.env.locals->b ∉ X.fs->b ∉ ch->s.heap.get? b=some o->H b=none->h'.get? b=some o)
  (slot:∀b o,b≠X.env.locals->b∈X.fs->b ∉ ch->s.heap.get? b=some o->H b=none->∃sl,h'.get? b=some {o with slots:=sl}) (free:∀b o,b ∉ ch->s.heap.get? b=some o->H b=none->H' b=none)
  (there:∀b o,b ∉ ch->s.heap.get? b=some o->∃o',h'.get? b=some o')
  (tups:∀b xs,H b=some (.tup xs)->H' b=some (.tup xs)) (frzs:∀b o u,H b=some (.frz o u)->H' b=some (.frz o u)) (tbls:∀b ps,H b=some (.tbl ps)->∃more,H' b=some (.tbl (ps++more)))
  (ns:∀m,s.heap.Ns X.env.locals m->h'.Ns X.env.locals m) (hok:HOk X.prog X.w H' h') (hg:QK g') :
  Inv X pins σ H' {s with heap:=h',gens:=g',drawn:=d',toks:=t'}:=by
 have neL:∀b o,X.s₀.heap.get? b=some o->b≠X.env.locals:=fun b o e=>w_ (s_ (Ol e) I.ok.above);have neC:∀b o,X.s₀.heap.get? b=some o->b ∉ X.ex->b ∉ ch:=fun b o e hx hb=>by
  rcases(hch b hb).1 with z|z
  ·exact hx z
  exact absurd (s_ (Ol e) z) (Kg _)
 have cellK:∀x c,X.env.cells.lookup x=some c->∀v,s.heap.IsCell c v->h'.IsCell c v:=fun x c e v ⟨o,ho,hd⟩=>by
  have nch:c ∉ ch:=fun z=>(hch c z).2.2.1 x c e rfl;by_cases hc:c∈X.fs
  ·obtain⟨sl,q⟩:=slot c o (I.cne x c e) hc nch ho (I.freeC x c e);exact⟨_,q,hd⟩
  exact⟨o,keep c o (I.cne x c e) hc nch ho (I.freeC x c e),hd⟩
 refine⟨I.ok,I.os,hg,⟨fun b o e n hb hx=>?_,fun b o e n hb hx=>?_,fun b o e n hx=>?_,fun b o e hx=>?_,fun b xs e=>tups b xs (I.base.tups b xs e),fun b o xs e=>frzs b o xs (I.base.frzs b o xs e),fun b ps e=>?_⟩,?_,fun x c e=>?_,?_,fun x c e=>?_,fun p hp=>?_,hok,I.len⟩
 ·exact keep b o (neL b o e) hb (neC b o e hx) (I.base.keep b o e n hb hx) (I.base.free b o e n hx)
 ·obtain⟨sl,e1⟩:=I.base.slot b o e n hb hx;obtain⟨sl',e2⟩:=slot b _ (neL b o e) hb (neC b o e hx) e1 (I.base.free b o e n hx);exact⟨sl',e2⟩
 ·obtain⟨o',e1⟩:=I.base.there b o e hx;exact free b o' (neC b o e hx) e1 (I.base.free b o e n hx)
 ·obtain⟨o',e1⟩:=I.base.there b o e hx;exact there b o' (neC b o e hx) e1
 ·obtain⟨m1,e1⟩:=I.base.tbls b ps e;obtain⟨m2,e2⟩:=tbls b _ e1;exact⟨m1++m2,by rw[e2,Array.append_assoc]⟩
 ·obtain⟨m,hn,hl⟩:=I.loc;refine⟨m,ns m hn,fun i x v e1 e2 e3=>?_⟩;obtain⟨u,r,l⟩:=hl i x v e1 e2 e3;refine⟨u,r,?_⟩;rcases l with l|⟨k,c,e,z⟩
  ·exact .inl l
  exact .inr ⟨k,c,e,cellK x c e _ z⟩
 ·obtain⟨v,z⟩:=I.cell x c e;exact⟨v,cellK x c e v z⟩
 ·obtain⟨m,⟨o,_,_,ho,_⟩,_⟩:=I.loc;exact free _ o (fun z=>(hch _ z).2.1 rfl) ho I.free
 ·obtain⟨v,o,ho,hd⟩:=I.cell x c e;exact free c o (fun z=>(hch c z).2.2.1 x c e rfl) ho (I.freeC x c e)
 obtain⟨e,n,ne,nf,d⟩:=I.pin p hp;have nch:p.1 ∉ ch:=fun z=>(hch p.1 z).2.2.2 p hp rfl;exact⟨keep p.1 p.2 ne nf nch e n,free p.1 p.2 nch e n,ne,nf,d⟩
theorem Inv.un (I:Inv X pins σ H s)(u:Un X.fs [] H H' s.heap h')(hok:HOk X.prog X.w H' h'):Inv X pins σ H' {s with heap:=h',toks:=t'}:=by
 obtain⟨m,⟨o,es,ep,ho,r⟩,_⟩:=id I.loc;obtain⟨sl,hL⟩:=u.any ho I.free (by simp);exact I.step (g':=s.gens) (d':=s.drawn) (ch:=[]) (fun _ z=>nomatch z) (fun b o _ hb _ e n=>u.keep b o e n hb (by simp)) (fun b o _ hb _ e n=>u.slot b o e n hb (by simp)) (fun b o _ e n=>u.free b o e n (by simp)) (fun b o _ e=>u.there b o e (by simp)) u.tups u.frzs u.tbls (fun m' hm=>by obtain⟨o',es',ep',ho',r'⟩:=hm;rw[ho]at ho';cases ho';exact⟨_,es',ep',hL,r'⟩) hok I.bare
theorem Inv.call {d':Drawn}(I:Inv X pins σ H s)(u:Un (frs X.stack) ch H H' s.heap h')(hok:HOk X.prog X.w H' h')(hg:QK g')
  (hch:∀b∈ch,(b∈X.ex\/X.s₀.heap.objs.size<=b)/\b≠X.env.locals/\(∀x c,X.env.cells.lookup x=some c->c≠b)/\∀p∈X.pn++pins,p.1≠b) :
  Inv X pins σ H' {s with heap:=h',gens:=g',drawn:=d',toks:=t'}:=by
 obtain⟨m,⟨o,es,ep,ho,r⟩,_⟩:=id I.loc;obtain⟨sl,hL⟩:=u.any ho I.free fun z=>(hch _ z).2.1 rfl;exact I.step (ch:=ch) hch (fun b o hL hb hc e n=>u.keep b o e n (fun z=>(o_.mp (I.x9 b z)).elim hL hb) hc) (fun b o _ _ hc e n=>u.any e n hc) (fun b o hc e n=>u.free b o e n hc) (fun b o hc e=>u.there b o e hc) u.tups u.frzs u.tbls (fun m' hm=>by obtain⟨o',es',ep',ho',r'⟩:=hm;rw[ho]at ho';cases ho';exact⟨_,es',ep',hL,r'⟩) hok hg
theorem Inv.turned {it:N8}(I:Inv X pins σ H s)(k:∀b o,b≠it->s.heap.get? b=some o->h'.get? b=some o)(hn:H it=none)(hL:it≠X.env.locals)
  (h1:it∈X.ex\/X.s₀.heap.objs.size<=it) (h2:∀x c,X.env.cells.lookup x=some c->c≠it) (h3:∀p∈X.pn++pins,p.1≠it):Inv X pins σ H {s with heap:=h',toks:=t'}:=by
 have nit:∀b u,H b=some u->b≠it:=fun b u e z=>by rw[z,hn]at e;cases e
 refine I.step (g':=s.gens) (d':=s.drawn) (ch:=[it]) (fun b hb=>?_) (fun b o _ _ hc e _=>k b o (fun z=>hc (by simp[z])) e) (fun b o _ _ hc e _=>⟨o.slots,k b o (fun z=>hc (by simp[z])) e⟩) (fun _ _ _ _ n=>n)
  (fun b o hc e=>⟨o,k b o (fun z=>hc (by simp[z])) e⟩) (fun _ _ e=>e) (fun _ _ _ e=>e) (fun b ps e=>⟨#[],by rw[e];simp⟩) (fun m hm=>?_) (fun b u e=>?_) I.bare
 ·have e:b=it:=by simpa using hb
  subst e;exact⟨h1,hL,h2,h3⟩
 ·obtain⟨o,es,ep,ho,r⟩:=hm;exact⟨o,es,ep,k _ o (Qs hL) ho,r⟩
 refine(I.hok b u e).o6 (fun c v hc q=>k c v ?_ q) (fun _ q=>q) fun _ _ q=>q;rcases hc with z|z
 ·rw[z];exact nit b u e
 exact nit c _ z
theorem Inv.tok (I:Inv X pins σ H s)(t:Nat):Inv X pins σ H {s with toks:=t}:=I.un (h':=s.heap) (t':=t) Un.refl I.hok
theorem Inv.kept (I:Inv X pins σ H s)(k:∀b u,s.heap.get? b=some u->h'.get? b=some u):Inv X pins σ H {s with heap:=h',toks:=t'}:=I.un (Un.kept k) (I.hok.kept k)
theorem Inv.laid (I:Inv X pins σ H s)(k:∀b u,s.heap.get? b=some u->h'.get? b=some u)(hp:s.heap.objs.size<=a)(new:ba X.prog X.w (upd H a o) h' a o) :
  Inv X pins σ (upd H a o) {s with heap:=h',toks:=t'}:=I.un (Un.laid k hp (I.hok.fresh hp)) (I.hok.laid k hp new)
theorem Inv.write {x e:N8}(I:Inv X pins σ H s)(mu:Mut (H x))(he:e=x\/H e=some (.own x))(k:∀b u,b≠e->s.heap.get? b=some u->h'.get? b=some u)(heo:∃u,h'.get? e=some u)
  (new:ba X.prog X.w (upd H x o) h' x o):Inv X pins σ (upd H x o) {s with heap:=h',toks:=t'}:=I.un (Un.write mu he k heo) (I.hok.write mu he k heo new)
theorem Inv.yc {pins':List (N8×Obj)}(I:Inv X pins σ H s)(h:∀p∈pins',s.heap.get? p.1=some p.2/\H p.1=none/\p.1≠X.env.locals/\p.1 ∉ X.fs/\∀v,p.2.data≠.cell v):Inv X pins' σ H s:=
 ⟨I.ok,I.os,I.bare,I.base,I.loc,I.cell,I.free,I.freeC,fun p hp=>(A_.mp hp).elim (fun z=>I.pin p (H_ _ z)) (h p),I.hok,I.len⟩
theorem vQ(hN:N.Nodup){j:Nat}(a:N[i]?=some x)(b:N[j]?=some x):i=j:=by obtain⟨h1,e1⟩:=gV.mp a;obtain⟨h2,e2⟩:=gV.mp b;exact(List.getElem_inj hN).mp (e1.trans e2.symm)
theorem rX(I:Inv X pins σ H s)(hN:X.N.Nodup)(hi:X.N[i]?=some x)(hx:Loc X.env.scope x)(r:RelV v u)
  (h:∀s',Inv X pins (σ.set i (some v)) H s'->(∃a,O1 a s.heap s'.heap/\(a=X.env.locals\/X.env.cells.lookup x=some a))->Q () s') (hf:X.fn x=true\/X.env.scope.names.lookup x=some .local:=by first|exact .inl rfl|exact .inr rfl|assumption):Of M A (storeName X.env x u) Q E s:=by
 obtain⟨m,hn,hl⟩:=id I.loc;have hcls:(X.env.scope.kind == .class || (X.env.scope.kind == .module&&X.env.locals != X.env.globals))=false:=by rw[I.ok.kind];rfl
 have hiσ:i<σ.length:=by rw[I.len];exact(gV.mp hi).1
 have cne:=I.cne;have tracked:∀{a:N8}{h':Ou},(∃o,s.heap.get? a=some o/\H a=none)->O1 a s.heap h'->HOk X.prog X.w H h':=fun{a h'} ha hs b ob e=>by
  obtain⟨_,_,hfree⟩:=ha;refine(I.hok b ob e).o6 (fun c w' hc q=>(hs.2 c ?_).trans q) (fun _ q=>q) fun _ _ q=>q;rintro rfl;rcases hc with rfl|hc
  ·rw[hfree]at e;cases e
  rw[hfree]at hc;cases hc
 rcases hx with hk|hk
 ·refine wpAny_storeName_local hk hn (fun h' hn' hs=>?_) hcls;obtain⟨oL,_,_,hoL,_⟩:=id hn;refine h _ ⟨I.ok,I.os,I.bare,⟨fun b o e n hb hx=>?_,fun b o e n hb hx=>?_,I.base.free,fun b o e hx=>?_,I.base.tups,I.base.frzs,I.base.tbls⟩,⟨_,hn',fun j y v' e1 e2 e3=>?_⟩,fun y c e=>?_,I.free,I.freeC,fun p hp=>?_,tracked ⟨oL,hoL,I.free⟩ hs,by simpa using I.len⟩ ⟨_,hs,.inl rfl⟩
  ·exact(hs.2 b (w_ (s_ (Ol e) I.ok.above))).trans (I.base.keep b o e n hb hx)
  ·obtain⟨sl,e1⟩:=I.base.slot b o e n hb hx;exact⟨sl,(hs.2 b (w_ (s_ (Ol e) I.ok.above))).trans e1⟩
  ·obtain⟨o',e1⟩:=I.base.there b o e hx;exact⟨o',(hs.2 b (w_ (s_ (Ol e) I.ok.above))).trans e1⟩
  ·by_cases hj:j=i
   ·subst hj;rw[hi]at e1;cases e1;rw[LZ hiσ]at e2;cases e2;exact⟨u,r,.inl ⟨hk,by simp⟩⟩
   rw[L9 (Qs hj)]at e2;obtain⟨u',r',q⟩:=hl j y v' e1 e2 e3;refine⟨u',r',?_⟩;rcases q with⟨k,e⟩|⟨k,c,e,z⟩
   ·refine .inl ⟨k,?_⟩;have:y≠x:=fun e=>hj (vQ hN e1 (e▸hi));simp[this,e]
   exact .inr ⟨k,c,e,z.sameBut hs (cne y c e)⟩
  ·obtain⟨w',z⟩:=I.cell y c e;exact⟨w',z.sameBut hs (cne y c e)⟩
  obtain⟨e,n,ne,nf,d⟩:=I.pin p hp;exact⟨(hs.2 p.1 ne).trans e,n,ne,nf,d⟩
 have hfn:X.fn x=true:=by
  rcases hf with z|z
  ·exact z
  rw[z]at hk;cases hk
 obtain⟨c,hc⟩:=I.ok.has x (.inl hk);obtain⟨w',z⟩:=I.cell x c hc;refine wpAny_storeName_cell I.ok.kind hk hc z (fun h' hc' hs=>?_);obtain⟨oc,hoc,hocd⟩:=id z;refine h {s with heap:=h'} ⟨I.ok,I.os,I.bare,⟨fun b o e n hb hx=>?_,fun b o e n hb hx=>?_,I.base.free,fun b o e hx=>?_,I.base.tups,I.base.frzs,I.base.tbls⟩,⟨m,hn.sameBut hs (Qs (cne x c hc)),fun j y v' e1 e2 e3=>?_⟩,fun y c' e=>?_,I.free,I.freeC,fun p hp=>?_,tracked ⟨oc,hoc,I.freeC x c hc⟩ hs,by simpa using I.len⟩ ⟨c,hs,.inr hc⟩
 ·exact(hs.2 b (w_ (s_ (Ol e) (I.ok.cab x c hfn hc)))).trans (I.base.keep b o e n hb hx)
 ·obtain⟨sl,e1⟩:=I.base.slot b o e n hb hx;exact⟨sl,(hs.2 b (w_ (s_ (Ol e) (I.ok.cab x c hfn hc)))).trans e1⟩
 ·obtain⟨o',e1⟩:=I.base.there b o e hx;exact⟨o',(hs.2 b (w_ (s_ (Ol e) (I.ok.cab x c hfn hc)))).trans e1⟩
 ·by_cases hj:j=i
  ·subst hj;rw[hi]at e1;cases e1;rw[LZ hiσ]at e2;cases e2;exact⟨u,r,.inr ⟨.inl hk,c,hc,hc'⟩⟩
  rw[L9 (Qs hj)]at e2;obtain⟨u',r',q⟩:=hl j y v' e1 e2 e3;refine⟨u',r',?_⟩;rcases q with q|⟨k,c',e,z'⟩
  ·exact .inl q
  refine .inr ⟨k,c',e,z'.sameBut hs ?_⟩;rintro rfl;exact hj (vQ hN e1 (I.ok.inj _ _ _ e hc▸hi))
 ·by_cases hcc:c'=c
  ·subst hcc;exact⟨_,hc'⟩
  obtain⟨w2,z2⟩:=I.cell y c' e;exact⟨w2,z2.sameBut hs hcc⟩
 obtain⟨e,n,ne,nf,d⟩:=I.pin p hp;refine⟨(hs.2 p.1 ?_).trans e,n,ne,nf,d⟩;intro q;rw[q,hoc]at e;have q':oc=p.2:=I_ e;exact d w' (by rw[<-q'];exact hocd)
theorem ur(I:Inv X pins σ H s)(hN:X.N.Nodup)(hi:X.N[i]?=some x)(hx:Loc X.env.scope x)(r:RelV v u)
  (h:∀s',Inv X pins (σ.set i (some v)) H s'->Q () s') (hf:X.fn x=true\/X.env.scope.names.lookup x=some .local:=by first|exact .inl rfl|exact .inr rfl|assumption):Of M A (storeName X.env x u) Q E s:=
 rX I hN hi hx r (fun s' I' _=>h s' I') hf
theorem Inv.EA {s':N9}(I:Inv X pins σ H s)(ho:s'.os=s.os)(u:Un (frs X.stack) ch H H' s.heap s'.heap)(hok:HOk X.prog X.w H' s'.heap)(hg:QK s'.gens)
  (hch:∀b∈ch,(b∈X.ex\/X.s₀.heap.objs.size<=b)/\b≠X.env.locals/\(∀x c,X.env.cells.lookup x=some c->c≠b)/\∀p∈X.pn++pins,p.1≠b):Inv X pins σ H' s':=by
 obtain⟨h',g',d',t',o'⟩:=s';have e:o'=s.os:=ho;subst e;exact I.call (g':=g') (t':=t') (d':=d') u hok hg hch
end
abbrev XK:=N5->Option N8->Hp->Prop
abbrev St:=List (Option V)
abbrev VK:=V->Hp->Prop
abbrev TE:=St->Hp->VK->Prop
abbrev TT:=St->Hp->(Bool->Hp->Prop)->Prop
abbrev TA:=St->Hp->(List V->Hp->Prop)->Prop
structure Ends where
 nx:St->Hp->Prop
 rt:VK
 bk:St->Hp->Prop:=fun _ _=>False
 ct:St->Hp->Prop:=fun _ _=>False
abbrev TS:=Ends->St->Hp->Prop
noncomputable def EP(X:Cx)(pins:List (N8×Obj))(σ:St)(Q:VK)(u:N5)(s':N9):Prop:=∃v H',Inv X pins σ H' s'/\RelV v u/\Q v H'
noncomputable def TP(X:Cx)(pins:List (N8×Obj))(σ:St)(Q:Bool->Hp->Prop)(b:Bool)(s':N9):Prop:=∃H',Inv X pins σ H' s'/\Q b H'
noncomputable def AP(X:Cx)(pins:List (N8×Obj))(σ:St)(Q:List V->Hp->Prop)(us:List N5)(s':N9):Prop:=∃vs H',Inv X pins σ H' s'/\Vals vs us/\Q vs H'
noncomputable def SP(X:Cx)(pins:List (N8×Obj))(D:Ends)(f:Flow)(s':N9):Prop:=
 match f with
 | .next=>∃ σ' H',Inv X pins σ' H' s'/\D.nx σ' H'
 | .brk=>∃ σ' H',Inv X pins σ' H' s'/\D.bk σ' H'
 | .cont=>∃ σ' H',Inv X pins σ' H' s'/\D.ct σ' H'
 | .ret u=>∃v σ' H',Inv X pins σ' H' s'/\RelV v u/\D.rt v H'
noncomputable def PE(X:Cx)(e:Ov)(t:TE):Prop:=
 ∀(pins:List (N8×Obj)) (s:N9) (σ:St) (H:Hp) (Q:VK),Inv X pins σ H s->t σ H Q->Of (Oq X.prog X.w) X.A (OK e X.env) (EP X pins σ Q) X.xe s
noncomputable def PT(X:Cx)(e:Ov)(t:TT):Prop:=
 ∀(pins:List (N8×Obj)) (s:N9) (σ:St) (H:Hp) (Q:Bool->Hp->Prop),Inv X pins σ H s->t σ H Q->Of (Oq X.prog X.w) X.A (Sl e X.env (OK e X.env)) (TP X pins σ Q) X.xe s
noncomputable def PW(X:Cx)(e:Ov)(t:TT):Prop:=
 ∀(whole:Sem N5) (pins:List (N8×Obj)) (s:N9) (σ:St) (H:Hp) (Q:Bool->Hp->Prop),Inv X pins σ H s->t σ H Q->Of (Oq X.prog X.w) X.A (Sl e X.env whole) (TP X pins σ Q) X.xe s
variable {X:Cx}{e:Ov}
theorem PW.pt {t:TT}(h:PW X e t):PT X e t:=h _
noncomputable def PA(X:Cx)(es:List Ov)(t:TA):Prop:=
 ∀(pos:Pos) (pins:List (N8×Obj)) (s:N9) (σ:St) (H:Hp) (Q:List V->Hp->Prop),Inv X pins σ H s->t σ H Q->Of (Oq X.prog X.w) X.A (spliced (Qb pos (Oy es X.env))) (AP X pins σ Q) X.xe s
noncomputable def PS(X:Cx)(st:OF)(t:TS):Prop:=
 ∀(pins:List (N8×Obj)) (s:N9) (σ:St) (H:Hp) (D:Ends),Inv X pins σ H s->t D σ H->Of (Oq X.prog X.w) X.A (exec st X.env) (SP X pins D) X.xe s
noncomputable def PSs(X:Cx)(st:List OF)(t:TS):Prop:=
 ∀(pins:List (N8×Obj)) (s:N9) (σ:St) (H:Hp) (D:Ends),Inv X pins σ H s->t D σ H->Of (Oq X.prog X.w) X.A (execs st X.env) (SP X pins D) X.xe s
theorem thn{α:Type}{t:Sem α}{Q Q':α->N9->Prop}(h:Of M A t Q E s)(hQ:∀a s,Q a s->Q' a s):Of M A t Q' E s:=OG h hQ fun _ _ x=>x
variable {pins:List (N8×Obj)}{pos:Pos}{σ:St}
section
variable{X:Cx}
def Gg(i:Nat):TE:=fun σ H Q=>∃v,σ[i]?=some (some v)/\Q v H
def tC(v:V):TE:=fun _ H Q=>Q v H
theorem gH(hN:X.N[i]?=some x)(hv:Vis X.env.scope x)(hd:(x ==("__debug__":Str))=false:=by decide)(hcd:(x ==("__classdict__":Str))=false:=by decide):PE X (.Name x pos) (Gg i):=by
 intro pins s σ H Q I h;obtain⟨v,e,h⟩:=h;obtain⟨m,hn,hl⟩:=I.loc;obtain⟨u,r,l⟩:=hl i x v hN e hv;have fin:EP X pins σ Q u s:=⟨v,H,I,r,h⟩;rcases l with⟨hk,hm⟩|⟨hk,c,hc,hcell⟩
 ·exact S7 (wpAny_loadName_local I.ok.kind hk hn hm fin) hd
 rcases hk with hk|hk
 ·exact S7 (wpAny_loadName_cell I.ok.kind hk hc hcell fin) hd
 exact S7 (wpAny_loadName_free I.ok.kind hk hc hcell fin hcd) hd
theorem cf{i j pos}:PE X (.Constant (.int i) j pos) (tC (.int i)):=fun _ _ _ H _ I h=>wpAny_Constant_int ⟨.int i,H,I.tok _,⟨_,rfl⟩,h⟩
theorem IU{b j pos}:PE X (.Constant (.bool b) j pos) (tC (.bl b)):=fun _ _ _ H _ I h=>Constant_bool ⟨.bl b,H,I,rfl,h⟩
theorem GJ{j pos}:PE X (.Constant .none j pos) (tC .non):=fun _ _ _ H _ I h=>Constant_none ⟨.non,H,I,rfl,h⟩
theorem jf{x j pos}:PE X (.Constant (.str x) j pos) (tC (.str x)):=fun _ _ _ H _ I h=>Calls.Constant_str ⟨.str x,H,I.tok _,⟨_,rfl⟩,h⟩
def Gl(X:Cx)(x:Str):Prop:=X.env.kindOf x=some .globalImplicit
theorem xK{Q:N5->N9->Prop}(I:Inv X pins σ H s)(hg:Gl X x)(hm:X.mg x=some u)(h:Q u s)
  (hd:(x ==("__debug__":Str))=false:=by decide):Of (Oq X.prog X.w) X.A (OK (.Name x pos) X.env) Q E s:=
 Ra I.ok.kind hg (Calls.loadGlobal_global (by rw[I.ok.glob];exact I.mod.glob.keeps I.bk) hm h) hd
theorem j9{Q:N5->N9->Prop}(I:Inv X pins σ H s)(hg:Gl X x)(hm:X.mg x=none)(hv:Pz x=some u)(h:Q u s)
  (hn:x≠"__name__":=by decide) (hd:(x ==("__debug__":Str))=false:=by decide):Of (Oq X.prog X.w) X.A (OK (.Name x pos) X.env) Q E s:=by
 obtain⟨mb,h1,h2⟩:=I.mod.blt;exact Ra I.ok.kind hg (Calls.loadGlobal_builtin (by rw[I.ok.glob];exact I.mod.glob.keeps I.bk) hm (by rw[I.ok.blt];exact h1.keeps I.bk) ((h2 x hn).trans hv) h) hd
theorem DG(hg:Gl X x)(hm:X.mg x=some u)(r:RelV v u)(hd:(x ==("__debug__":Str))=false:=by decide):PE X (.Name x pos) (tC v):=
 fun _ _ _ H _ I h=>xK I hg hm ⟨v,H,I,r,h⟩ hd
theorem CZ(hg:Gl X x)(hm:X.mg x=none)(hv:Pz x=some u)(r:RelV v u)(hn:x≠"__name__":=by decide)(hd:(x ==("__debug__":Str))=false:=by decide):PE X (.Name x pos) (tC v):=
 fun _ _ _ H _ I h=>j9 I hg hm hv ⟨v,H,I,r,h⟩ hn hd
variable{a b:Ov}{ta tb:TE}{pos:Pos}
variable{tA tB':TT}{rest:List Ov}
def J1(t u:TT):TT:=fun σ H Q=>t σ H fun c H1=>if c=true then u σ H1 Q else Q false H1
def tOr(t u:TT):TT:=fun σ H Q=>t σ H fun c H1=>if c=true then Q true H1 else u σ H1 Q
def Jf(t:TT):TT:=fun σ H Q=>t σ H fun c H1=>Q (!c) H1
theorem Dp(ha:PT X a tA):PW X (.BoolOp .And [a] pos) tA:=by
 intro wh pins s σ H Q I h;refine isTrue_and (thn (ha pins s σ H Q I h) fun c s1 e=>?_);cases c with
 |true=>exact isTrue_and_nil e
 |false=>exact e
theorem GK(ha:PT X a tA):PW X (.BoolOp .Or [a] pos) tA:=by
 intro wh pins s σ H Q I h;refine isTrue_or (thn (ha pins s σ H Q I h) fun c s1 e=>?_);cases c with
 |false=>exact isTrue_or_nil e
 |true=>exact e
theorem FD(ha:PT X a tA)(hb:PW X (.BoolOp .And (b::rest) pos) tB'):PW X (.BoolOp .And (a::b::rest) pos) (J1 tA tB'):=by
 intro wh pins s σ H Q I h;refine isTrue_and (thn (ha pins s σ H _ I h) ?_);rintro c s1 ⟨H1,I1,q1⟩;cases c with
 |true=>exact hb wh pins s1 σ H1 Q I1 q1
 |false=>exact⟨H1,I1,q1⟩
theorem HD(ha:PT X a tA)(hb:PW X (.BoolOp .Or (b::rest) pos) tB'):PW X (.BoolOp .Or (a::b::rest) pos) (tOr tA tB'):=by
 intro wh pins s σ H Q I h;refine isTrue_or (thn (ha pins s σ H _ I h) ?_);rintro c s1 ⟨H1,I1,q1⟩;cases c with
 |true=>exact⟨H1,I1,q1⟩
 |false=>exact hb wh pins s1 σ H1 Q I1 q1
theorem Gm(ha:PT X a tA):PT X (.UnaryOp .Not a pos) (Jf tA):=by intro pins s σ H Q I h;exact isTrue_not (ha pins s σ H (fun c H1=>Q (!c) H1) I h)
noncomputable def IK(ta tb:TE):TE:=fun σ H Q=>ta σ H fun x H1=>∃c,x=.bl c/\if c=true then tb σ H1 Q else Q (.bl false) H1
noncomputable def Jm(ta tb:TE):TE:=fun σ H Q=>ta σ H fun x H1=>∃c,x=.bl c/\if c=true then Q (.bl true) H1 else tb σ H1 Q
def IT(ta:TE):TE:=fun σ H Q=>ta σ H fun x H1=>∃c,x=.bl c/\Q (.bl (!c)) H1
theorem FX{op}{t:TE}(h:PE X a t):PE X (.BoolOp op [a] pos) t:=fun pins s σ H Q I hw=>BoolOp_one (h pins s σ H Q I hw)
theorem FQ(ha:PE X a ta)(hb:PE X (.BoolOp .And (b::rest) pos) tb):PE X (.BoolOp .And (a::b::rest) pos) (IK ta tb):=by
 intro pins s σ H Q I h;refine BoolOp_and (thn (ha pins s σ H _ I h) ?_);rintro v s1 ⟨x,H1,I1,r1,q1⟩;obtain⟨c,rfl,q1⟩:=q1;cases r1;refine Pl ?_;cases c with
 |true=>exact hb pins s1 σ H1 Q I1 q1
 |false=>exact⟨.bl false,H1,I1,rfl,q1⟩
theorem GY(ha:PE X a ta)(hb:PE X (.BoolOp .Or (b::rest) pos) tb):PE X (.BoolOp .Or (a::b::rest) pos) (Jm ta tb):=by
 intro pins s σ H Q I h;refine BoolOp_or (thn (ha pins s σ H _ I h) ?_);rintro v s1 ⟨x,H1,I1,r1,q1⟩;obtain⟨c,rfl,q1⟩:=q1;cases r1;refine Pl ?_;cases c with
 |false=>exact hb pins s1 σ H1 Q I1 q1
 |true=>exact⟨.bl true,H1,I1,rfl,q1⟩
theorem FA(ha:PE X a ta):PE X (.UnaryOp .Not a pos) (IT ta):=by intro pins s σ H Q I h;refine UnaryOp_ (thn (ha pins s σ H _ I h) ?_);rintro v s1 ⟨x,H1,I1,r1,q1⟩;obtain⟨c,rfl,q1⟩:=q1;cases r1;exact not_of (Pl ⟨.bl (!c),H1,I1,rfl,q1⟩)
noncomputable def tIf(t:TT)(ta tb:TE):TE:=fun σ H Q=>t σ H fun c H1=>if c=true then ta σ H1 Q else tb σ H1 Q
theorem Ac{c:Ov}(hc:PT X c tA)(ha:PE X a ta)(hb:PE X b tb):PE X (.IfExp c a b pos) (tIf tA ta tb):=by
 intro pins s σ H Q I h;refine wpAny_IfExp (thn (hc pins s σ H _ I h) ?_);rintro d s1 ⟨H1,I1,q1⟩;cases d with
 |true=>exact ha pins s1 σ H1 Q I1 q1
 |false=>exact hb pins s1 σ H1 Q I1 q1
end
noncomputable def SqL(K:N7)(H:Hp)(a:N8)(xs:List V):Prop:=
 Rd H a (.lst xs)\/
  ∃(o:Obj) (its:Array N5) (n:Nat),K.lookup a=some o/\o.cls=.type "list"/\o.dict=none/\o.data=.seq its n/\its.size<=sizeLine/\Vals xs its.toList
noncomputable def SqT(K:N7)(H:Hp)(a:N8)(xs:List V):Prop:=
 Rd H a (.tup xs)\/
  ∃(o:Obj) (its:Array N5) (n:Nat),K.lookup a=some o/\o.cls=.type "tuple"/\o.data=.seq its n/\its.size<=sizeLine/\Vals xs its.toList
noncomputable def Jr:N5->Option V
 | .none=>some .non
 | .bool b=>some (.bl b)
 | .int i _=>some (.int i)
 | .str x _=>some (.str x)
 | .bytes b _=>some (.byt b)
 | .float b _=>some (.flt b)
 | .ref a=>some (.ref a)
 | .type n=>some (.ty n)
 | _=>none
theorem RelV.abs {x:V}(r:RelV x u):Jr u=some x:=by
 cases x with
 |non=>cases r;rfl
 |bl _=>cases r;rfl
 |int _=>obtain⟨t,rfl⟩:=r;rfl
 |str _=>obtain⟨t,rfl⟩:=r;rfl
 |byt _=>obtain⟨t,rfl⟩:=r;rfl
 |flt _=>obtain⟨t,rfl⟩:=r;rfl
 |ref _=>cases r;rfl
 |ty _=>cases r;rfl
theorem RelV.inj {x y:V}(r:RelV x u)(q:RelV y u):x=y:=I_ (r.abs.symm.trans q.abs)
theorem Vals.inj:∀{xs ys:List V}{us:List N5},Vals xs us->Vals ys us->xs=ys:=by
 intro xs ys us x;induction x generalizing ys with
 |nil=>intro y;cases y;rfl
 |cons r t ih=>
  intro y;cases y with
  |cons r' t'=>rw[r.inj r',ih t']
variable {K:N7}
section
variable{X:Cx}{pins:List (N8×Obj)}{σ:St}{H:Hp}{s:N9}{a:N8}{xs ys:List V}
theorem SqL.of (h:H a=some (.lst xs)):SqL K H a xs:=.inl (.inl h)
theorem SqT.of (h:H a=some (.tup xs)):SqT K H a xs:=.inl (.inl h)
theorem Inv.list (I:Inv X pins σ H s)(h:SqL X.K H a xs):∃its:List N5,Vals xs its/\PlainL s.heap a its.toArray/\xs.length<=sizeLine:=by
 rcases h with h|⟨o,its,n,hk,hc,hd,hs,hz,r⟩
 ·obtain⟨z,its,n,r,e⟩:=h.ok I.hok;exact⟨its,r,⟨_,n,e,rfl,rfl,rfl⟩,z⟩
 refine⟨its.toList,r,⟨o,n,I.kIn a o hk,hc,hd,by simpa using hs⟩,?_⟩;have e:=r.length;simp only[h_]at e;lia
theorem Inv.tuple (I:Inv X pins σ H s)(h:SqT X.K H a xs):∃its:List N5,Vals xs its/\UQ s.heap a its.toArray/\xs.length<=sizeLine:=by
 rcases h with h|⟨o,its,n,hk,hc,hs,hz,r⟩
 ·obtain⟨z,its,r,p⟩:=h.ok I.hok;exact⟨its,r,p,z⟩
 refine⟨its.toList,r,⟨o,I.kIn a o hk,hc,n,by simpa using hs⟩,?_⟩;have e:=r.length;simp only[h_]at e;lia
theorem Inv.qk (I:Inv X pins σ H s)(h:SqL X.K H a xs)(h':SqL X.K H a ys):xs=ys:=by
 obtain⟨its,r,⟨o,n,e,_,_,d⟩,_⟩:=I.list h;obtain⟨its',r',⟨o',n',e',_,_,d'⟩,_⟩:=I.list h';rw[e]at e';cases e';rw[d]at d';injection d' with d1 _
 have:its=its':=by simpa using congrArg NM d1
 subst this;exact r.inj r'
theorem Inv.fP (I:Inv X pins σ H s)(h:SqT X.K H a xs)(h':SqT X.K H a ys):xs=ys:=by
 obtain⟨its,r,⟨o,e,_,n,d⟩,_⟩:=I.tuple h;obtain⟨its',r',⟨o',e',_,n',d'⟩,_⟩:=I.tuple h';rw[e]at e';cases e';rw[d]at d';injection d' with d1 _
 have:its=its':=by simpa using congrArg NM d1
 subst this;exact r.inj r'
end
abbrev Cx.qL (X:Cx)(E:N5->N9->Prop):Cx:={ X with xe:=E}
abbrev Cx.nox (X:Cx):Cx:=X.qL fun _ _=>False
theorem Cx.Ok.qL (ok:X.Ok)(E:N5->N9->Prop):(X.qL E).Ok:=
 ⟨ok.mod,ok.kind,ok.glob,ok.blt,ok.above,ok.inj,ok.has,ok.cab,ok.hd,ok.frames,ok.stk,ok.exf,ok.bs,ok.bsz,ok.noex,ok.exfs,ok.qf,ok.frf⟩
theorem Cx.Ok.ju (ok:(X.qL E).Ok):X.Ok:=
 ⟨ok.mod,ok.kind,ok.glob,ok.blt,ok.above,ok.inj,ok.has,ok.cab,ok.hd,ok.frames,ok.stk,ok.exf,ok.bs,ok.bsz,ok.noex,ok.exfs,ok.qf,ok.frf⟩
section
variable{X:Cx}{pins:List (N8×Obj)}{σ:St}{H:Hp}{s:N9}{E:N5->N9->Prop}
theorem Inv.qL (I:Inv X pins σ H s)(E:N5->N9->Prop):Inv (X.qL E) pins σ H s:=⟨I.ok.qL E,I.os,I.bare,I.base,I.loc,I.cell,I.free,I.freeC,I.pin,I.hok,I.len⟩
theorem Inv.ju (I:Inv (X.qL E) pins σ H s):Inv X pins σ H s:=⟨I.ok.ju,I.os,I.bare,I.base,I.loc,I.cell,I.free,I.freeC,I.pin,I.hok,I.len⟩
theorem SP.ju {D:Ends}{f:Flow}{s':N9}(h:SP (X.qL E) pins D f s'):SP X pins D f s':=by
 cases f with
 |next=>obtain⟨σ',H',I,q⟩:=h;exact⟨σ',H',I.ju,q⟩
 |brk=>obtain⟨σ',H',I,q⟩:=h;exact⟨σ',H',I.ju,q⟩
 |cont=>obtain⟨σ',H',I,q⟩:=h;exact⟨σ',H',I.ju,q⟩
 |ret u=>obtain⟨v,σ',H',I,r,q⟩:=h;exact⟨v,σ',H',I.ju,r,q⟩
theorem PSs.nox {st:List OF}{t:TS}(h:PSs X.nox st t):PSs X st t:=fun pins s σ H D I hw=>
 OG (h pins s σ H D (I.qL _) hw) (fun _ _ q=>q.ju) fun _ _ z=>Oz z
end
section
variable{X:Cx}{st:OF}{rest:List OF}{t u:TS}{e:Ov}{te:TE}{pos:Pos}
def Ig:TS:=fun D σ H=>D.nx σ H
def J4(t u:TS):TS:=fun D σ H=>t { D with nx:=u D} σ H
theorem tB:PSs X [] Ig:=fun _ _ σ H _ I h=>RE ⟨σ,H,I,h⟩
theorem bQ(h1:PS X st t)(h2:PSs X rest u):PSs X (st::rest) (J4 t u):=by
 intro pins s σ H D I h;refine SO (thn (h1 pins s σ H { D with nx:=u D} I h) fun f s1 q=>?_);cases f with
 |next=>
  obtain⟨σ',H',I',q⟩:=q;exact h2 pins s1 σ' H' D I' q
 |ret v=>exact q
 |brk=>exact q
 |cont=>exact q
theorem lL(h1:PS X st t):PSs X [st] t:=by
 intro pins s σ H D I h;refine SO (thn (h1 pins s σ H D I h) fun f s1 q=>?_);cases f with
 |next=>exact RE q
 |ret v=>exact q
 |brk=>exact q
 |cont=>exact q
theorem Inv.quiet (I:Inv X pins σ H s):Uz X.env=false:=by simp[Uz,I.ok.kind]
def Ho(te:TE):TS:=fun D σ H=>te σ H fun _ H1=>D.nx σ H1
theorem Ds(he:PE X e te)(hs:QL e none pos.line X.env=pure false:=by rfl):PS X (.Expr e pos) (Ho te):=by intro pins s σ H D I h;exact wpAny_Expr_any (thn (he pins s σ H _ I h) fun v s1 ⟨x,H1,I1,r1,q1⟩=>⟨σ,H1,I1,q1⟩) I.quiet hs
def Jg(te:TE):TS:=fun D σ H=>te σ H D.rt
theorem rZ(he:PE X e te):PS X (.Return (some e) pos) (Jg te):=by intro pins s σ H D I h;exact wpAny_Return_some (thn (he pins s σ H _ I h) fun v s1 ⟨x,H1,I1,r1,q1⟩=>⟨x,σ,H1,I1,r1,q1⟩)
noncomputable def J5(c:TT)(t u:TS):TS:=fun D σ H=>c σ H fun b H1=>if b=true then t D σ H1 else u D σ H1
theorem BN{c:Ov}{a b:List OF}{tc:TT}(hc:PT X c tc)(ha:PSs X a t)(hb:PSs X b u):PS X (.If c a b pos) (J5 tc t u):=by
 intro pins s σ H D I h;refine wpAny_If (thn (hc pins s σ H _ I h) ?_);rintro d s1 ⟨H1,I1,q1⟩;cases d with
 |true=>exact ha pins s1 σ H1 D I1 q1
 |false=>exact hb pins s1 σ H1 D I1 q1
end
abbrev TG:=V->St->Hp->(St->Hp->Prop)->Prop
abbrev TGs:=List V->St->Hp->(St->Hp->Prop)->Prop
noncomputable def PG(X:Cx)(target:Ov)(t:TG):Prop:=
 ∀(pins:List (N8×Obj)) (s:N9) (σ:St) (H:Hp) (v:V) (u:N5) (Q:St->Hp->Prop),Inv X pins σ H s->RelV v u->t v σ H Q->
  Of (Oq X.prog X.w) X.A (QA target X.env u) (fun _ s'=>∃ σ' H',Inv X pins σ' H' s'/\Q σ' H') X.xe s
noncomputable def PGs(X:Cx)(ts:List Ov)(t:TGs):Prop:=
 ∀(pins:List (N8×Obj)) (s:N9) (σ:St) (H:Hp) (vs:List V) (us:List N5) (Q:St->Hp->Prop),Inv X pins σ H s->Vals vs us->t vs σ H Q->
  Of (Oq X.prog X.w) X.A (assignInOrder ((Pw ts X.env).map (·.2)) us) (fun _ s'=>∃ σ' H',Inv X pins σ' H' s'/\Q σ' H') X.xe s
abbrev Df:=V->V->V->Hp->(Hp->Prop)->Prop
noncomputable def vU(X:Cx)(t:Df):Prop:=
 ∀(pins:List (N8×Obj)) (s:N9) (σ:St) (H:Hp) (o i v:V) (ov iv u:N5) (Q:Hp->Prop),Inv X pins σ H s->RelV o ov->RelV i iv->RelV v u->t o i v H Q->
  Of (Oq X.prog X.w) X.A (Tq ov iv u) (fun _ s'=>∃H',Inv X pins σ H' s'/\Q H') X.xe s
variable {es:List Ov}{tg:Ov}
section
variable{X:Cx}{pos:Pos}
def ya(i:Nat):TG:=fun v σ H Q=>Q (σ.set i (some v)) H
theorem yG(hN:X.N.Nodup)(hi:X.N[i]?=some x)(hx:Loc X.env.scope x)(hf:X.fn x=true\/X.env.scope.names.lookup x=some .local:=by first|exact .inl rfl|exact .inr rfl|assumption):PG X (.Name x pos) (ya i):=by intro pins s σ H v u Q I r h;exact Sx (ur I hN hi hx r (fun s' I'=>⟨_,H,I',h⟩) hf)
def IZ:TGs:=fun vs σ H Q=>vs=[]/\Q σ H
def Hk(t:TG)(u:TGs):TGs:=fun vs σ H Q=>∃v r,vs=v::r/\t v σ H fun σ' H'=>u r σ' H' Q
theorem yq:PGs X [] IZ:=by intro pins s σ H vs us Q I r h;obtain⟨e,h⟩:=h;subst e;cases r;exact assignInOrder_nil ⟨σ,H,I,h⟩
theorem pH{t:TG}{u:TGs}(h1:PG X e t)(h2:PGs X es u)
  (hs:(Pw (e::es) X.env).map (·.2)=QA e X.env::(Pw es X.env).map (·.2):=by rfl):PGs X (e::es) (Hk t u):=by
 intro pins s σ H vs us Q I r h;obtain⟨v,vr,e1,h⟩:=h;subst e1;cases r with
 |cons r rr=>
  rw[hs];refine assignInOrder_cons (thn (h1 pins s σ H _ _ _ I r h) ?_);rintro _ s1 ⟨σ1,H1,I1,q1⟩;exact h2 pins s1 σ1 H1 _ _ Q I1 rr q1
noncomputable def IY(K:N7)(n:Nat)(t:TGs):TG:=fun v σ H Q=>∃a xs,v=.ref a/\SqT K H a xs/\xs.length=n/\t xs σ H Q
theorem Ai{k:Nat}{t:TGs}{n:Nat}(hc:X.calm=true)(h:PGs X es t)
  (hn:(Pw es X.env).length=n:=by rfl) (hst:(Pw es X.env).findIdx? (·.1)=none:=by rfl):PG X (.Tuple es k pos) (IY X.K n t):=by
 intro pins s σ H v u Q I r hw;obtain⟨a,xs,e1,hq,hl,hw⟩:=hw;subst e1;cases r;obtain⟨its,rv,ht,hz⟩:=I.tuple hq;refine assign_Tuple_tuple (I.ok.hd hc) ht (by simp[hn,<-hl,rv.length]) hst fun h' hx=>?_
 have I1:Inv X pins σ H {s with heap:=h'}:=I.kept (t':=s.toks) fun b o e=>hx b o (w_ (Ol e)) e;exact h pins _ σ H xs _ Q I1 (by simpa using rv) hw
noncomputable def J8(to ti:TE)(t:Df):TG:=fun v σ H Q=>to σ H fun o H1=>ti σ H1 fun i H2=>t o i v H2 fun H3=>Q σ H3
theorem Bs{o i:Ov}{to ti:TE}{t:Df}(ho:PE X o to)(hi:PE X i ti)(hs:vU X t)
  (ha:∀v,QA (.Subscript o i pos) X.env v=(do
   let ov <-QM [v] (OK o X.env)
   let iv <-QM [v,ov] (OK i X.env)
   Tr pos
   QM [v,ov,iv] (Tq ov iv v)
   release [v,ov,iv] []):=by intro _;rfl):PG X (.Subscript o i pos) (J8 to ti t):=by
 intro pins s σ H v u Q I r h;rw[ha];refine N6 (OH (thn (ho pins s σ H _ I h) ?_));rintro ov s1 ⟨x,H1,I1,r1,q1⟩;refine N6 (OH (thn (hi pins s1 σ H1 _ I1 q1) ?_));rintro iv s2 ⟨y,H2,I2,r2,q2⟩;refine N6 (QF (N6 (OH (thn (hs pins s2 σ H2 x y v ov iv u _ I2 r1 r2 r q2) ?_))));rintro _ s3 ⟨H3,I3,q3⟩;exact wpAny_release ⟨σ,H3,I3,q3⟩
def CN(te:TE)(g:TG):TS:=fun D σ H=>te σ H fun x H1=>g x σ H1 D.nx
theorem Aq{te:TE}{g:TG}(he:PE X e te)(hg:PG X tg g)(hs:TR [tg] e pos.line X.env=pure false:=by rfl)(hw:TU [tg] e X.env=pure none:=by rfl)
  (h1:(Pw [tg] X.env).map (·.2)=[QA tg X.env]:=by rfl):PS X (.Assign [tg] e pos) (CN te g):=by
 intro pins s σ H D I h;refine wpAny_Assign_stores (thn (he pins s σ H _ I h) fun v s1 ⟨x,H1,I1,r1,q1⟩=>?_) hs hw;rw[h1];exact thn (hg pins s1 σ H1 x v _ I1 r1 q1) fun _ s2 q=>q
theorem jn{te:TE}{pos':Pos}(hN:X.N.Nodup)(hi:X.N[i]?=some x)(hx:Loc X.env.scope x)(he:PE X e te)(hs:QL e (some (.Name x pos')) pos.line X.env=pure false:=by rfl)(hf:X.fn x=true\/X.env.scope.names.lookup x=some .local:=by first|exact .inl rfl|exact .inr rfl|assumption) :
  PS X (.Assign [.Name x pos'] e pos) (CN te (ya i)):=by
 intro pins s σ H D I h;refine wpAny_Assign_Name (thn (he pins s σ H _ I h) fun v s1 ⟨y,H1,I1,r1,q1⟩=>?_) hs;exact ur I1 hN hi hx r1 (fun s2 I2=>⟨_,H1,I2,q1⟩) hf
end
structure It where
 go:Nat->Hp->Prop
 yld:Nat->Hp->V->Hp->Prop
 stop:Nat->Hp->Prop
noncomputable def lQ(X:Cx)(pins:List (N8×Obj))(H:Hp)(b:N8):Prop:=
 H b=none/\b≠X.env.locals/\b ∉ X.fs/\(b∈X.ex\/X.s₀.heap.objs.size<=b)/\(∀x c,X.env.cells.lookup x=some c->c≠b)/\∀p∈X.pn++pins,p.1≠b
theorem Inv.xo {H':Hp}(I:Inv X pins σ H s)(hb:s.heap.objs.size<=b)(hn:H' b=none):lQ X pins H' b:=by
 refine⟨hn,Lp (s_ I.lt hb),I.J6 hb,.inr (m_ I.sz hb),fun x c e z=>?_,fun p hp z=>?_⟩
 ·obtain⟨v,q⟩:=I.cell x c e;exact absurd (s_ q.lt (by rw[z];exact hb)) (Kg _)
 exact absurd (s_ (Ol (I.pin p hp).1) (by rw[z];exact hb)) (Kg _)
structure Turn (P:Oj) (w:Ot) (K:N7) (tg:Ov) (J:It) (fp:List N8) (it:N8) (tn:Nat->Ou->Prop):Prop where
 mem:it∈fp
 obj:∀i h,tn i h->∀b∈fp,∃o,h.get? b=some o/\∀v,o.data≠.cell v
 keep:∀i h h',tn i h->(∀b∈fp,∀o,h.get? b=some o->h'.get? b=some o)->tn i h'
 item:∀(X:Cx),X.prog=P->X.w=w->X.K=K->X.calm=true->∀(i:Nat) (pins:List (N8×Obj)) (s:N9) (σ:St) (H:Hp) (E:N5->N9->Prop),Inv X pins σ H s->(∀b∈fp,lQ X pins H b)->tn i s.heap->J.go i H->
  Of (Oq P w) X.A (Qe (.ref it)) (fun r s1=>∃u,r=some u/\
   Of (Oq P w) X.A (QN tg (.ref it) u) (fun _ s2=>∃x H',Inv X pins σ H' s2/\RelV x u/\J.yld i H x H'/\tn (i+1) s2.heap/\∀b∈fp,H' b=none) E s1) E s
 done:∀(X:Cx),X.prog=P->X.w=w->X.K=K->X.calm=true->∀(i:Nat) (pins:List (N8×Obj)) (s:N9) (σ:St) (H:Hp) (E:N5->N9->Prop),Inv X pins σ H s->(∀b∈fp,lQ X pins H b)->tn i s.heap->J.stop i H->
  Of (Oq P w) X.A (Qe (.ref it)) (fun r s1=>r=none/\Inv X pins σ H s1) E s
 self:∀(A:OB) (i:Nat) (s:N9) (Q:N5->N9->Prop) (E:N5->N9->Prop),tn i s.heap->Q (.ref it) s->Of (Oq P w) A (Ru (.ref it)) Q E s
abbrev TI:=St->Hp->(It->Hp->Prop)->Prop
noncomputable def PIE(X:Cx)(pins:List (N8×Obj))(σ:St)(tg:Ov)(R:It->Hp->Prop)(itv:N5)(s2:N9):Prop:=
 ∃(it:N8) (fp:List N8) (tn:Nat->Ou->Prop) (J:It) (H':Hp),itv=.ref it/\Inv X pins σ H' s2/\Turn X.prog X.w X.K tg J fp it tn/\tn 0 s2.heap/\(∀b∈fp,lQ X pins H' b)/\R J H'
noncomputable def PI(X:Cx)(tg iter:Ov)(wi:TI):Prop:=
 ∀(pins:List (N8×Obj)) (s:N9) (σ:St) (H:Hp) (R:It->Hp->Prop),Inv X pins σ H s->wi σ H R->
  Of (Oq X.prog X.w) X.A (OK iter X.env) (fun v s1=>Of (Oq X.prog X.w) X.A (Ru v) (PIE X pins σ tg R) X.xe s1) X.xe s
theorem yn{it:N8}{o:Obj}{n:String}{vs:Array N5}(ho:s.heap.get? it=some o)(hc:o.cls=.type n)(hd:o.data=.fields vs)
    (hn:["enumerate","zip","dict_itemiterator","dict_reverseitemiterator","odict_iterator","itertools.zip_longest","itertools.pairwise"].contains n=false) (hQ:Q () s):Of M A (QN tg (.ref it) u) Q E s:=by
  unfold QN;cases tg <;> first
    |exact Oa hQ
    | (cases u <;> first
        |exact Oa hQ
        | (refine N6 (wpAny_load ho ?_)
           rw[hc,hd];show Of M A (if(["enumerate","zip","dict_itemiterator","dict_reverseitemiterator","odict_iterator","itertools.zip_longest","itertools.pairwise"].contains n&&vs[0]? == some (QB _))=true then _ else _) Q E s;rw[if_neg (by intro h;rw[hn,Bool.false_and]at h;cases h)];exact Oa hQ))
noncomputable def Itl(K:N7)(a:N8):It:=
 ⟨fun i H=>∃xs x,SqL K H a xs/\xs[i]?=some x,fun i H x H'=>H'=H/\∀xs,SqL K H a xs->xs[i]?=some x,fun i H=>∃xs,SqL K H a xs/\xs.length<=i⟩
noncomputable def Itt(K:N7)(a:N8):It:=
 ⟨fun i H=>∃xs x,SqT K H a xs/\xs[i]?=some x,fun i H x H'=>H'=H/\∀xs,SqT K H a xs->xs[i]?=some x,fun i H=>∃xs,SqT K H a xs/\xs.length<=i⟩
noncomputable def Itr(lo:Int)(n:Nat):It:=⟨fun i _=>i<n,fun i H x H'=>H'=H/\x=.int (lo+i),fun i _=>n<=i⟩
theorem zr(a it:N8):Turn P w K tg (Itl K a) [it] it (fun i h=>h.IsListIter it a i) where
 mem:=by simp
 obj:=fun i h st b hb=>by
  have e:b=it:=by simpa using hb
  subst e;obtain⟨o,e,c,d⟩:=st;exact⟨o,e,fun v z=>by rw[d]at z;cases z⟩
 keep:=fun i h h' st k=>st.at fun o e=>k it (by simp) o e
 item:=by
  intro X hP hw hK hc i pins s σ H E I hf st hg;subst hP hw hK;obtain⟨xs,x,hq,hx⟩:=hg;obtain⟨its,rv,p,hz⟩:=I.list hq;obtain⟨u,hu,ru⟩:=rv.get hx;obtain⟨f0,f1,f2,f3,f4,f5⟩:=hf it (by simp);refine wpAny_pyNext_list_item st p.isList (x:=u) (by simpa using hu) fun h' st' sb=>?_
  have I1:Inv X pins σ H {s with heap:=h'}:=I.turned (t':=s.toks) (fun b o hb e=>(sb.2 b hb).trans e) f0 f1 f3 f4 f5;obtain⟨o,e,c,d⟩:=id st';exact⟨u,rfl,yn (s:={s with heap:=h'}) e c d (by decide) ⟨x,H,I1,ru,⟨rfl,fun ys hy=>by rw[I.qk hy hq];exact hx⟩,st',fun b hb=>(hf b hb).1⟩⟩
 done:=by intro X hP hw hK hc i pins s σ H E I hf st hg;subst hP hw hK;obtain⟨xs,hq,hx⟩:=hg;obtain⟨its,rv,p,hz⟩:=I.list hq;obtain⟨f0,f1,f2,f3,f4,f5⟩:=hf it (by simp);have hl:=rv.length;exact wpAny_pyNext_list_end (I.ok.hd hc) st p.isList (by simp;lia) fun h' eb=>⟨rfl,I.turned (t':=s.toks) (fun b o hb e=>eb b o hb e) f0 f1 f3 f4 f5⟩
 self:=fun _ _ _ _ _ st h=>wpAny_pyIter_listiter st h
theorem wZ(a it:N8):Turn P w K tg (Itt K a) [it] it (fun i h=>h.IsTupleIter it a i) where
 mem:=by simp
 obj:=fun i h st b hb=>by
  have e:b=it:=by simpa using hb
  subst e;obtain⟨o,e,c,d⟩:=st;exact⟨o,e,fun v z=>by rw[d]at z;cases z⟩
 keep:=fun i h h' st k=>st.at fun o e=>k it (by simp) o e
 item:=by
  intro X hP hw hK hc i pins s σ H E I hf st hg;subst hP hw hK;obtain⟨xs,x,hq,hx⟩:=hg;obtain⟨its,rv,p,hz⟩:=I.tuple hq;obtain⟨u,hu,ru⟩:=rv.get hx;obtain⟨f0,f1,f2,f3,f4,f5⟩:=hf it (by simp);refine wpAny_pyNext_tuple_item st (show s.heap.IsTuple a its.toArray from p) (x:=u) (by simpa using hu) fun h' st' sb=>?_
  have I1:Inv X pins σ H {s with heap:=h'}:=I.turned (t':=s.toks) (fun b o hb e=>(sb.2 b hb).trans e) f0 f1 f3 f4 f5;obtain⟨o,e,c,d⟩:=id st';exact⟨u,rfl,yn (s:={s with heap:=h'}) e c d (by decide) ⟨x,H,I1,ru,⟨rfl,fun ys hy=>by rw[I.fP hy hq];exact hx⟩,st',fun b hb=>(hf b hb).1⟩⟩
 done:=by intro X hP hw hK hc i pins s σ H E I hf st hg;subst hP hw hK;obtain⟨xs,hq,hx⟩:=hg;obtain⟨its,rv,p,hz⟩:=I.tuple hq;obtain⟨f0,f1,f2,f3,f4,f5⟩:=hf it (by simp);have hl:=rv.length;exact wpAny_pyNext_tuple_end (I.ok.hd hc) st (show s.heap.IsTuple a its.toArray from p) (by simp;lia) fun h' eb=>⟨rfl,I.turned (t':=s.toks) (fun b o hb e=>eb b o hb e) f0 f1 f3 f4 f5⟩
 self:=fun _ _ _ _ _ st h=>wpAny_pyIter_tupleiter st h
theorem wK(it:N8)(lo:Int)(n:Nat):Turn P w K tg (Itr lo n) [it] it (fun i h=>UA h it (lo+(i:Nat)*1) ((n:Int)-(i:Nat)) 1) where
 mem:=by simp
 obj:=fun i h st b hb=>by
  have e:b=it:=by simpa using hb
  subst e;exact⟨_,st,fun v z=>by have z':UB _=Sm v:=z;cases z'⟩
 keep:=fun i h h' st k=>k it (by simp) _ st
 item:=by intro X hP hw hK hc i pins s σ H E I hf st hg;subst hP hw hK;obtain⟨f0,f1,f2,f3,f4,f5⟩:=hf it (by simp);have W:=Walks.range (prog:=X.prog) (w:=X.w) (I.ok.hd hc) it lo 1 n;refine W.item i s _ _ hg st fun v h' tk hv st' kk=>?_;obtain⟨t,rfl⟩:=hv;have I1:Inv X pins σ H {s with heap:=h',toks:=tk}:=I.turned (fun b o hb e=>kk b o (by simpa using hb) e) f0 f1 f3 f4 f5;refine⟨_,rfl,yn (s:={s with heap:=h',toks:=tk}) (n:="range_iterator") st' rfl rfl (by decide) ⟨.int (lo+i),H,I1,⟨t,?_⟩,⟨rfl,rfl⟩,st',fun b hb=>(hf b hb).1⟩⟩;rw[NU]
 done:=by intro X hP hw hK hc i pins s σ H E I hf st hg;subst hP hw hK;obtain⟨f0,f1,f2,f3,f4,f5⟩:=hf it (by simp);exact wpAny_pyNext_range_end (I.ok.hd hc) st (by have:n<=i:=hg;lia) fun h' eb=>⟨rfl,I.turned (t':=s.toks) (fun b o hb e=>eb b o hb e) f0 f1 f3 f4 f5⟩
 self:=fun _ _ _ _ _ st h=>wpAny_pyIter_rangeiter st h
variable {body:List OF}{fp:List N8}
section
variable{X:Cx}{tg:Ov}
theorem uC{R:It->Hp->Prop}{lo hi:Int}{t u v:Tok}{tk:Nat}(I:Inv X pins σ H s)(h1:-(2 ^ 62)<=lo)(h2:lo<2 ^ 62)(h3:-(2 ^ 62)<=hi)(h4:hi<2 ^ 62)
  (q:R (Itr lo (hi-lo).toNat) H):Of (Oq X.prog X.w) X.A (Ru (.ref s.heap.objs.size)) (PIE X pins σ tg R) E {s with heap:=s.heap.push { cls:=.type "range",data:=.fields #[.int lo t,.int hi u,.int 1 v] },toks:=tk}:=by
 refine wpAny_pyIter_range (IsRange.new ..) (small_one h1 h2 h3 h4) ?_;have I1:Inv X pins σ H {s with heap:=s.heap.push { cls:=.type "range",data:=.fields #[.int lo t,.int hi u,.int 1 v] },toks:=tk}:=I.kept fun b o e=>Oe _ e;refine⟨(s.heap.push { cls:=.type "range",data:=.fields #[.int lo t,.int hi u,.int 1 v] }).objs.size,[(s.heap.push { cls:=.type "range",data:=.fields #[.int lo t,.int hi u,.int 1 v] }).objs.size],_,_,H,rfl,
  I1.kept (t':=tk) fun b o e=>Oe _ e,wK _ lo (hi-lo).toNat,?_,fun b hb=>?_,q⟩
 ·have e1:lo+((0:Nat):Int)*1=lo:=by simp
  have e2:(((hi-lo).toNat:Nat):Int)-((0:Nat):Int)=Us lo hi 1:=by rw[rangeSize_one];split <;> lia
  show UA _ _ (lo+((0:Nat):Int)*1) ((((hi-lo).toNat:Nat):Int)-((0:Nat):Int)) 1;rw[e1,e2];exact Oo _ rfl
 have e:b=(s.heap.push { cls:=.type "range",data:=.fields #[.int lo t,.int hi u,.int 1 v] }).objs.size:=by simpa using hb
 subst e;exact I1.xo (b_ _) (I1.hok.fresh (b_ _))
noncomputable def GV(ta:TA):TI:=fun σ H R=>ta σ H fun vs H1=>∃j:Int,vs=[.int j]/\-(2 ^ 62)<=j/\j<2 ^ 62/\R (Itr 0 j.toNat) H1
noncomputable def Hg(ta:TA):TI:=fun σ H R=>ta σ H fun vs H1=>∃i j:Int,vs=[.int i,.int j]/\(-(2 ^ 62)<=i/\i<2 ^ 62/\-(2 ^ 62)<=j/\j<2 ^ 62)/\R (Itr i (j-i).toNat) H1
theorem zV{a:Ov}{ta:TA}{p:Pos}(hg:Gl X "range")(hm:X.mg "range"=none)(ha:PA X [a] ta)(hs:Oy [a] X.env=[(false,OK a X.env)]:=by rfl):PI X tg (.Call (.Name "range" p) [a] [] pos) (GV ta):=by
 intro pins s σ H R I h;refine Call_ (j9 I hg hm boot_range (PC (thn (ha pos pins s σ H _ I h) fun us s1 ⟨vs,H1,I1,r1,q1⟩=>?_) hs rfl));obtain⟨j,e,q1,q2,q⟩:=q1;subst e;cases r1 with
 |cons r rr=>
  cases rr;obtain⟨t,rfl⟩:=r;exact call_range_1 (uC I1 (by lia) (by lia) q1 q2 (by simpa using q))
theorem zN{a b:Ov}{ta:TA}{p:Pos}(hg:Gl X "range")(hm:X.mg "range"=none)(ha:PA X [a,b] ta)(hs:Oy [a,b] X.env=[(false,OK a X.env),(false,OK b X.env)]:=by rfl)(hs2:Oy [b] X.env=[(false,OK b X.env)]:=by rfl) :
  PI X tg (.Call (.Name "range" p) [a,b] [] pos) (Hg ta):=by
 intro pins s σ H R I h;refine Call_ (j9 I hg hm boot_range (PC (thn (ha pos pins s σ H _ I h) fun us s1 ⟨vs,H1,I1,r1,q1⟩=>?_) (by rw[hs,hs2]) (by rw[hs2];rfl)));obtain⟨i,j,e,⟨q1,q2,q3,q4⟩,q⟩:=q1;subst e;cases r1 with
 |cons r rr=>
  cases rr with
  |cons r' rr=>
   cases rr;obtain⟨t,rfl⟩:=r;obtain⟨t',rfl⟩:=r';exact call_range_2 (uC I1 q1 q2 q3 q4 q)
noncomputable def Jl(wi:TI)(g:TG)(tb:TS):TS:=fun D σ H=>wi σ H fun J H1=>∃W:Nat->Nat->St->Hp->Prop,(∃m,W 0 m σ H1)/\∀i m σ H,W i m σ H->
 (J.stop i H/\D.nx σ H)\/(J.go i H/\∃N:St->Hp->Prop,(∀ σ' H',N σ' H'->∃m',m'<m/\W (i+1) m' σ' H')/\∀x H',J.yld i H x H'->g x σ H' fun σ2 H2=>tb { D with nx:=N,ct:=N,bk:=D.nx} σ2 H2)
noncomputable def nv(fp:List N8)(h:Ou):List (N8×Obj):=fp.filterMap fun b=>(h.get? b).map fun o=>(b,o)
theorem cT{o:Obj}(hb:b∈fp)(e:h.get? b=some o):(b,o)∈nv fp h:=LF.mpr ⟨b,hb,by rw[e];rfl⟩
theorem zC{p:N8×Obj}(hp:p∈nv fp h):p.1∈fp/\h.get? p.1=some p.2:=by
 obtain⟨b,hb,e⟩:=LF.mp hp;cases q:h.get? b with
 |none=>rw[q]at e;cases e
 |some o=>
  rw[q]at e;have e':(b,o)=p:=I_ e;subst e';exact⟨hb,q⟩
theorem Inv.pinned (I:Inv X pins σ H s)(hf:∀b∈fp,lQ X pins H b)(ho:∀b∈fp,∃o,s.heap.get? b=some o/\∀v,o.data≠.cell v):Inv X (pins++nv fp s.heap) σ H s:=
 I.yc fun p hp=>(A_.mp hp).elim (fun z=>I.pin p (q_ _ z)) fun z=>by obtain⟨hb,e⟩:=zC z;obtain⟨f0,f1,f2,_⟩:=hf p.1 hb;obtain⟨o,e',d⟩:=ho p.1 hb;rw[e]at e';cases e';exact⟨e,f0,f1,f2,d⟩
theorem Inv.jj {pl:List (N8×Obj)}(I:Inv X (pins++pl) σ H s):Inv X pins σ H s:=I.yc fun p hp=>I.pin p (q_ _ (H_ _ hp))
theorem AX{iter:Ov}{wi:TI}{g:TG}{tb:TS}(hp:TL (Oq X.prog X.w) X.A X.env X.xe)(hc:X.calm=true)(hi:PI X tg iter wi)(hg:PG X tg g)(hb:PSs X body tb)
  (hs:∀x,OX iter X.env x=pure x:=by intro _;rfl):PS X (.For tg iter body [] pos) (Jl wi g tb):=by
 intro pins s σ H D I h;refine wpAny_For (thn (hi pins s σ H _ I h) fun v s1 h1=>thn h1 fun itv s2 h2=>?_) hs;obtain⟨it,fp,tn,J,H2,e,I2,T,st2,f2,W,⟨m0,w0⟩,turn⟩:=h2;subst e;have stat:∀{H':Hp},(∀b∈fp,H' b=none)->∀b∈fp,lQ X pins H' b:=fun hn b hb=>⟨hn b hb,(f2 b hb).2⟩;refine codeAny_forLoop_any (fun n s'=>∃i σ' H',Inv X pins σ' H' s'/\tn i s'.heap/\(∀b∈fp,H' b=none)/\W i n σ' H') ?_ m0 ⟨0,σ,H2,I2,st2,fun b hb=>(f2 b hb).1,w0⟩;rintro n s3 ⟨i,σ3,H3,I3,st3,fr3,w3⟩;rcases turn i n σ3 H3 w3 with⟨stop,qn⟩|⟨go,N,hN,step⟩
 ·refine Ql hp (thn (T.done X rfl rfl rfl hc i pins s3 σ3 H3 X.xe I3 (stat fr3) st3 stop) ?_);rintro r s4 ⟨hr,I4⟩;subst hr;exact RE ⟨σ3,H3,I4,qn⟩
 refine Ql hp (thn (T.item X rfl rfl rfl hc i pins s3 σ3 H3 X.xe I3 (stat fr3) st3 go) ?_);rintro r s4 ⟨u,hr,h4⟩;subst hr;refine Ql hp (thn h4 ?_);rintro _ s5 ⟨x,H5,I5,r5,y5,st5,fr5⟩;have I5':=I5.pinned (stat fr5) (T.obj _ _ st5);refine Ql hp (thn (hg _ s5 σ3 H5 x u _ I5' r5 (step x H5 y5)) ?_);rintro _ s6 ⟨σ6,H6,I6,q6⟩;refine Ql hp (thn (hb _ s6 σ6 H6 _ I6 q6) fun f s7 q7=>?_);have again:∀{σ7:St}{H7:Hp},Inv X (pins++nv fp s5.heap) σ7 H7 s7->N σ7 H7->∃m,m<n/\∃i σ' H',Inv X pins σ' H' s7/\tn i s7.heap/\(∀b∈fp,H' b=none)/\W i m σ' H':=fun{σ7 H7} I7 n7=>by obtain⟨m',hm,w7⟩:=hN σ7 H7 n7;refine⟨m',hm,i+1,σ7,H7,I7.jj,T.keep _ _ _ st5 fun b hb o e=>(I7.pin (b,o) (q_ _ (q_ _ (cT hb e)))).1,fun b hb=>?_,w7⟩;obtain⟨o,e,d⟩:=T.obj _ _ st5 b hb;exact(I7.pin (b,o) (q_ _ (q_ _ (cT hb e)))).2.1
 cases f with
 |next=>obtain⟨σ7,H7,I7,n7⟩:=q7;exact again I7 n7
 |cont=>obtain⟨σ7,H7,I7,n7⟩:=q7;exact again I7 n7
 |brk=>obtain⟨σ7,H7,I7,q7⟩:=q7;exact⟨σ7,H7,I7.jj,q7⟩
 |ret v=>obtain⟨x7,σ7,H7,I7,r7,q7⟩:=q7;exact⟨x7,σ7,H7,I7.jj,r7,q7⟩
end
abbrev R2:=V->V->Hp->VK->Prop
noncomputable def OpR(X:Cx)(f:N5->N5->Sem N5)(r:R2):Prop:=
 ∀(pins:List (N8×Obj)) (s:N9) (σ:St) (H:Hp) (x y:V) (v u:N5) (Q:VK),Inv X pins σ H s->RelV x v->RelV y u->r x y H Q->
  Of (Oq X.prog X.w) X.A (f v u) (EP X pins σ Q) X.xe s
noncomputable def UnR(X:Cx)(f:N5->Sem N5)(r:V->Hp->VK->Prop):Prop:=
 ∀(pins:List (N8×Obj)) (s:N9) (σ:St) (H:Hp) (x:V) (v:N5) (Q:VK),Inv X pins σ H s->RelV x v->r x H Q->
  Of (Oq X.prog X.w) X.A (f v) (EP X pins σ Q) X.xe s
noncomputable def bp(X:Cx)(f:N5)(r:List V->Hp->VK->Prop):Prop:=
 ∀(pins:List (N8×Obj)) (s:N9) (σ:St) (H:Hp) (xs:List V) (us:List N5) (Q:VK),Inv X pins σ H s->Vals xs us->r xs H Q->
  Of (Oq X.prog X.w) X.A (call f us) (EP X pins σ Q) X.xe s
noncomputable def Jq(X:Cx)(r:V->Hp->(Bool->Hp->Prop)->Prop):Prop:=
 ∀(pins:List (N8×Obj)) (s:N9) (σ:St) (H:Hp) (x:V) (v:N5) (Q:Bool->Hp->Prop),Inv X pins σ H s->RelV x v->r x H Q->
  Of (Oq X.prog X.w) X.A (truthy v) (TP X pins σ Q) X.xe s
def tOp(r:R2)(ta tb:TE):TE:=fun σ H Q=>ta σ H fun x H1=>tb σ H1 fun y H2=>r x y H2 Q
def tUn(r:V->Hp->VK->Prop)(ta:TE):TE:=fun σ H Q=>ta σ H fun x H1=>r x H1 Q
noncomputable def rI(C:Int->Int->Prop)(g:Int->Int->V):R2:=fun x y H Q=>∃i j,x=.int i/\y=.int j/\C i j/\Q (g i j) H
def rI0(g:Int->Int->V):R2:=fun x y H Q=>∃i j,x=.int i/\y=.int j/\Q (g i j) H
def rU(g:Int->V):V->Hp->VK->Prop:=fun x H Q=>∃i,x=.int i/\Q (g i) H
variable {f:N5->N5->Sem N5}{op:Sv}
section
variable{X:Cx}{a b c:Ov}{ta tb tc:TE}{pos:Pos}
theorem Fh(ha:PE X a ta)(hb:PE X b tb){R:V->V->Hp->Prop}(I:Inv X pins σ H s)
  (h:ta σ H fun x H1=>tb σ H1 fun y H2=>R x y H2) {Q:N5->N9->Prop} {f:N5->N5->Sem N5}
  (hf:∀v u s2 x y H2,Inv X pins σ H2 s2->RelV x v->RelV y u->R x y H2->Of (Oq X.prog X.w) X.A (f v u) Q X.xe s2) :
  Of (Oq X.prog X.w) X.A (OK a X.env) (fun v s₁=>Of (Oq X.prog X.w) X.A (OK b X.env) (fun u s₂=>Of (Oq X.prog X.w) X.A (f v u) Q X.xe s₂) X.xe s₁) X.xe s:=by
 refine thn (ha pins s σ H _ I h) ?_;rintro v s1 ⟨x,H1,I1,r1,q1⟩;refine thn (hb pins s1 σ H1 _ I1 q1) ?_;rintro u s2 ⟨y,H2,I2,r2,q2⟩;exact hf v u s2 x y H2 I2 r1 r2 q2
theorem cK{op:Operator}{r:R2}(ho:OpR X (Ph op) r)(ha:PE X a ta)(hb:PE X b tb):PE X (.BinOp a op b pos) (tOp r ta tb):=by intro pins s σ H Q I h;exact wpAny_BinOp (Fh ha hb I h fun v u s2 x y H2 I2 rx ry q=>ho pins s2 σ H2 x y v u Q I2 rx ry q)
theorem HJ{op:UnaryOp}{r:V->Hp->VK->Prop}(ho:UnR X (unaryOp op) r)(ha:PE X a ta):PE X (.UnaryOp op a pos) (tUn r ta):=by intro pins s σ H Q I h;exact UnaryOp_ (thn (ha pins s σ H _ I h) fun v s1 ⟨x,H1,I1,r1,q1⟩=>ho pins s1 σ H1 x v Q I1 r1 q1)
theorem opI{C:Int->Int->Prop}{g:Int->Int->Int}
  (rule:∀(i j:Int) (t u:Tok) (s:N9) (Q:N5->N9->Prop) (E:N5->N9->Prop),C i j->Q (.int (g i j) s.toks) {s with toks:=s.toks+1}->Of (Oq X.prog X.w) X.A (f (.int i t) (.int j u)) Q E s) :
  OpR X f (rI C fun i j=>.int (g i j)):=by
 intro pins s σ H x y v u Q I rx ry h;obtain⟨i,j,rfl,rfl,hc,q⟩:=h;obtain⟨t,rfl⟩:=rx;obtain⟨t',rfl⟩:=ry;exact rule i j t t' s _ _ hc ⟨.int (g i j),H,I.tok _,⟨_,rfl⟩,q⟩
theorem HB{g:Int->Int->Int}
  (rule:∀(i j:Int) (t u:Tok) (s:N9) (Q:N5->N9->Prop) (E:N5->N9->Prop),Q (.int (g i j) s.toks) {s with toks:=s.toks+1}->Of (Oq X.prog X.w) X.A (f (.int i t) (.int j u)) Q E s) :
  OpR X f (rI0 fun i j=>.int (g i j)):=by
 intro pins s σ H x y v u Q I rx ry h;obtain⟨i,j,rfl,rfl,q⟩:=h;obtain⟨t,rfl⟩:=rx;obtain⟨t',rfl⟩:=ry;exact rule i j t t' s _ _ ⟨.int (g i j),H,I.tok _,⟨_,rfl⟩,q⟩
theorem DK{g:Int->Int->Bool}
  (rule:∀(i j:Int) (t u:Tok) (s:N9) (Q:N5->N9->Prop) (E:N5->N9->Prop),Q (.bool (g i j)) s->Of (Oq X.prog X.w) X.A (f (.int i t) (.int j u)) Q E s) :
  OpR X f (rI0 fun i j=>.bl (g i j)):=by
 intro pins s σ H x y v u Q I rx ry h;obtain⟨i,j,rfl,rfl,q⟩:=h;obtain⟨t,rfl⟩:=rx;obtain⟨t',rfl⟩:=ry;exact rule i j t t' s _ _ ⟨.bl (g i j),H,I,rfl,q⟩
def HY(i j:Int):Prop:=0<j/\j<1073741824
def Jt(i j:Int):Prop:=0<=j/\j<=1000000/\i.natAbs<2 ^ 64
def wd(i j:Int):Prop:=(-(2 ^ 64)<i/\i<2 ^ 64)\/(-(2 ^ 64)<j/\j<2 ^ 64)
theorem wd.ok {i j:Int}(h:wd i j):IntMulOk i j:=by
 rcases h with⟨h1,h2⟩|⟨h1,h2⟩
 ·exact .of_left (TV h1 h2)
 exact .of_right (TV h1 h2)
theorem p9:OpR X (Ph .Add) (rI0 fun i j=>.int (i+j)):=HB fun _ _ _ _ _ _ _ q=>add_int q
theorem Fu:OpR X (Ph .Sub) (rI0 fun i j=>.int (i-j)):=HB fun _ _ _ _ _ _ _ q=>sub_int q
theorem kQ:OpR X (Ph .Mult) (rI wd fun i j=>.int (i*j)):=opI fun _ _ _ _ _ _ _ hc q=>mul_int q hc.ok
theorem CF:OpR X (Ph .FloorDiv) (rI HY fun i j=>.int (i/j)):=opI fun i j _ _ _ _ _ hc q=>by have h1:(0:Int)<j:=hc.1;have h2:j<1073741824:=hc.2;exact floordiv_int (by lia) (by rw[Ml i (by lia)];exact q) (.inl (RK (by lia)))
theorem nJ:OpR X (Ph .Mod) (rI (fun _ j=>0<j) fun i j=>.int (i%j)):=opI fun i j _ _ _ _ _ hc q=>by have h1:(0:Int)<j:=hc;exact mod_int' (by lia) (by rw[Mm i (by lia)];exact q)
theorem Fy:OpR X (Ph .Pow) (rI Jt fun i j=>.int (i ^ j.toNat)):=opI fun _ _ _ _ _ _ _ hc q=>pow_int_small hc.1 hc.2.1 hc.2.2 q
theorem unI{f:N5->Sem N5}{g:Int->Int}
  (rule:∀(i:Int) (t:Tok) (s:N9) (Q:N5->N9->Prop) (E:N5->N9->Prop),Q (.int (g i) s.toks) {s with toks:=s.toks+1}->Of (Oq X.prog X.w) X.A (f (.int i t)) Q E s) :
  UnR X f (rU fun i=>.int (g i)):=by
 intro pins s σ H x v Q I rx h;obtain⟨i,rfl,q⟩:=h;obtain⟨t,rfl⟩:=rx;exact rule i t s _ _ ⟨.int (g i),H,I.tok _,⟨_,rfl⟩,q⟩
theorem Gi:UnR X (unaryOp .USub) (rU fun i=>.int (-i)):=unI fun _ _ _ _ _ q=>neg_int q
theorem F3{Q:VK}{k k':Bool}(I:Inv X pins σ H s)(q:Q (.bl k) H)(e:k=k'):EP X pins σ Q (.bool k') s:=by subst e;exact⟨.bl k,H,I,rfl,q⟩
theorem GP:OpR X (OV .Lt) (rI0 fun i j=>.bl (decide (i<j))):=DK fun _ _ _ _ _ _ _ q=>lt_int q
theorem Hs:OpR X (OV .LtE) (rI0 fun i j=>.bl (decide (i<=j))):=DK fun _ _ _ _ _ _ _ q=>le_int q
theorem HE:OpR X (OV .Gt) (rI0 fun i j=>.bl (decide (j<i))):=DK fun _ _ _ _ _ _ _ q=>gt_int q
theorem Ip:OpR X (OV .GtE) (rI0 fun i j=>.bl (decide (j<=i))):=DK fun _ _ _ _ _ _ _ q=>ge_int q
theorem Gz:OpR X (OV .Is) (fun x y H Q=>y=.non/\Q (.bl (decide (x=.non))) H):=by
 intro pins s σ H x y v u Q I rx ry h;obtain⟨rfl,q⟩:=h;cases ry;refine is_none_gen (F3 I q ?_);cases x <;> first
  | (cases rx;rfl)
  | (obtain⟨t,rfl⟩:=rx;rfl)
theorem aF(b:Ov)(h:op≠.In:=by decide)(h2:op≠.NotIn:=by decide):Qf op b=false:=by
 have e1:(op == CmpOp.In)=false:=by cases op <;> first|rfl|exact absurd rfl h
 have e2:(op == CmpOp.NotIn)=false:=by cases op <;> first|rfl|exact absurd rfl h2
 cases b <;> simp[Qf,e1,e2]
theorem Dy{r:R2}(ho:OpR X (OV op) r)(ha:PE X a ta)(hb:PE X b tb)(hm:Qf op b=false):PE X (.Compare a [op] [b] pos) (tOp r ta tb):=by intro pins s σ H Q I h;exact wpAny_Compare1 (Fh ha hb I h fun v u s2 x y H2 I2 rx ry q=>ho pins s2 σ H2 x y v u Q I2 rx ry q) hm
def Ec(t:TE):TT:=fun σ H Q=>t σ H fun x H'=>∃k,x=.bl k/\Q k H'
theorem t5{r:R2}(ho:OpR X (OV op) r)(ha:PE X a ta)(hb:PE X b tb)(hm:Qf op b=false):PT X (.Compare a [op] [b] pos) (Ec (tOp r ta tb)):=by
 intro pins s σ H Q I h;refine wpAny_isTrue_Compare1 (thn (ha pins s σ H _ I h) fun v s1 ⟨x,H1,I1,r1,q1⟩=>thn (hb pins s1 σ H1 _ I1 q1) fun u s2 ⟨y,H2,I2,r2,q2⟩=>
  thn (ho pins s2 σ H2 x y v u _ I2 r1 r2 q2) fun c s3 ⟨z,H3,I3,r3,k,e,q3⟩=>?_) hm
 subst e;cases r3;exact Pl ⟨H3,I3,q3⟩
noncomputable def Bf(r r':R2)(ta tb tc:TE):TE:=fun σ H Q=>ta σ H fun x H1=>tb σ H1 fun y H2=>r x y H2 fun z H3=>∃k,z=.bl k/\
 (if k=true then tc σ H3 fun w' H4=>r' y w' H4 Q else Q (.bl false) H3)
theorem C2{op':Sv}{r r':R2}(ho:OpR X (OV op) r)(ho':OpR X (OV op') r')(ha:PE X a ta)(hb:PE X b tb)(hc:PE X c tc)
  (hm:lastMarks [op,op'] [b,c]=false:=by with_unfolding_all rfl):PE X (.Compare a [op,op'] [b,c] pos) (Bf r r' ta tb tc):=by
 intro pins s σ H Q I h;refine Compare_chain (thn (ha pins s σ H _ I h) fun v s1 ⟨x,H1,I1,r1,q1⟩=>chain_link (thn (hb pins s1 σ H1 _ I1 q1) fun u s2 ⟨y,H2,I2,r2,q2⟩=>
  thn (ho pins s2 σ H2 x y v u _ I2 r1 r2 q2) fun d s3 ⟨z,H3,I3,r3,k,e,q3⟩=>?_)) hm
 subst e;cases r3;refine Pl ?_;cases k with
 |false=>exact ite_ff ⟨.bl false,H3,I3,rfl,q3⟩
 |true=>exact ite_tt (chain_last (thn (hc pins s3 σ H3 _ I3 q3) fun w' s4 ⟨z',H4,I4,r4,q4⟩=>ho' pins s4 σ H4 y z' u w' Q I4 r2 r4 q4))
noncomputable def G9(K:N7)(x:V)(H:Hp)(k:Bool):Prop:=
 match x with
 | .non=>k=false
 | .bl b=>k=b
 | .int i=>k=(i != 0)
 | .str y=>y.length<=sizeLine/\k=((y.length:Int) != 0)
 | .byt y=>y.size<=sizeLine/\k=((y.size:Int) != 0)
 | .ref p=>(∃xs,SqL K H p xs/\k=!xs.isEmpty)\/(∃xs,SqT K H p xs/\k=!xs.isEmpty)\/∃kvs,H p=some (.dK kvs)/\k=!kvs.isEmpty
 | _=>False
theorem wX{κ:Type}{kvs:List (κ×V)}{vs:List (κ×N5)}(r:KV kvs vs):(!vs.isEmpty)=!kvs.isEmpty:=by cases r <;> rfl
theorem oV{its:List N5}(r:Vals xs its):(!its.toArray.isEmpty)=!xs.isEmpty:=by cases r <;> simp
theorem kT:(sizeLine:Nat)<2 ^ 63:=by rw[sizeLine_eq];decide
theorem Gb:Jq X (fun x H Q=>∃k,G9 X.K x H k/\Q k H):=by
 intro pins s σ H x v Q I rx h;obtain⟨k,e,q⟩:=h;have hl:=kT;have hs:sizeLine=16777216:=sizeLine_eq;cases x with
 |non=>
  cases rx;have e':k=false:=e;subst e';exact truthy_none ⟨H,I,q⟩
 |bl b=>
  cases rx;have e':k=b:=e;subst e';exact Pl ⟨H,I,q⟩
 |int i=>
  obtain⟨t,rfl⟩:=rx;have e':k=(i != 0):=e;subst e';exact PySem.P.truthy_int ⟨H,I,q⟩
 |str y=>
  obtain⟨t,rfl⟩:=rx;obtain⟨hy,e'⟩:y.length<=sizeLine/\k=((y.length:Int) != 0):=e;subst e';exact PySem.P.truthy_str (by lia) ⟨H,I.tok _,q⟩
 |byt y=>
  obtain⟨t,rfl⟩:=rx;obtain⟨hy,e'⟩:y.size<=sizeLine/\k=((y.size:Int) != 0):=e;subst e';exact PySem.W.truthy_bytes (by lia) ⟨H,I.tok _,q⟩
 |ref p=>
  cases rx;have e':(∃xs,SqL X.K H p xs/\k=!xs.isEmpty)\/(∃xs,SqT X.K H p xs/\k=!xs.isEmpty)\/∃kvs,H p=some (.dK kvs)/\k=!kvs.isEmpty:=e;rcases e' with⟨xs,hx,e'⟩|⟨xs,hx,e'⟩|⟨kvs,hx,e'⟩
  ·subst e';obtain⟨its,r,pl,hz⟩:=I.list hx;have hlen:=r.length;exact wpAny_truthy_list pl.isList (by simp only[p_];lia) ⟨H,I.tok _,by rw[oV r];exact q⟩
  ·subst e';obtain⟨its,r,pl,hz⟩:=I.tuple hx;have hlen:=r.length;exact truthy_tuple pl (by simp only[p_];lia) ⟨H,I.tok _,by rw[oV r];exact q⟩
  ·subst e';obtain⟨hz,hS,vs,r,m⟩:kvs.length<=sizeLine/\(p == OY)=false/\∃vs,KV kvs vs/\s.heap.DictOf (bg X.prog X.w) p vs:=I.hok p _ hx;have hlen:kvs.length=vs.length:=Pf r;exact wpAny_truthy_dict hS m (by lia) ⟨H,I.tok _,by rw[wX r];exact q⟩
 | _=>exact(show False from e).elim
theorem Ak(ha:PE X a ta)(he:∀whole,Sl a X.env whole=(do let v <-whole;Tr a.pos;QM [v] (truthy v))) :
  PT X a (fun σ H Q=>ta σ H fun x H'=>∃k,G9 X.K x H' k/\Q k H'):=by
 intro pins s σ H Q I h;exact isTrue_plain (thn (ha pins s σ H _ I h) fun v s1 ⟨x,H1,I1,r1,q1⟩=>Gb pins s1 σ H1 x v Q I1 r1 q1) (he _)
theorem x4:OpR X (Ph .Add) (fun x y H Q=>∃i j,x=.str i/\y=.str j/\i.length+j.length<=sizeLine/\Q (.str (i++j)) H):=by intro pins s σ H x y v u Q I rx ry h;obtain⟨i,j,rfl,rfl,hz,q⟩:=h;obtain⟨t,rfl⟩:=rx;obtain⟨t',rfl⟩:=ry;exact add_str (fun t' tk=>⟨.str (i++j),H,I.tok _,⟨_,rfl⟩,q⟩) hz
theorem vals1{x:V}(r:Vals [x] us):∃u,us=[u]/\RelV x u:=by
 cases r with
 |cons r1 r2=>cases r2;exact⟨_,rfl,r1⟩
theorem vals2{x y:V}(r:Vals [x,y] us):∃u w',us=[u,w']/\RelV x u/\RelV y w':=by
 cases r with
 |cons r1 r2=>
  cases r2 with
  |cons r3 r4=>cases r4;exact⟨_,_,rfl,r1,r3⟩
theorem B3:bp X (.builtin "abs") (fun xs H Q=>∃i,xs=[.int i]/\Q (.int (if i<0 then -i else i)) H):=by intro pins s σ H xs us Q I r h;obtain⟨i,rfl,q⟩:=h;obtain⟨u,rfl,t,rfl⟩:=vals1 r;exact call_abs_int fun u tk=>⟨.int (if i<0 then -i else i),H,I.tok _,⟨_,rfl⟩,q⟩
theorem zj(hc:X.calm=true):bp X (.builtin "max") (fun xs H Q=>∃i j,xs=[.int i,.int j]/\Q (.int (if j > i then j else i)) H):=by
 intro pins s σ H xs us Q I r h;obtain⟨i,j,rfl,q⟩:=h;obtain⟨u,w',rfl,⟨t,rfl⟩,⟨t',rfl⟩⟩:=vals2 r;refine max_two_ints (I.ok.hd hc) fun h' tk k=>⟨_,H,I.kept k,?_,q⟩;by_cases hj:j > i
 ·rw[if_pos hj,if_pos hj];exact⟨_,rfl⟩
 rw[if_neg hj,if_neg hj];exact⟨_,rfl⟩
theorem yV(hc:X.calm=true):bp X (.builtin "min") (fun xs H Q=>∃i j,xs=[.int i,.int j]/\Q (.int (if j<i then j else i)) H):=by
 intro pins s σ H xs us Q I r h;obtain⟨i,j,rfl,q⟩:=h;obtain⟨u,w',rfl,⟨t,rfl⟩,⟨t',rfl⟩⟩:=vals2 r;refine min_two_ints (I.ok.hd hc) fun h' tk k=>⟨_,H,I.kept k,?_,q⟩;by_cases hj:j<i
 ·rw[if_pos hj,if_pos hj];exact⟨_,rfl⟩
 rw[if_neg hj,if_neg hj];exact⟨_,rfl⟩
theorem vi:bp X (.builtin "divmod") (fun xs H Q=>∃i j,xs=[.int i,.int j]/\HY i j/\∀p,H p=none->Q (.ref p) (upd H p (.tup [.int (i/j),.int (i%j)]))):=by intro pins s σ H xs us Q I r h;obtain⟨i,j,rfl,⟨h1,h2⟩,q⟩:=h;obtain⟨u,w',rfl,⟨t,rfl⟩,⟨t',rfl⟩⟩:=vals2 r;refine divmod_int (by lia) ?_ (.inl (RK (by lia)));rw[Ml i (by lia),Mm i (by lia)];have hn:H s.heap.objs.size=none:=I.hok.fresh (b_ _);refine⟨.ref s.heap.objs.size,_,?_,rfl,q _ hn⟩;refine I.laid (fun b o e=>Oe _ e) (b_ _) ⟨by simp only[d_,JY];rw[sizeLine_eq];decide,[.int (i/j) s.toks,.int (i%j) (s.toks+1)],.cons ⟨_,rfl⟩ (.cons ⟨_,rfl⟩ .nil),?_⟩;exact⟨_,Oo s.heap rfl,rfl,0,rfl⟩
end
theorem qI.some_of {o:Option N5}(r:qI (some v) o):∃u,o=some u/\RelV v u:=by
 cases o with
 |none=>exact(show False from r).elim
 |some u=>exact⟨u,rfl,r⟩
structure Room (k:Nat) (A:OB):Prop where
 hd:A.handled=none
 dp:A.depth+3*k+5<recursionLimit
 un:A.units+16*k+200<cLine
 gs:A.guards=some []
theorem Room.mono {j k:Nat}(r:Room k A)(h:j<=k):Room j A:=⟨r.hd,by have:=r.dp;lia,by have:=r.un;lia,r.gs⟩
theorem Room.deeper {k:Nat}(r:Room (k+1) A)(env:Env):Room k (A.deeper env):=
 ⟨r.hd,by have:=r.dp;show A.depth+1+3*k+5<_;lia,by have:=r.un;show A.units+3+16*k+200<_;lia,r.gs⟩
theorem Room.depth {k:Nat}(r:Room k A):A.depth<recursionLimit:=by have:=r.dp;lia
theorem Room.units {k:Nat}(r:Room k A):A.units+64<cLine:=by have:=r.un;lia
def Ju:TA:=fun _ H Q=>Q [] H
def Iu(ta:TE)(tr:TA):TA:=fun σ H Q=>ta σ H fun x H1=>tr σ H1 fun xs H2=>Q (x::xs) H2
section
variable{X:Cx}{e:Ov}{es:List Ov}{te:TE}{t:TA}{pos:Pos}
theorem ko:PA X [] Ju:=fun _ _ _ _ H Q I h=>Calls.spliced_nil ⟨[],H,I,.nil,h⟩
theorem fx(ha:PE X e te)(hr:PA X es t)(hs:Oy (e::es) X.env=(false,OK e X.env)::Oy es X.env:=by rfl):PA X (e::es) (Iu te t):=by intro pos pins s σ H Q I h;rw[hs];show Of _ _ (spliced ((false,OK e X.env)::Qb pos (Oy es X.env))) _ _ s;refine Q8 (thn (ha pins s σ H _ I h) ?_);rintro u s1 ⟨x,H1,I1,r1,q1⟩;exact thn (hr pos pins s1 σ H1 _ I1 q1) fun us s2 ⟨xs,H2,I2,r2,q2⟩=>⟨x::xs,H2,I2,.cons r1 r2,q2⟩
noncomputable def Jd(t:TA):TE:=fun σ H Q=>t σ H fun xs H1=>xs.length<=sizeLine/\∀p,H1 p=none->Q (.ref p) (upd H1 p (.lst xs))
theorem Av(h:PA X es t):PE X (.List es pos) (Jd t):=by intro pins s σ H Q I hq;refine Sn (thn (h pos pins s σ H _ I hq) fun us s1 ⟨xs,H1,I1,r,z,q⟩=>⟨by rw[<-r.length];exact z,?_⟩);have hf:H1 s1.heap.objs.size=none:=I1.hok.fresh (b_ _);refine⟨.ref s1.heap.objs.size,upd H1 s1.heap.objs.size (.lst xs),I1.laid (t':=s1.toks) (fun b u e=>Oe _ e) (b_ _) ?_,rfl,q _ hf⟩;exact⟨z,us,0,r,Oo _ rfl⟩
end
abbrev Sp:=List V->Hp->VK->XK->Prop
abbrev CXT:=List Env->Hp->N9->XK->N5->N9->Prop
structure Env0 (P:Oj) (w:Ot) (K:N7) (mg:Str->Option N5) (base:Ou) (A:OB) (outer:List Env) (s:N9) (H:Hp):Prop where
 frames:A.frames=some outer
 mod:Mod K mg base
 bs:∀b o,base.get? b=some o->s.heap.get? b=some o/\H b=none
 bsz:base.objs.size<=s.heap.objs.size
 qf:s.heap.FunFrames base outer
 frf:∀b∈frs outer,H b=none
 hok:HOk P w H s.heap
 bare:QK s.gens
noncomputable def CE(outer:List Env)(P:Oj)(w:Ot)(H:Hp)(s:N9)(Q:VK)(u:N5)(s':N9):Prop:=
 ∃v H',s'.os=s.os/\QK s'.gens/\Un (frs outer) [] H H' s.heap s'.heap/\HOk P w H' s'.heap/\RelV v u/\Q v H'
noncomputable def CR(CX:CXT)(outer:List Env)(P:Oj)(w:Ot)(H:Hp)(s:N9)(Q:VK)(E:XK)(r:Result)(s':N9):Prop:=
 match r with
 | .ok (.ret u)=>CE outer P w H s Q u s'
 | .ok _=>False
 | .error e=>CX outer H s E e s'
structure FnOk (P:Oj) (w:Ot) (K:N7) (mg:Str->Option N5) (base:Ou) (CX:CXT) (k:Nat) (f:N8) (fd:OA) (ps:List Str) (sp:Sp):Prop where
 len:∀vs H Q E,sp vs H Q E->vs.length=ps.length
 run:∀(A:OB) (outer:List Env) (s:N9) (H:Hp) (args:Args) (us:List N5) (vs:List V) (Q:VK) (E:XK),Room k A->Env0 P w K mg base A outer s H->RT s fd args (ps.zip us)->Vals vs us->sp vs H Q E->
  Qh (Oq P w) A (.call (.ref f) args) (CR CX outer P w H s Q E) s
variable {CX:CXT}{base:Ou}{mg:Str->Option N5}{ps:List Str}
theorem FnOk.imp {k:Nat}{f:N8}{fd:OA}{sp sp':Sp}(F:FnOk P w K mg base CX k f fd ps sp)
  (h:∀vs H Q E,sp' vs H Q E->sp vs H Q E):FnOk P w K mg base CX k f fd ps sp':=
 ⟨fun vs H Q E q=>F.len vs H Q E (h _ _ _ _ q),fun A outer s H args us vs Q E hr he hb hv hs=>F.run A outer s H args us vs Q E hr he hb hv (h _ _ _ _ hs)⟩
section
variable{X:Cx}{pins:List (N8×Obj)}{σ:St}{H:Hp}{s s':N9}
theorem Inv.Jn (I:Inv X pins σ H s):Env0 X.prog X.w X.K X.mg X.base X.A X.stack s H:=
 ⟨I.ok.frames,I.ok.mod,I.bs,m_ I.ok.bsz I.sz,I.stack,I.xy,I.hok,I.bare⟩
theorem Inv.after {Q:VK}(I:Inv X pins σ H s)(h:CE X.stack X.prog X.w H s Q u s'):EP X pins σ Q u s':=by obtain⟨v,H',os,bare,un,hok,r,q⟩:=h;obtain⟨hh,g,d,t,os'⟩:=s';obtain rfl:os'=s.os:=os;exact⟨v,H',I.call (h':=hh) (g':=g) (d':=d) (t':=t) (ch:=[]) un hok bare (fun b z=>absurd z (by simp)),r,q⟩
end
noncomputable def Bw(sp:Sp)(dvs:List V)(E:XK)(t:TA):TE:=fun σ H Q=>t σ H fun vs H1=>sp (vs++dvs) H1 Q E
noncomputable def Binds(K:N7)(fd:OA)(ps:List Str)(ds:List N5):Prop:=
 ∀(s:N9) (us:List N5),K.In s.heap->(us++ds).length=ps.length->RT s fd ⟨us,[]⟩ (ps.zip (us++ds))
theorem Binds.all {fd:OA}(h:∀us:List N5,us.length=ps.length->Ue fd ⟨us,[]⟩=pure (ps.zip us)):Binds K fd ps []:=fun s us _ hl=>by rw[D_]at hl ⊢;exact .of_eq (h us hl)
noncomputable def Passes(CX:CXT)(X:Cx)(E:XK):Prop:=∀(pins:List (N8×Obj)) (σ:St) (H:Hp) (s:N9) (e:N5) (s':N9),Inv X pins σ H s->CX X.stack H s E e s'->X.xe e s'
variable {vs:List V}
section
variable{X:Cx}{CX:CXT}{k:Nat}{f C:N8}{fd:OA}{ps:List Str}{sp:Sp}{dvs:List V}{ds:List N5}{E:XK}{x m:Str}{p pos apos:Pos}{e o:Ov}{es:List Ov}{ta:TE}{t:TA}
theorem Fz{Q:VK}(F:FnOk X.prog X.w X.K X.mg X.base CX k f fd ps sp)(hr:Room k X.A)(hb:Binds X.K fd ps ds)(hd:Vals dvs ds)(hx:Passes CX X E)
  (I:Inv X pins σ H s) (r:Vals vs us) (h:sp (vs++dvs) H Q E):Of (Oq X.prog X.w) X.A (call (.ref f) us) (EP X pins σ Q) X.xe s:=by
 have r2:Vals (vs++dvs) (us++ds):=r.append hd;have hl:(us++ds).length=ps.length:=by rw[<-r2.length];exact F.len _ _ _ _ h
 refine wpAny_call (PY (F.run X.A X.stack s H ⟨us,[]⟩ (us++ds) (vs++dvs) Q E hr I.Jn (hb s us I.kIn hl) r2 h) fun r s' hq=>?_);cases r with
 |error e=>exact hx pins σ H s e s' I hq
 |ok fl=>
  cases fl with
  |ret u=>exact I.after hq
  |next=>exact Oz hq
  |brk=>exact Oz hq
  |cont=>exact Oz hq
theorem CA(F:FnOk X.prog X.w X.K X.mg X.base CX k f fd ps sp)(hr:Room k X.A)(hg:Gl X x)(hm:X.mg x=some (.ref f))(hk:Qu X.K (.ref f)=true)(hb:Binds X.K fd ps ds)(hd:Vals dvs ds)(hx:Passes CX X E)
  (ha:PA X (e::es) t) (hdb:(x ==("__debug__":Str))=false:=by decide) (he:Oy (e::es) X.env=(false,OK e X.env)::Oy es X.env:=by rfl) (hpl:(Qb pos (Oy es X.env)).any (·.1)=false:=by rfl) :
  PE X (.Call (.Name x p) (e::es) [] pos) (Bw sp dvs E t):=by
 intro pins s σ H Q I h;refine P7 (xK I hg hm ?_ hdb);refine PySem.W.callWith_K (h₀:=X.base) I.ok.mod.kin hk (thn (ha pos pins s σ H _ I h) fun us s1 ⟨vs,H1,I1,r,q⟩=>⟨I1.kIn,?_⟩) he hpl;exact Fz F hr hb hd hx I1 r q
end
structure FnScope (N P:List Str) (sc:O4):Prop where
 kind:sc.kind=.function
 co:sc.isCoroutine=false
 gen:sc.isGenerator=false
 nd:N.Nodup
 pre:N.take P.length=P
 par:∀x∈P,sc.names.lookup x=some .local\/sc.names.lookup x=some .cell
 nofree:∀y∈sc.names,y.2≠.free
theorem rm{kindOf:Str->Option PZ}{x:Str}:∀{binds:List (Str×N5)}{m:Str->Option N5},(∀v,(x,v) ∉ binds)->R6 kindOf binds m x=m x
 | [],_,_=>rfl
 | (n,v)::r,m,h=>by
  unfold R6;rw[rm fun w hw=>h w (j_ _ hw)];split
  ·have:x≠n:=by rintro rfl;exact h v n_
   simp[this]
  rfl
theorem rg{kindOf:Str->Option PZ}{x:Str}:∀{binds:List (Str×N5)}{m:Str->Option N5},(∀v,(x,v) ∉ binds)->R7 kindOf binds m x=m x
 | [],_,_=>rfl
 | (n,v)::r,m,h=>by
  unfold R7;rw[rg fun w hw=>h w (j_ _ hw)];split
  ·rfl
  have:x≠n:=by rintro rfl;exact h v n_
  simp[this]
theorem rC{kindOf:Str->Option PZ}{x:Str}{v:N5}:∀{P:List Str}{vs:List N5}{i:Nat}{m:Str->Option N5},P.Nodup->P[i]?=some x->vs[i]?=some v->kindOf x=some .local->
  R6 kindOf (P.zip vs) m x=some v
 | [],_,_,_,_,h,_,_=>by simp at h
 | _::_,[],_,_,_,_,h,_=>by simp at h
 |p::P,w::vs,0,m,nd,h1,h2,hk=>by simp at h1 h2;subst h1;subst h2;show R6 kindOf ((p,w)::P.zip vs) m p=_;unfold R6;rw[rm fun v hv=>(D'.mp nd).1 (MN hv).1,if_pos hk];simp
 |p::P,w::vs,i+1,m,nd,h1,h2,hk=>by show R6 kindOf ((p,w)::P.zip vs) m x=_;unfold R6;exact rC (i:=i) (D'.mp nd).2 (by simpa using h1) (by simpa using h2) hk
theorem qX{kindOf:Str->Option PZ}{x:Str}{v:N5}:∀{P:List Str}{vs:List N5}{i:Nat}{m:Str->Option N5},P.Nodup->P[i]?=some x->vs[i]?=some v->kindOf x≠some .local->
  R7 kindOf (P.zip vs) m x=some v
 | [],_,_,_,_,h,_,_=>by simp at h
 | _::_,[],_,_,_,_,h,_=>by simp at h
 |p::P,w::vs,0,m,nd,h1,h2,hk=>by simp at h1 h2;subst h1;subst h2;show R7 kindOf ((p,w)::P.zip vs) m p=_;unfold R7;rw[rg fun v hv=>(D'.mp nd).1 (MN hv).1,if_neg hk];simp
 |p::P,w::vs,i+1,m,nd,h1,h2,hk=>by show R7 kindOf ((p,w)::P.zip vs) m x=_;unfold R7;exact qX (i:=i) (D'.mp nd).2 (by simpa using h1) (by simpa using h2) hk
def start(N:List Str)(vs:List V):St:=vs.map some++Kz (N.length-vs.length) none
noncomputable def xr(CX:CXT)(P:Oj)(w:Ot)(K:N7)(mg:Str->Option N5)(base:Ou)(N:List Str)(qual:Str)(scope:O4)(f:N8)(cd:N5)(A:OB)(outer:List Env)(s:N9)(H:Hp)(E:XK):Cx where
 prog:=P
 w:=w
 K:=K
 mg:=mg
 base:=base
 A:=A.deeper (QO qual scope s.heap.objs.size f cd)
 N:=N
 s₀:=s
 H₀:=H
 env:=QO qual scope s.heap.objs.size f cd
 outer:=outer
 stack:=QO qual scope s.heap.objs.size f cd::outer
 ex:=[]
 calm:=true
 fn:=fun _=>true
 pn:=[]
 xe:=fun e s'=>Of (Oq P w) (A.deeper (QO qual scope s.heap.objs.size f cd)) (leaving (QO qual scope s.heap.objs.size f cd) e) (fun _ s''=>CX outer H s E e s'') (fun e' s''=>CX outer H s E e' s'') s'
theorem vR{sc:O4}{n:Nat}(h:sc.names.lookup x=some .cell):∃c,(TM n sc.names []).lookup x=some c:=by have q:=RL sc.names n [] (.inl h);exact Option.isSome_iff_exists.mp q
theorem zf{qual:Str}{scope:O4}{f:N8}{cd:N5}{outer:List Env}{s1:N9}{E:XK}
  (S:FnScope N ps scope) (hd:A.handled=none) (e0:Env0 P w K mg base A outer s H) (hl:vs.length=ps.length) (r:Vals vs us)
  (x:InCallC s s.heap.objs.size (R6 (QO qual scope s.heap.objs.size f cd).kindOf (ps.zip us) fun _=>none) (TM (s.heap.objs.size+1) scope.names []) (R7 (QO qual scope s.heap.objs.size f cd).kindOf (ps.zip us) fun _=>none) s1) :
  Inv (xr CX P w K mg base N qual scope f cd A outer s H E) [] (start N vs) H s1:=by
 have hpl:ps.length<=N.length:=by have:=congrArg Mh S.pre;rw[G_]at this;lia
 obtain⟨h1,tk,rfl,hk⟩:=x.done;have noA:∀b:N8,b ∉ (xr CX P w K mg base N qual scope f cd A outer s H E).ex:=fun b z=>absurd (show b∈([]:List N8)from z) (by simp)
 refine⟨⟨e0.mod,S.kind,rfl,rfl,b_ _,fun y z c h1 h2=>?_,fun y hy=>?_,fun y c _ h=>?_,fun _=>hd,Around.frames_deeper e0.frames,.inr ⟨rfl,rfl⟩,fun b z=>absurd z (noA b),e0.bs,e0.bsz,fun b _ _=>noA b,fun b z=>absurd z (noA b),e0.qf,e0.frf⟩,
  rfl,e0.bare,Un.kept hk,⟨_,x.toInCall.ns,fun i y v h1 h2 h3=>?_⟩,fun y c h=>⟨_,x.cell y c h⟩,e0.hok.fresh (b_ _),fun y c h=>?_,fun p hp=>absurd (show p∈([]:List (N8×Obj))from hp) (by simp),e0.hok.kept hk,?_⟩
 ·exact name_of_addr x.apart (Pb h1) (Pb h2)
 ·have hy:scope.names.lookup y=some .cell\/scope.names.lookup y=some .free:=hy;rcases hy with hy|hy
  ·exact vR hy
  exact absurd rfl (S.nofree _ (Pb hy))
 ·exact Jy (x.above y c (Pb h))
 ·have hi:i<vs.length:=by
   unfold start at h2;by_cases hi:i<vs.length
   ·exact hi
   rw[Kh (by simpa using hi)]at h2;rw[List.getElem?_replicate]at h2;split at h2 <;> cases h2
  have ha:vs[i]?=some v:=by
   unfold start at h2;rw[KQ (by simpa using hi),z_]at h2;cases e:vs[i]? with
   |none=>rw[e]at h2;cases h2
   |some a=>rw[e]at h2;cases h2;rfl
  obtain⟨u,hu,rv⟩:=r.get ha;have hp:ps[i]?=some y:=by rw[<-S.pre,List.getElem?_take_of_lt (by lia)];exact h1
  have ndP:ps.Nodup:=by rw[<-S.pre];exact S.nd.sublist (Lj _ _)
  refine⟨u,rv,?_⟩;rcases S.par y (F' hp)with k|k
  ·exact .inl ⟨k,rC ndP hp hu k⟩
  obtain⟨c,e⟩:=vR (n:=s.heap.objs.size+1) k;refine .inr ⟨.inl k,c,e,?_⟩;have q:=x.cell y c e;rw[qX ndP hp hu (by show scope.names.lookup y≠_;rw[k];decide)]at q;exact q
 ·exact e0.hok.fresh (Jy (x.above y c (Pb h)))
 unfold start;show _=N.length;rw[g_,a_,List.length_replicate];lia
theorem Io{k:Nat}{f:N8}{name qual:Str}{params:Arguments}{scope:O4}{dV kV doc pm cdv ct oc:N5}{an od:Option N8}
  {osl:Array (Option N5)}{N ps:List Str}{sp:Sp} (lk:K.lookup f=some ⟨oc,od,.func (PD name qual params body scope dV kV doc pm an cdv ct),osl⟩) (hcd:QY K cdv qual=true) (S:FnScope N ps scope)
  (len:∀vs H Q E,sp vs H Q E->vs.length=ps.length)
  (hbody:∀(A:OB) (outer:List Env) (s:N9) (H:Hp) (vs:List V) (Q:VK) (E:XK),Room k (A.deeper (QO qual scope s.heap.objs.size f cdv))->sp vs H Q E->
   ∃t,PSs (xr CX P w K mg base N qual scope f cdv A outer s H E) body t/\t { nx:=fun _ H'=>Q .non H',rt:=Q} (start N vs) H) :
  FnOk P w K mg base CX (k+1) f (PD name qual params body scope dV kV doc pm an cdv ct) ps sp:=by
 refine⟨len,fun A outer s H args us vs Q E hr e0 hb r hsp=>?_⟩;have hl:=len _ _ _ _ hsp;have KX:K.In s.heap:=e0.mod.kin.keeps fun b o e=>(e0.bs b o e).1;have lim:s.heap.NoLimit:=e0.mod.nolimit.keeps fun b o e=>(e0.bs b o e).1;have hkind:∀y∈ps.zip us,scope.names.lookup y.1=some .local\/(scope.names.lookup y.1=some .cell/\((TM (s.heap.objs.size+1) scope.names []).lookup y.1).isSome=true):=fun⟨n,v⟩ hy=>by
  rcases S.par n (MN hy).1 with q|q
  ·exact .inl q
  exact .inr ⟨q,RL _ _ _ (.inl q)⟩
 refine codeAny_call_function hr.depth (KX _ _ lk) rfl S.co S.gen rfl (PySem.W.codeRec_of KX hcd) (hb _ _ _ _ ?_);refine wpAny_newFunctionEnv_cells S.kind hkind fun env he s1 x=>?_;subst he;refine⟨lim.keeps x.toInCall.keep,codeAny_func ?_⟩;obtain⟨t,ht,hq⟩:=hbody A outer s H vs Q E (hr.deeper _) hsp;have I:Inv (xr CX P w K mg base N qual scope f cdv A outer s H E) [] (start N vs) H s1:=zf S hr.hd e0 hl r x;refine OG (ht [] s1 (start N vs) H _ I hq) (fun fl s' hs=>?_) fun e s' hs=>hs;have fin:∀{σ':St}{H':Hp}{v:V}{u:N5},Inv (xr CX P w K mg base N qual scope f cdv A outer s H E) [] σ' H' s'->RelV v u->Q v H'->CE outer P w H s Q u s':=
  fun{σ' H' v u} J rv q=>⟨v,H',J.os,J.bare,J.base,J.hok,rv,q⟩
 cases fl with
 |ret u=>
  obtain⟨v,σ',H',J,rv,q⟩:=hs;exact fin J rv q
 |next=>
  obtain⟨σ',H',J,q⟩:=hs;exact fin (v:=V.non) (u:=OL) J rfl q
 |brk=>
  obtain⟨_,_,_,q⟩:=hs;exact Oz q
 |cont=>
  obtain⟨_,_,_,q⟩:=hs;exact Oz q
section
variable{X:Cx}{x:Str}{p pos:Pos}{e:Ov}{es:List Ov}{t:TA}{id T:String}{r:List V->Hp->VK->Prop}
def tCB(r:List V->Hp->VK->Prop)(t:TA):TE:=fun σ H Q=>t σ H fun vs H1=>r vs H1 Q
theorem pO(hc:bp X (.builtin id) r)(hg:Gl X x)(hm:X.mg x=none)(hv:Pz x=some (.builtin id))(ha:PA X (e::es) t)(hn:x≠"__name__":=by decide)(hdb:(x ==("__debug__":Str))=false:=by decide)
  (he:Oy (e::es) X.env=(false,OK e X.env)::Oy es X.env:=by rfl) (hpl:(Qb pos (Oy es X.env)).any (·.1)=false:=by rfl):PE X (.Call (.Name x p) (e::es) [] pos) (tCB r t):=by
 intro pins s σ H Q I h;refine P7 (j9 I hg hm hv ?_ hn hdb);exact S8 (thn (ha pos pins s σ H _ I h) fun us s1 ⟨vs,H1,I1,r1,q1⟩=>hc pins s1 σ H1 vs us Q I1 r1 q1) he hpl
theorem qQ(hc:bp X (.type T) r)(hg:Gl X x)(hm:X.mg x=none)(hv:Pz x=some (.type T))(ha:PA X (e::es) t)(hn:x≠"__name__":=by decide)(hdb:(x ==("__debug__":Str))=false:=by decide)
  (he:Oy (e::es) X.env=(false,OK e X.env)::Oy es X.env:=by rfl) (hpl:(Qb pos (Oy es X.env)).any (·.1)=false:=by rfl):PE X (.Call (.Name x p) (e::es) [] pos) (tCB r t):=by
 intro pins s σ H Q I h;refine P7 (j9 I hg hm hv ?_ hn hdb);exact PC (thn (ha pos pins s σ H _ I h) fun us s1 ⟨vs,H1,I1,r1,q1⟩=>hc pins s1 σ H1 vs us Q I1 r1 q1) he hpl
end
end L2
namespace HT
open PySem PyProof.Rows
section
variable{prog:Oj}{w:Ot}{A:OB}{E:N5->N9->Prop}{s:N9}
theorem Cr{t b:N8}{vs ws:List N5}{Q:N5->N9->Prop}(ht:UQ s.heap t vs.toArray)(hb:UQ s.heap b ws.toArray)(hv:vs≠[])
  (h1:ws=[]->Q (.ref t) s) (h2:ws≠[]->Q (.ref s.heap.objs.size) {s with heap:=s.heap.push { cls:=.type "tuple",data:=.seq (vs++ws).toArray} })
  (hsz:vs.length+ws.length<=sizeLine):Of (Oq prog w) A (Ph .Add (.ref t) (.ref b)) Q E s:=by
 obtain⟨⟨cls,dd,data,sl⟩,ho,hc,n,hd⟩:=id ht;obtain⟨⟨cls2,dd2,data2,sl2⟩,ho2,hc2,n2,hd2⟩:=id hb;simp only at hc hd hc2 hd2;subst hc hd hc2 hd2;have e:vs.toArray++ws.toArray=(vs++ws).toArray:=by simp
 by_cases hw:ws=[]
 ·exact So ⟨_,ho,rfl⟩ ⟨_,ho2,rfl⟩ Rv Se QC Qv (Qo _ _)
   (tuple_addW1 t b vs.toArray ws.toArray n n2 dd dd2 sl sl2 (by simpa using hv) (by simp[hw])) ⟨ho,ho2,h1 hw⟩
 refine So ⟨_,ho,rfl⟩ ⟨_,ho2,rfl⟩ Rv Se QC Qv (Qo _ _)
  (tuple_addW2 t b vs.toArray ws.toArray n n2 dd dd2 sl sl2 (by simpa using hv) (by simpa using hw) (by rw[p_,p_];exact hsz)) ⟨ho,ho2,?_⟩
 rw[e];exact h2 hw
noncomputable def sIx(n d:Nat):Option Int->Nat
 |none=>d
 |some v=>if v<0 then(v+(n:Int)).toNat else min v.toNat n
end
end HT
namespace L2
open PySem PySem.Spec PyProof.Rows
abbrev TO:=St->Hp->(Option Int->Hp->Prop)->Prop
noncomputable def PO(X:Cx)(e:Option Ov)(t:TO):Prop:=
 ∀(pins:List (N8×Obj)) (s:N9) (σ:St) (H:Hp) (Q:Option Int->Hp->Prop),Inv X pins σ H s->t σ H Q->
  Of (Oq X.prog X.w) X.A (evalPart e X.env) (fun u s'=>∃o H',Inv X pins σ H' s'/\IsPart u o/\Q o H') X.xe s
def DH:TO:=fun _ H Q=>Q none H
def HP(t:TE):TO:=fun σ H Q=>t σ H fun x H1=>∃i,x=.int i/\Q (some i) H1
theorem intsAre_of{ns:List Int}:∀{us:List N5},Vals (ns.map V.int) us->QZ us ns:=by
 induction ns with
 |nil=>intro us r;rw[LG]at r;cases r;exact .nil
 |cons n ns ih=>
  intro us r;rw[f']at r;cases r with
  |cons r1 r2=>
   obtain⟨t,e⟩:=r1;subst e;exact .cons n t (ih r2)
section
variable{X:Cx}{e:Ov}{te:TE}{lo hi:Option Ov}{tl th:TO}{pos p2:Pos}
theorem DY:PO X none DH:=by intro pins s σ H Q I h;rw[TY];exact Oa ⟨none,H,I,.none,h⟩
theorem Cs(h:PE X e te):PO X (some e) (HP te):=by intro pins s σ H Q I hw;rw[evalPart_some];refine thn (h pins s σ H _ I hw) ?_;rintro u s1 ⟨x,H1,I1,r1,q1⟩;obtain⟨i,rfl,q⟩:=q1;obtain⟨t,rfl⟩:=r1;exact⟨some i,H1,I1,.int i t,q⟩
noncomputable def SlR(X:Cx)(r:V->Option Int->Option Int->Hp->VK->Prop):Prop:=
 ∀(pins:List (N8×Obj)) (s:N9) (σ:St) (H:Hp) (x:V) (v vl vu:N5) (lo hi:Option Int) (sl:N8) (Q:VK),Inv X pins σ H s->RelV x v->s.heap.IsSliceOf sl vl vu .none->IsPart vl lo->IsPart vu hi->r x lo hi H Q->
  ∃T id,typeLookup (.type T) "__getitem__"=pure (some (.builtin id))/\s.TypeIs v T/\Of (Oq X.prog X.w) X.A (RU v (.ref sl)) (EP X pins σ Q) X.xe s
noncomputable def tSl(r:V->Option Int->Option Int->Hp->VK->Prop)(te:TE)(tl th:TO):TE:=fun σ H Q=>te σ H fun x H1=>tl σ H1 fun l H2=>th σ H2 fun u H3=>r x l u H3 Q
theorem As{r:V->Option Int->Option Int->Hp->VK->Prop}(hr:SlR X r)(he:PE X e te)(hl:PO X lo tl)(hu:PO X hi th):PE X (.Subscript e (.Slice lo hi none p2) pos) (tSl r te tl th):=by intro pins s σ H Q I h;refine S9 (thn (he pins s σ H _ I h) ?_);rintro v s1 ⟨x,H1,I1,r1,q1⟩;refine wpAny_Slice (thn (hl pins s1 σ H1 _ I1 q1) fun vl s2 ⟨l,H2,I2,pl,q2⟩=>thn (hu pins s2 σ H2 _ I2 q2) ?_);rintro vu s3 ⟨u,H3,I3,pu,q3⟩;rw[TY];refine Oa ?_;have I4:Inv X pins σ H3 {s3 with heap:=s3.heap.push { cls:=.type "slice",data:=.fields #[vl,vu,.none] } }:=I3.kept (t':=s3.toks) fun b ob q=>Oe _ q;obtain⟨T,id,hT,ht,hg⟩:=hr pins {s3 with heap:=s3.heap.push { cls:=.type "slice",data:=.fields #[vl,vu,.none] } } σ H3 x v vl vu l u s3.heap.objs.size Q I4 r1 (U4 ..) pl pu q3;show Of (Oq X.prog X.w) X.A (QG e (.Slice lo hi none p2) v (.ref s3.heap.objs.size)) (EP X pins σ Q) X.xe {s3 with heap:=s3.heap.push { cls:=.type "slice",data:=.fields #[vl,vu,.none] } };exact tail_any (ops:=[.ref s3.heap.objs.size,v]) ht hT hg (by with_unfolding_all rfl)
noncomputable def qH(xs:List V)(lo hi:Option Int):List V:=(xs.drop (HT.sIx xs.length 0 lo)).take (HT.sIx xs.length xs.length hi-HT.sIx xs.length 0 lo)
theorem uz(xs:List V)(lo hi:Option Int):(qH xs lo hi).length<=xs.length:=by unfold qH;rw[G_,JL];lia
noncomputable def Hq(K:N7):R2:=fun x y H Q=>∃a b xs ys,x=.ref a/\y=.ref b/\SqT K H a xs/\SqT K H b ys/\xs≠[]/\xs.length+ys.length<=sizeLine/\
 (ys=[]->Q (.ref a) H)/\(ys≠[]->∀p,H p=none->Q (.ref p) (upd H p (.tup (xs++ys))))
theorem Vals.tS {xs:List V}{us:List N5}(r:Vals xs us):us=[]↔xs=[]:=by
 cases r with
 |nil=>simp
 |cons _ _=>simp
theorem D3:OpR X (Ph .Add) (Hq X.K):=by intro pins s σ H x y v u Q I rx ry h;obtain⟨a,b,xs,ys,rfl,rfl,ha,hb,hx,hz,q1,q2⟩:=h;cases rx;cases ry;obtain⟨its,r1,p1,_⟩:=I.tuple ha;obtain⟨its2,r2,p2,_⟩:=I.tuple hb;refine HT.Cr p1 p2 (fun z=>hx (r1.tS.mp z)) (fun z=>⟨.ref a,H,I,rfl,q1 (r2.tS.mp z)⟩) (fun z=>?_) (by rw[<-r1.length,<-r2.length];exact hz);refine⟨.ref s.heap.objs.size,_,I.laid (t':=s.toks) (o:=.tup (xs++ys)) (fun b ob q=>Oe _ q) (b_ _) ?_,rfl,q2 (fun w=>z (r2.tS.mpr w)) _ (I.hok.fresh (b_ _))⟩;exact⟨by rw[g_];exact hz,_,r1.append r2,U5 _ _⟩
theorem nL:bp X (.type "tuple") (fun xs H Q=>∃a ys,xs=[.ref a]/\SqT X.K H a ys/\Q (.ref a) H):=by intro pins s σ H xs us Q I r h;obtain⟨a,ys,rfl,ha,q⟩:=h;obtain⟨u,rfl,ru⟩:=vals1 r;cases ru;obtain⟨its,_,p1,_⟩:=I.tuple ha;exact S_ (items:=its.toArray) p1 ⟨.ref a,H,I,rfl,q⟩
end
noncomputable def ixN(n:Nat)(i:Int):Option Nat:=if 0<=i then(if i<n then some i.toNat else none)else if -(n:Int)<=i then some (i+n).toNat else none
variable {α:Type}
def atI(xs:List α)(i:Int):Option α:=(ixN xs.length i).bind fun j=>xs[j]?
variable {n:Nat}
theorem tH{i:Int}{j:Nat}(h:ixN n i=some j):seqIndex? i n=some j/\j<n/\-(n:Int)<=i/\i<n:=by
 unfold ixN at h;by_cases h0:0<=i
 ·rw[if_pos h0]at h;by_cases h1:i<n
  ·rw[if_pos h1]at h;have e:i.toNat=j:=I_ h;exact⟨by rw[SJ h0 h1,e],by lia,by lia,h1⟩
  rw[if_neg h1]at h;cases h
 rw[if_neg h0]at h;by_cases h1:-(n:Int)<=i
 ·rw[if_pos h1]at h;have e:(i+n).toNat=j:=I_ h;exact⟨by rw[Sr (by lia) h1,e],by lia,h1,by lia⟩
 rw[if_neg h1]at h;cases h
theorem sf{xs:List α}{i:Int}{v:α}(h:atI xs i=some v):∃j,seqIndex? i xs.length=some j/\xs[j]?=some v/\j<xs.length/\-(xs.length:Int)<=i/\i<xs.length:=by
 unfold atI at h;cases e:ixN xs.length i with
 |none=>rw[e]at h;cases h
 |some j=>
  rw[e]at h;obtain⟨h1,h2,h3,h4⟩:=tH e;exact⟨j,h1,h,h2,h3,h4⟩
theorem cH{xs:List α}{j:Nat}{v:α}(h:xs[j]?=some v):atI xs (j:Int)=some v:=by
 have hj:j<xs.length:=(gV.mp h).1;have e:ixN xs.length (j:Int)=some j:=by unfold ixN;rw[if_pos (by lia),if_pos (by lia)];simp
 unfold atI;rw[e];exact h
def xS(b:Ov):Prop:=∀o i,Q5 b false o i=UN [o,i] (RU o i)
noncomputable def IxR(X:Cx)(r:R2):Prop:=
 ∀(value slice:Ov) (pins:List (N8×Obj)) (s:N9) (σ:St) (H:Hp) (x y:V) (v u:N5) (Q:VK),Inv X pins σ H s->RelV x v->RelV y u->r x y H Q->
  Q5 slice false v u=UN [v,u] (RU v u)->Of (Oq X.prog X.w) X.A (QG value slice v u) (EP X pins σ Q) X.xe s
noncomputable def MtR(X:Cx)(id:String)(r:V->List V->Hp->VK->Prop):Prop:=
 ∀(pins:List (N8×Obj)) (s:N9) (σ:St) (H:Hp) (x:V) (xs:List V) (v:N5) (us:List N5) (Q:VK),Inv X pins σ H s->RelV x v->Vals xs us->r x xs H Q->
  Of (Oq X.prog X.w) X.A (call (.builtin id) (v::us)) (EP X pins σ Q) X.xe s
variable {H:Hp}{its its':List N5}{pins:List (N8×Obj)}{s:N9}{σ:St}
section
variable{X:Cx}{a b:Ov}{ta tb:TE}{pos:Pos}
theorem IxR.or {r r':R2}(h:IxR X r)(h':IxR X r'):IxR X (fun x y H Q=>r x y H Q\/r' x y H Q):=by
 intro value slice pins s σ H x y v u Q I rx ry q hs;rcases q with q|q
 ·exact h value slice pins s σ H x y v u Q I rx ry q hs
 exact h' value slice pins s σ H x y v u Q I rx ry q hs
theorem Eu{r:R2}(hr:IxR X r)(ha:PE X a ta)(hb:PE X b tb)(hs:xS b):PE X (.Subscript a b pos) (tOp r ta tb):=by intro pins s σ H Q I h;exact S9 (Fh ha hb I h fun v u s2 x y H2 I2 rx ry q=>hr a b pins s2 σ H2 x y v u Q I2 rx ry q (hs _ _))
noncomputable def HA(K:N7):R2:=fun x y H Q=>∃p xs i v,x=.ref p/\y=.int i/\SqL K H p xs/\atI xs i=some v/\Q v H
noncomputable def Hv(K:N7):R2:=fun x y H Q=>∃p xs i v,x=.ref p/\y=.int i/\SqT K H p xs/\atI xs i=some v/\Q v H
noncomputable def Ih:R2:=fun x y H Q=>∃z i c,x=.str z/\y=.int i/\z.length<=sizeLine/\atI z.cps.toList i=some c/\Q (.str ⟨#[c]⟩) H
theorem y3:IxR X (HA X.K):=by
 intro value slice pins s σ H x y v u Q I rx ry h hs;obtain⟨p,xs,i,z,rfl,rfl,hq,he,q⟩:=h;cases rx;obtain⟨t,rfl⟩:=ry;obtain⟨its,r,pl,hz⟩:=I.list hq;obtain⟨j,h1,h2,h3,h4,h5⟩:=sf he;obtain⟨w,ew,rw'⟩:=r.get h2;have hl:=r.length;have hn:=kT;have fin:EP X pins σ Q w s:=⟨z,H,I,rw',q⟩;by_cases h0:0<=i
 ·have hj:i.toNat=j:=by rw[SJ h0 h5]at h1;exact I_ h1
  exact item_listR pl.isList h0 (by lia) (by rw[hj];simpa using ew) fin hs
 have hj:(i+(its.toArray.size:Int)).toNat=j:=by rw[Sr (by lia) h4]at h1;rw[p_,<-hl];exact I_ h1
 exact RM (x:=w) pl.isList.typeIs slot_list_getitem.lookup
  (wpAny_getItem_list_neg (Q:=fun r s'=>r=w/\EP X pins σ Q r s') pl.isList (by lia) (by rw[p_] <;> lia) (by lia) (by rw[hj];simpa using ew) ⟨rfl,fin⟩) hs
theorem ES:IxR X (Hv X.K):=by
 intro value slice pins s σ H x y v u Q I rx ry h hs;obtain⟨p,xs,i,z,rfl,rfl,hq,he,q⟩:=h;cases rx;obtain⟨t,rfl⟩:=ry;obtain⟨its,r,pl,hz⟩:=I.tuple hq;obtain⟨j,h1,h2,h3,h4,h5⟩:=sf he;obtain⟨w,ew,rw'⟩:=r.get h2;have hl:=r.length;have hn:=kT;have fin:EP X pins σ Q w s:=⟨z,H,I,rw',q⟩;exact RM (x:=w) pl.typeIs slot_tuple_getitem.lookup
  (getItem_tuple (j:=j) (Q:=fun r s'=>r=w/\EP X pins σ Q r s') pl (by lia) (by lia) (by rw[p_,<-hl];exact h1) (by simpa using ew) ⟨rfl,fin⟩) hs
theorem AB:IxR X Ih:=by
 intro value slice pins s σ H x y v u Q I rx ry h hs;obtain⟨z,i,c,rfl,rfl,hz,he,q⟩:=h;obtain⟨t,rfl⟩:=rx;obtain⟨t',rfl⟩:=ry;obtain⟨j,h1,h2,h3,h4,h5⟩:=sf he;have hl:z.cps.toList.length=z.length:=by simp[Str.length]
 rw[hl]at h1 h4 h5;have hn:=kT;exact tail_any (typeIs_str s z t) slot_str_getitem.lookup (getItem_str (c:=c) (by have e1:decide (i < -(2 ^ 63:Int))=false:=decide_eq_false (by lia);have e2:decide (i>=2 ^ 63)=false:=decide_eq_false (by lia);rw[e1,e2,Bool.or_false]) (by rw[h1];simpa using h2) ⟨.str ⟨#[c]⟩,H,I.tok _,⟨_,rfl⟩,q⟩) hs
def rIx(K:N7):R2:=fun x y H Q=>HA K x y H Q\/Hv K x y H Q\/Ih x y H Q
theorem FF:IxR X (rIx X.K):=y3.or (ES.or AB)
theorem wH(its:List N5)(n j:Nat)(u:N5):O0 (·.setIfInBounds j u) { cls:=.type "list",data:=.seq its.toArray n}={ cls:=.type "list",data:=.seq (its.set j u).toArray n}:=by simp[O0]
theorem Inv.lst {pins:List (N8×Obj)}{σ:St}{H:Hp}{s:N9}{p:N8}{xs:List V}(I:Inv X pins σ H s)(h:H p=some (.lst xs)) :
  ∃(its:List N5) (n:Nat),Vals xs its/\s.heap.get? p=some { cls:=.type "list",data:=.seq its.toArray n}/\xs.length<=sizeLine:=by
 obtain⟨z,its,n,r,e⟩:=I.hok p _ h;exact⟨its,n,r,e,z⟩
theorem Inv.FZ {p:N8}{xs ys:List V}{n':Nat}{f:Obj->Obj}(I:Inv X pins σ H s)(h:H p=some (.lst xs))
  (ho:s.heap.get? p=some { cls:=.type "list",data:=.seq its.toArray n}) (hf:f { cls:=.type "list",data:=.seq its.toArray n}={ cls:=.type "list",data:=.seq its'.toArray n'}) (r:Vals ys its') (hz:ys.length<=sizeLine) (t:Nat) :
  Inv X pins σ (upd H p (.lst ys)) {s with heap:=s.heap.update p f,toks:=t}:=by
 have e:(s.heap.update p f).get? p=some { cls:=.type "list",data:=.seq its'.toArray n'}:=by rw[Qc f ho (by rw[hf] <;> rfl),hf]
 refine I.write (x:=p) (e:=p) (by rw[h];trivial) (.inl rfl) (fun b u hb q=>(RN _ _ (Qs hb)).trans q) ⟨_,e⟩ ?_;exact⟨hz,its',n',r,e⟩
noncomputable def ID:V->V->V->Hp->(Hp->Prop)->Prop:=fun o i v H Q=>∃p xs k j,o=.ref p/\i=.int k/\H p=some (.lst xs)/\ixN xs.length k=some j/\Q (upd H p (.lst (xs.set j v)))
theorem set_list:vU X ID:=by
 intro pins s σ H o i v ov iv u Q I ro ri rv h;obtain⟨p,xs,k,j,rfl,rfl,hp,hj,q⟩:=h;cases ro;obtain⟨t,rfl⟩:=ri;obtain⟨its,n,r,ho,hz⟩:=I.lst hp;obtain⟨h1,h2,h3,h4⟩:=tH hj;have hl:=r.length;have hn:=kT;have I':Inv X pins σ (upd H p (.lst (xs.set j v))) {s with heap:=s.heap.update p (O0 (·.setIfInBounds j u)) }:=
  I.FZ hp ho (wH its n j u) (r.set rv j) (by rw[JB];exact hz) s.toks
 by_cases h0:0<=k
 ·have hk:k.toNat=j:=by rw[SJ h0 h4]at h1;exact I_ h1
  exact PySem.W.ki_setAt ho h0 (by lia) (by rw[p_,<-hl];exact h4) (by rw[hk];exact⟨_,I',q⟩)
 have hk:(k+(its.toArray.size:Int)).toNat=j:=by rw[Sr (by lia) h3]at h1;rw[p_,<-hl];exact I_ h1
 exact PySem.W.ki_setBack ho (by lia) (by rw[p_,<-hl];exact h3) (by lia) (by rw[hk];exact⟨_,I',q⟩)
theorem uf(lo hi:Option Int)(n:Nat):(Qi lo hi none n).1=((HT.sIx n 0 lo:Nat):Int)/\(Qi lo hi none n).2.1=((HT.sIx n n hi:Nat):Int)/\(Qi lo hi none n).2.2=1:=by
 refine⟨?_,?_,rfl⟩
 ·cases lo with
  |none=>simp[Qi,HT.sIx]
  |some i=>
   simp only[Qi,HT.sIx,Nq,show(1:Int) > 0 by decide,if_true];by_cases h:i<0
   ·simp only[h,if_true] <;> lia
   simp only[h,if_false] <;> lia
 cases hi with
 |none=>simp[Qi,HT.sIx]
 |some i=>
  simp only[Qi,HT.sIx,Nq,show(1:Int) > 0 by decide,if_true];by_cases h:i<0
  ·simp only[h,if_true] <;> lia
  simp only[h,if_false] <;> lia
theorem qM(its:List N5)(lo hi:Option Int):slicePick its.toArray lo hi none=((its.drop (HT.sIx its.length 0 lo)).take (HT.sIx its.length its.length hi-HT.sIx its.length 0 lo)).toArray:=by obtain⟨h1,h2,h3⟩:=uf lo hi its.toArray.size;unfold slicePick;rw[h1,h2,h3];simp only[sliceRange_one,pick_run,p_] <;> rfl
noncomputable def Js(K:N7):V->Option Int->Option Int->Hp->VK->Prop:=fun x lo hi H Q=>∃a xs,x=.ref a/\SqL K H a xs/\∀p,H p=none->Q (.ref p) (upd H p (.lst (qH xs lo hi)))
theorem CY:SlR X (Js X.K):=by intro pins s σ H x v vl vu lo hi sl Q I rx hs pl pu h;obtain⟨a,xs,rfl,hx,q⟩:=h;cases rx;obtain⟨its,r,ht,hz⟩:=I.list hx;have hlen:=r.length;refine⟨"list",_,slot_list_getitem.lookup,ht.isList.typeIs,?_⟩;refine wpAny_getItem_list_slice ht.isList hs pl pu .none (by simp) ?_ (by rw[p_] <;> lia);rw[qM,<-hlen];refine⟨.ref s.heap.objs.size,_,I.laid (t':=s.toks) (o:=.lst (qH xs lo hi)) (fun b ob q=>Oe _ q) (b_ _) ?_,rfl,q _ (I.hok.fresh (b_ _))⟩;exact⟨m_ (uz xs lo hi) hz,_,0,(r.drop (HT.sIx xs.length 0 lo)).take (HT.sIx xs.length xs.length hi-HT.sIx xs.length 0 lo),Oo _ rfl⟩
theorem lJ:bp X (.builtin "len") (fun xs H Q=>∃p ys,xs=[.ref p]/\(SqL X.K H p ys\/SqT X.K H p ys)/\Q (.int ys.length) H):=by
 intro pins s σ H xs us Q I r h;obtain⟨p,ys,rfl,hq,q⟩:=h;obtain⟨u,rfl,rx⟩:=vals1 r;cases rx;have hn:=kT;rcases hq with hq|hq
 ·obtain⟨its,r',pl,hz⟩:=I.list hq;have hlen:=r'.length;exact Calls.call_len_list pl.isList (by simp only[p_] <;> lia) ⟨.int ys.length,H,I.tok _,⟨s.toks+1,by rw[p_,hlen]⟩,q⟩
 obtain⟨its,r',pl,hz⟩:=I.tuple hq;have hlen:=r'.length;exact len_tuple pl (by simp only[p_] <;> lia) ⟨.int ys.length,H,I.tok _,⟨s.toks+1,by rw[p_,hlen]⟩,q⟩
theorem sH:bp X (.builtin "len") (fun xs H Q=>∃z,xs=[.str z]/\z.length<=sizeLine/\Q (.int z.length) H):=by intro pins s σ H xs us Q I r h;obtain⟨z,rfl,hz,q⟩:=h;obtain⟨u,rfl,t,rfl⟩:=vals1 r;have hn:=kT;exact len_str (by lia) ⟨.int z.length,H,I.tok _,⟨_,rfl⟩,q⟩
theorem mJ:bp X (.type "list") (fun xs H Q=>∃p ys,xs=[.ref p]/\(SqL X.K H p ys\/SqT X.K H p ys)/\∀l,H l=none->Q (.ref l) (upd H l (.lst ys))):=by
 intro pins s σ H xs us Q I r h;obtain⟨p,ys,rfl,hq,q⟩:=h;obtain⟨u,rfl,rx⟩:=vals1 r;cases rx;have fin:∀(its:List N5),Vals ys its->ys.length<=sizeLine->∀(h':Ou) (c':Nat),(∀b o',s.heap.get? b=some o'->h'.get? b=some o')->
   h'.get? s.heap.objs.size=some { cls:=.type "list",dict:=none,data:=.seq its.toArray c',slots:=#[] }->EP X pins σ Q (.ref s.heap.objs.size) {s with heap:=h'}:=fun its r' hz h' c' kp e=>
  ⟨.ref s.heap.objs.size,_,I.laid (t':=s.toks) kp (b_ _) (show ba X.prog X.w _ h' _ (.lst ys)from⟨hz,its,c',r',e⟩),rfl,q _ (I.hok.fresh (b_ _))⟩
 rcases hq with hq|hq
 ·obtain⟨its,r',pl,hz⟩:=I.list hq;have hlen:=r'.length;obtain⟨o,ho,hc,n,hd⟩:=pl.isList;exact TZ p (.inl rfl) ho hc hd (fun h' c' kp e=>fin its r' hz h' c' kp e) (by simp only[p_] <;> lia)
 obtain⟨its,r',pl,hz⟩:=I.tuple hq;have hlen:=r'.length;obtain⟨o,ho,hc,n,hd⟩:=pl;exact TZ p (.inr rfl) ho hc hd (fun h' c' kp e=>fin its r' hz h' c' kp e) (by simp only[p_] <;> lia)
theorem qJ:bp X (.type "tuple") (fun xs H Q=>∃p ys,xs=[.ref p]/\((SqL X.K H p ys/\∀l,H l=none->Q (.ref l) (upd H l (.tup ys)))\/(SqT X.K H p ys/\Q (.ref p) H))):=by
 intro pins s σ H xs us Q I r h;obtain⟨p,ys,rfl,h⟩:=h;obtain⟨u,rfl,rx⟩:=vals1 r;cases rx;rcases h with⟨hq,q⟩|⟨hq,q⟩
 ·obtain⟨its,r',pl,hz⟩:=I.list hq;have hlen:=r'.length;refine call_tuple_list pl.isList (fun h' kp=>?_) (by simp only[p_] <;> lia);have I1:Inv X pins σ H {s with heap:=h'}:=I.kept (t':=s.toks) kp;have I2:Inv X pins σ (upd H h'.objs.size (.tup ys)) {s with heap:=h'.push { cls:=.type "tuple",data:=.seq its.toArray} }:=
   I1.laid (t':=s.toks) (fun b o e=>Oe _ e) (b_ _) (show ba X.prog X.w _ _ _ (.tup ys)from⟨hz,its,r',U5 _ _⟩)
  exact⟨.ref h'.objs.size,_,I2,rfl,q _ (I1.hok.fresh (b_ _))⟩
 obtain⟨its,r',pl,hz⟩:=I.tuple hq;exact S_ pl ⟨.ref p,H,I,rfl,q⟩
noncomputable def tyV(K:N7)(T:String)(x:V)(H:Hp):Prop:=match x with
 | .str _=>T="str"
 | .int _=>T="int"
 | .ref p=>(T="list"/\∃xs,SqL K H p xs)\/(T="tuple"/\∃o,K.lookup p=some o/\o.cls=.type "tuple"/\o.dict=none)\/
   (T="dict"/\((∃kvs,H p=some (.dK kvs))\/∃kvs,H p=some (.dT kvs)))\/(T="set"/\∃S n,H p=some (.set S n))
 | _=>False
theorem AA{T:String}{x:V}{v:N5}(I:Inv X pins σ H s)(r:RelV x v)(ty:tyV X.K T x H) :
  s.TypeIs v T/\∀a,v=.ref a->∃ob,s.heap.get? a=some ob/\ob.dict=none:=by
 cases x with
 |str z=>
  obtain⟨t,rfl⟩:=r;cases (show T="str" from ty);exact⟨typeIs_str s z t,fun _ e=>nomatch e⟩
 |int i=>
  obtain⟨t,rfl⟩:=r;cases (show T="int" from ty);exact⟨typeIs_int s i t,fun _ e=>nomatch e⟩
 |ref p=>
  cases r;rcases ty with⟨rfl,xs,hq⟩|⟨rfl,o,hk,hc,hd⟩|⟨rfl,hk⟩|⟨rfl,S,n,hk⟩
  ·obtain⟨its,_,pl,_⟩:=I.list hq;refine⟨pl.isList.typeIs,fun a e=>?_⟩;cases e;obtain⟨o,n,e,c,hd,_⟩:=pl;exact⟨o,e,hd⟩
  ·refine⟨⟨o,I.kIn p o hk,hc⟩,fun a e=>?_⟩;cases e;exact⟨o,I.kIn _ o hk,hd⟩
  ·have z:∃o,s.heap.get? p=some o/\o.ExactDict:=by
    rcases hk with⟨kvs,hk⟩|⟨kvs,hk⟩
    ·obtain⟨_,_,_,_,o,_,_,e,ex,_⟩:=I.hok p _ hk;exact⟨o,e,ex⟩
    obtain⟨_,_,_,_,o,_,_,e,ex,_⟩:=I.hok p _ hk;exact⟨o,e,ex⟩
   obtain⟨o,e,ex⟩:=z;refine⟨⟨o,e,ex.1⟩,fun a e2=>?_⟩;cases e2;exact⟨o,e,ex.2.1⟩
  ·obtain⟨o,_,_,_,e,ex,_⟩:=I.hok p _ hk;refine⟨⟨o,e,ex.1⟩,fun a e2=>?_⟩;cases e2;exact⟨o,e,ex.2.1⟩
 | _=>exact Oz ty
noncomputable def J9(K:N7)(T:String)(r:V->List V->Hp->VK->Prop)(to:TE):TE:=fun σ H Q=>to σ H fun x H1=>tyV K T x H1/\r x [] H1 Q
noncomputable def tBM(K:N7)(T:String)(r:V->List V->Hp->VK->Prop)(to:TE)(t:TA):TE:=fun σ H Q=>to σ H fun x H1=>tyV K T x H1/\t σ H1 fun xs H2=>r x xs H2 Q
variable{o e:Ov}{es:List Ov}{to:TE}{t:TA}{name:Str}{apos cpos:Pos}{T id:String}{r:V->List V->Hp->VK->Prop}
theorem FE(pa:PlainAttrs T)(slot:Slot T name id)(hty:Ug (.builtin id)=pure (.type "method_descriptor"))(hm:MtR X id r)(ho:PE X o to)
  (hbase:Rb o name X.env (OK o X.env)=OK o X.env:=by rfl) (hline:(apos.endLine == cpos.line)=true:=by rfl):PE X (.Call (.Attribute o name apos) [] [] cpos) (J9 X.K T r to):=by
 intro pins s σ H Q I h;refine wpAny_Call_method0_late hbase hline (thn (ho pins s σ H _ I h) ?_);rintro v s1 ⟨x,H1,I1,r1,ty,q1⟩;obtain⟨h1,h2⟩:=AA I1 r1 ty;exact⟨T,id,pa,slot,hty,h1,h2,RO rfl (PySem.evalArgs_none (hm pins s1 σ H1 x [] v [] Q I1 r1 .nil q1))⟩
theorem IL(pa:PlainAttrs T)(slot:Slot T name id)(hty:Ug (.builtin id)=pure (.type "method_descriptor"))(hm:MtR X id r)(ho:PE X o to)(ha:PA X (e::es) t)
  (hbase:Rb o name X.env (OK o X.env)=OK o X.env:=by rfl)
  (hfew:((Qb cpos (Oy (e::es) X.env)).all (fun x=>!x.1)&&(backToKw cpos (UC [] X.env)).all (fun x=>x.1.isSome)
   && decide ((e::es).length+([]:List Ts).length+(if([]:List Ts).isEmpty then 0 else 1)<30))=true:=by rfl)
  (hline:(apos.endLine == cpos.line)=true:=by rfl) (hs:Oy (e::es) X.env=(false,OK e X.env)::Oy es X.env:=by rfl) (hplain:(Qb cpos (Oy es X.env)).any (·.1)=false:=by rfl) :
  PE X (.Call (.Attribute o name apos) (e::es) [] cpos) (tBM X.K T r to t):=by
 intro pins s σ H Q I h;refine wpAny_Call_method_late hbase hfew hline rfl (thn (ho pins s σ H _ I h) ?_);rintro v s1 ⟨x,H1,I1,r1,ty,q1⟩;obtain⟨h1,h2⟩:=AA I1 r1 ty;refine⟨T,id,pa,slot,hty,h1,h2,?_⟩;have hA:=ha cpos pins s1 σ H1 _ I1 q1;rw[hs]at hA ⊢;refine RO (by show(false || (Qb cpos (Oy es X.env)).any (·.1))=false;rw[hplain] <;> rfl) (Calls.evalArgs_plain ?_);exact thn hA fun us s2 ⟨vs,H2,I2,r2,q2⟩=>hm pins s2 σ H2 x vs v us Q I2 r1 r2 q2
end
noncomputable def MtM(X:Cx)(id:String)(r:V->List V->Hp->VK->Prop):Prop:=
 ∀(pins:List (N8×Obj)) (s:N9) (σ:St) (H:Hp) (x:V) (xs:List V) (v:N5) (us:List N5) (Q:VK),Inv X pins σ H s->RelV x v->Vals xs us->r x xs H Q->
  Of (Oq X.prog X.w) X.A (call (.builtin id) (v::us)) (EP X pins σ Q) X.xe s
theorem Vals.one:∀{x:V}{us:List N5},Vals [x] us->∃u,us=[u]/\RelV x u:=by
 intro x us h;cases h with
 |cons r t=>cases t;exact⟨_,rfl,r⟩
theorem Vals.zero:∀{us:List N5},Vals [] us->us=[]
 | _,.nil=>rfl
variable {t':Nat}
section
variable{X:Cx}{pins:List (N8×Obj)}{σ:St}{H:Hp}{s:N9}{l b:N8}{xs ys zs:List V}
theorem Inv.Fe {f:Array N5->Array N5}(I:Inv X pins σ H s)(hH:H l=some (.lst xs))
  (e:s.heap.get? l=some { cls:=.type "list",data:=.seq its.toArray n}) (hf:f its.toArray=its'.toArray) (hv:Vals ys its') (hz:ys.length<=sizeLine) :
  Inv X pins σ (upd H l (.lst ys)) {s with heap:=s.heap.update l (O0 f),toks:=t'}:=by
 have q:=Vb e f;rw[hf]at q;refine I.write (x:=l) (e:=l) (by rw[hH];exact trivial) (.inl rfl) (fun b' u hb hu=>(RN s.heap (O0 f) (Qs hb)).trans hu) ⟨_,q⟩ ?_;exact⟨hz,its',_,hv,q⟩
theorem Inv.J2 (I:Inv X pins σ H s)(hv:Vals ys its)(hz:ys.length<=sizeLine) :
  Inv X pins σ (upd H s.heap.objs.size (.lst ys)) {s with heap:=s.heap.push { cls:=.type "list",data:=.seq its.toArray},toks:=t'}:=
 I.laid (fun _ _ q=>Oe _ q) (b_ _) ⟨hz,its,0,hv,Oo _ rfl⟩
theorem Inv.fresh (I:Inv X pins σ H s):H s.heap.objs.size=none:=I.hok.fresh (b_ _)
theorem Inv.CU (I:Inv X pins σ H s)(hH:H l=some (.lst xs)):xs.length<=sizeLine/\∃(its:List N5) (n:Nat),Vals xs its/\xs.length=its.length/\s.heap.get? l=some { cls:=.type "list",data:=.seq its.toArray n}:=by obtain⟨z,its,n,r,e⟩:=I.hok l _ hH;exact⟨z,its,n,r,r.length,e⟩
theorem BE(h:n<=sizeLine):Qp n=false:=by unfold Qp;exact decide_eq_false (by lia)
end
section
variable{X:Cx}
noncomputable def Dw:V->List V->Hp->VK->Prop:=fun x vs H Q=>∃l xs y,x=.ref l/\vs=[y]/\H l=some (.lst xs)/\xs.length<sizeLine/\Q .non (upd H l (.lst (xs++[y])))
theorem mV:MtM X "list.append" Dw:=by intro pins s σ H x vs v us Q I rx rv h;obtain⟨l,xs,y,rfl,rfl,hH,hz,q⟩:=h;cases rx;obtain⟨u,rfl,ru⟩:=rv.one;obtain⟨z,its,n,r,hl,e⟩:=I.CU hH;refine Ta F.slot_list_append ⟨_,e,rfl⟩ F.entry_list_append (F.args_list_append_2 _ _) (PySem.list_append l its.toArray n u (by rw[p_];lia)) ⟨e,?_⟩;refine⟨.non,_,I.Fe (its':=its++[u]) hH e (by simp) (r.append (.cons ru .nil)) ?_,rfl,q⟩;rw[g_,List.length_singleton];lia
noncomputable def E6:V->List V->Hp->VK->Prop:=fun x vs H Q=>∃l b xs zs,x=.ref l/\vs=[.ref b]/\H l=some (.lst xs)/\H b=some (.lst zs)/\xs.length+zs.length<=sizeLine/\Q .non (upd H l (.lst (xs++zs)))
theorem yR:MtM X "list.extend" E6:=by
 intro pins s σ H x vs v us Q I rx rv h;obtain⟨l,b,xs,zs,rfl,rfl,hH,hB,hz,q⟩:=h;cases rx;obtain⟨u,rfl,ru⟩:=rv.one;cases ru;obtain⟨z,its,n,r,hl,e⟩:=I.CU hH;obtain⟨z2,its2,n2,r2,hl2,e2⟩:=I.CU hB;have hsz:its.toArray.size+its2.toArray.size<=sizeLine:=by rw[p_,p_];lia
 have hlong:¬(!its.toArray.isEmpty&&Qp (its.toArray.size+its2.toArray.size))=true:=by rw[BE hsz,NG];exact C_
 refine Ta F.slot_list_extend ⟨_,e,rfl⟩ F.entry_list_extend (F.args_list_extend_2 _ _)
  (SQ l its.toArray n b its2.toArray n2 hlong (by rw[p_];lia) (by lia)) ⟨e,e2,?_⟩
 refine⟨.non,_,I.Fe (its':=its++its2) hH e (by simp) (r.append r2) ?_,rfl,q⟩;rw[g_];omega
noncomputable def Fv:V->List V->Hp->VK->Prop:=fun x vs H Q=>∃l xs,x=.ref l/\vs=[]/\H l=some (.lst xs)/\Q .non (upd H l (.lst []))
theorem Bd:MtM X "list.clear" Fv:=by intro pins s σ H x vs v us Q I rx rv h;obtain⟨l,xs,rfl,rfl,hH,q⟩:=h;cases rx;have hus:=rv.zero;subst hus;obtain⟨z,its,n,r,hl,e⟩:=I.CU hH;refine Ta F.slot_list_clear ⟨_,e,rfl⟩ F.entry_list_clear (F.args_list_clear_1 _) (T1 l its.toArray n (by rw[p_];lia)) ⟨e,?_⟩;exact⟨.non,_,I.Fe (its':=[]) (ys:=[]) hH e rfl .nil (E_ _),rfl,q⟩
end
variable {o:Option V}{u:N5}{y:V}
section
variable{κ:Type}[DecidableEq κ]
def eX(kvs:List (κ×V))(k:κ):Option V:=(kvs.find? fun kv=>decide (kv.1=k)).map (·.2)
noncomputable def putK(kvs:List (κ×V))(k:κ)(v:V):List (κ×V):=
 if(kvs.any fun kv=>decide (kv.1=k))=true then kvs.map (fun kv=>if kv.1=k then(kv.1,v)else kv)else kvs++[(k,v)]
theorem pZ{p:κ×V}{r:List (κ×V)}{k:κ}(e:p.1=k):eX (p::r) k=some p.2:=by simp[eX,JZ,e]
theorem qj{p:κ×V}{r:List (κ×V)}{k:κ}(e:¬p.1=k):eX (p::r) k=eX r k:=by simp[eX,JZ,e]
theorem ml(k:κ):∀kvs:List (κ×V),(kvs.any fun kv=>decide (kv.1=k))=(eX kvs k).isSome
 | []=>rfl
 |p::r=>by
  rw[Mn];by_cases e:p.1=k
  ·simp only[pZ e,decide_eq_true e,Bool.true_or,Na]
  rw[qj e,decide_eq_false e,Mo];exact ml k r
theorem ji(kvs:List (κ×V))(k:κ)(v:V):(putK kvs k v).length<=kvs.length+1:=by
 unfold putK;split
 ·rw[a_];lia
 rw[g_,d_,JY];lia
theorem lM{kvs:List (κ×V)}{k:κ}(v:V)(h:eX kvs k=none):putK kvs k v=kvs++[(k,v)]:=by unfold putK;rw[ml,h];exact if_neg (by decide)
theorem qI.zu {u:Option N5}(r:qI o u):o.isSome=u.isSome:=by
 cases o with
 |none=>cases u with
  |none=>rfl
  |some _=>exact(show False from r).elim
 |some _=>cases u with
  |none=>exact(show False from r).elim
  |some _=>rfl
theorem KV.val {kvs:List (κ×V)}{vs:List (κ×N5)}(r:KV kvs vs)(k:κ):qI (eX kvs k) (Rr vs k):=by
 unfold KV at r;induction r with
 |nil=>exact Py
 | @cons p q ps qs h t ih=>
  obtain⟨h1,h2⟩:=h;by_cases e:p.1=k
  ·have e':q.1=k:=h1.symm.trans e;have b:Rr (q::qs) k=some q.2:=by simp[Rr,JZ,e']
   rw[pZ e,b];exact h2
  have e':¬q.1=k:=fun z=>e (h1.trans z);have b:Rr (q::qs) k=Rr qs k:=by simp[Rr,JZ,e']
  rw[qj e,b];exact ih
theorem KV.any {kvs:List (κ×V)}{vs:List (κ×N5)}(r:KV kvs vs)(k:κ):(kvs.any fun kv=>decide (kv.1=k))=vs.any fun kv=>decide (kv.1=k):=by
 unfold KV at r;induction r with
 |nil=>rfl
 |cons h t ih=>rw[Mn,Mn,ih,h.1]
theorem KV.Gf {kvs:List (κ×V)}{vs:List (κ×N5)}(r:KV kvs vs)(k:κ)(ry:RelV y u) :
  KV (kvs.map fun kv=>if kv.1=k then(kv.1,y)else kv) (vs.map fun kv=>if kv.1=k then(kv.1,u)else kv):=by
 unfold KV at r ⊢;induction r with
 |nil=>exact .nil
 | @cons p q ps qs h t ih=>
  rw[f',f'];refine .cons ?_ ih;obtain⟨h1,h2⟩:=h;by_cases e:p.1=k
  ·rw[if_pos e,if_pos (h1.symm.trans e)];exact⟨h1,ry⟩
  rw[if_neg e,if_neg (fun z=>e (h1.trans z))];exact⟨h1,h2⟩
theorem KV.put {kvs:List (κ×V)}{vs:List (κ×N5)}(r:KV kvs vs)(k:κ)(ry:RelV y u):KV (putK kvs k y) (stored vs k u):=by
 unfold putK stored;rw[r.any k];by_cases e:(vs.any fun kv=>decide (kv.1=k))=true
 ·rw[if_pos e,if_pos e];exact r.Gf k ry
 rw[if_neg e,if_neg e];exact UD r ⟨rfl,ry⟩
theorem KV.length {kvs:List (κ×V)}{vs:List (κ×N5)}(r:KV kvs vs):kvs.length=vs.length:=Pf r
end
variable {P:Oj}{w:Ot}
theorem yd{k:Key}(r:RelV (kV k) u):(bg P w).is k u=true:=by
 rcases k with i | _|x
 ·obtain⟨t,e⟩:=(show ∃t,u=O5 i t from r);subst e;exact v8 P w i t
 ·cases r;rfl
 obtain⟨t,e⟩:=(show ∃t,u=Sj x t from r);subst e;exact uQ P w x t
theorem fN{P:Oj}{w:Ot}:∀{ks:List Key}{us:List N5},Vals (ks.map kV) us->ItemsAre (bg P w) ks us
 | [],_,r=>by rw[LG]at r;cases r;exact .nil
 |k::ks,_,r=>by
  rw[f']at r;cases r with
  |cons h t=>exact .cons (yd h) (fN t)
abbrev KT(H:Hp):List (List Key×V)->List (List Key×N8×N5)->Prop:=P6 fun p q=>p.1=q.1/\H q.2.1=some (.tup (p.1.map kV))/\RelV p.2 q.2.2
variable {kvs:List (List Key×V)}{xs:List (List Key×N8×N5)}
theorem KT.val (r:KT H kvs xs)(k:List Key):qI (eX kvs k) ((RF xs k).map (·.2)):=by
 induction r with
 |nil=>exact Py
 | @cons p q ps qs h t ih=>
  obtain⟨h1,_,h2⟩:=h;by_cases e:p.1=k
  ·have e':q.1=k:=h1.symm.trans e;have b:RF (q::qs) k=some q.2:=by simp[RF,JZ,e']
   rw[pZ e,b];exact h2
  have e':¬q.1=k:=fun z=>e (h1.trans z);have b:RF (q::qs) k=RF qs k:=by simp[RF,JZ,e']
  rw[qj e,b];exact ih
theorem KT.Gf (r:KT H kvs xs)(k:List Key)(ry:RelV y u) :
  KT H (kvs.map fun kv=>if kv.1=k then(kv.1,y)else kv) (xs.map (putAt k u)):=by
 induction r with
 |nil=>exact .nil
 | @cons p q ps qs h t ih=>
  rw[f',f'];refine .cons ?_ ih;obtain⟨h1,h2,h3⟩:=h;unfold putAt;by_cases e:p.1=k
  ·rw[if_pos e,if_pos (h1.symm.trans e)];exact⟨h1,h2,ry⟩
  rw[if_neg e,if_neg (fun z=>e (h1.trans z))];exact⟨h1,h2,h3⟩
theorem KT.put (r:KT H kvs xs)(k:List Key){b:N8}(hb:H b=some (.tup (k.map kV)))(ry:RelV y u) :
  KT H (putK kvs k y) (storedH xs k b u):=by
 have e:(kvs.any fun kv=>decide (kv.1=k))=(RF xs k).isSome:=by rw[ml,(r.val k).zu,Mu]
 unfold putK storedH;rw[e];by_cases q:(RF xs k).isSome=true
 ·rw[if_pos q,if_pos q];exact r.Gf k ry
 rw[if_neg q,if_neg q];exact UD r ⟨rfl,hb,ry⟩
variable {H':Hp}
theorem KT.keeps (r:KT H kvs xs)(ht:∀b ys,H b=some (.tup ys)->H' b=some (.tup ys)):KT H' kvs xs:=
 Paired.IS r fun _ _ z=>⟨z.1,ht _ _ z.2.1,z.2.2⟩
section
variable{P:Oj}{w:Ot}{H:Hp}{h:Ou}{a:N8}
theorem ED{u:HO}(ok:HOk P w H h)(e:Rd H a u):ba P w H h a u:=e.ok ok
theorem yu{kvs:List (Key×V)}(ok:HOk P w H h)(e:Rd H a (.dK kvs)):kvs.length<=sizeLine/\(a == OY)=false/\∃vs,KV kvs vs/\h.DictOf (bg P w) a vs:=
 show ba P w H h a (.dK kvs)from ED ok e
theorem EN{kvs:List (Key×V)}(ok:HOk P w H h)(e:H a=some (.dK kvs)):kvs.length<=sizeLine/\(a == OY)=false/\∃vs,KV kvs vs/\h.DictOf (bg P w) a vs:=yu ok (.inl e)
theorem vS{ks:List Key}(ok:HOk P w H h)(e:H a=some (.tup (ks.map kV))):(Qn (bg P w)).is h ks a:=by obtain⟨_,its,r,o,h1,h2,n,h3⟩:=(show ba P w H h a (.tup (ks.map kV))from ok a _ e);exact⟨o,its.toArray,n,h1,h2,h3,by simpa using fN r⟩
theorem xJ(ok:HOk P w H h)(e:Rd H a (.dT kvs)):kvs.length<=sizeLine/\(a == OY)=false/\
  ∃xs,KT H kvs xs/\h.DictOfH (Qn (bg P w)) a xs:=by
 obtain⟨z,y,xs,r,o,es,ep,h1,h2,h3,h4,h5⟩:=(show ba P w H h a (.dT kvs)from ED ok e);refine⟨z,y,xs,r,o,es,ep,h1,h2,h3,h4,fun x hx=>?_,h5⟩;have all:∀{l:List (List Key×V)}{m:List (List Key×N8×N5)},KT H l m->∀x∈m,(Qn (bg P w)).is h x.1 x.2.1:=by
  intro l m q;induction q with
  |nil=>intro x hx;exact nomatch hx
  | @cons p q ps qs hq t ih=>
   intro x hx;rcases o_.mp hx with e|hx
   ·subst e;exact vS ok (by rw[<-hq.1];exact hq.2.1)
   exact ih x hx
 exact all r x hx
theorem Hi(ok:HOk P w H h)(e:H a=some (.dT kvs)):kvs.length<=sizeLine/\(a == OY)=false/\
  ∃xs,KT H kvs xs/\h.DictOfH (Qn (bg P w)) a xs:=xJ ok (.inl e)
end
noncomputable def nZ(H:Hp)(a:N8)(y:V)(r:Option V):Prop:=
 (∃kvs k,Rd H a (.dK kvs)/\y=kV k/\r=eX kvs k)\/∃kvs k b,Rd H a (.dT kvs)/\y=.ref b/\H b=some (.tup (k.map kV))/\r=eX kvs k
noncomputable def zP(H:Hp)(a:N8)(y v:V)(H':Hp):Prop:=
 (∃kvs k,H a=some (.dK kvs)/\y=kV k/\kvs.length<sizeLine/\H'=upd H a (.dK (putK kvs k v)))\/
 ∃kvs k b,H a=some (.dT kvs)/\y=.ref b/\H b=some (.tup (k.map kV))/\kvs.length<sizeLine/\H'=upd H a (.dT (putK kvs k v))
theorem nZ.k {H:Hp}{a:N8}{kvs:List (Key×V)}{k:Key}(e:H a=some (.dK kvs)):nZ H a (kV k) (eX kvs k):=.inl ⟨kvs,k,.inl e,rfl,rfl⟩
theorem zP.k {H:Hp}{a:N8}{kvs:List (Key×V)}{k:Key}{v:V}(e:H a=some (.dK kvs))(hl:kvs.length<sizeLine):zP H a (kV k) v (upd H a (.dK (putK kvs k v))):=.inl ⟨kvs,k,e,rfl,hl,rfl⟩
variable {Q:N5->N9->Prop}
section
variable{X:Cx}{pins:List (N8×Obj)}{σ:St}{H:Hp}{s:N9}{a:N8}{y v:V}{u r:N5}{o:Option V}{A:OB}{E:N5->N9->Prop}
theorem Inv.big (I:Inv X pins σ H s):OY<s.heap.objs.size:=by have h:OW<s.heap.objs.size:=(I.mod.glob.keeps I.bk).lt;exact Lq (by decide) h
theorem qZ(hu:A.units+1<cLine)(I:Inv X pins σ H s)(g:nZ H a y (some v))(ry:RelV y u)(h:∀w' s',Inv X pins σ H s'->RelV v w'->Q w' s') :
  Of (Oq X.prog X.w) A (RU (.ref a) u) Q E s:=by
 rcases g with⟨kvs,k,e,ey,l⟩|⟨kvs,k,b,e,ey,eb,l⟩
 ·subst ey;obtain⟨z,hd,vs,rel,dd⟩:=yu I.hok e;obtain⟨w',hw,rw'⟩:=qI.some_of (v:=v) (o:=Rr vs k) (by rw[l];exact rel.val k);exact wpAny_getItem_of (yd ry) dd.mapOf hw (h w' _ (I.tok _) rw')
 subst ey;cases (show u=OC b from ry);obtain⟨z,hd,xs,rel,dd⟩:=xJ I.hok e;obtain⟨w',hw,rw'⟩:=qI.some_of (v:=v) (o:=(RF xs k).map (·.2)) (by rw[l];exact rel.val k);obtain⟨p,hp,hp2⟩:=Lg.mp hw;refine wpAny_getItem_heap (Ss hu) (vS I.hok eb) dd hp ?_;rw[hp2];exact h w' _ (I.tok _) rw'
theorem oj{h':Ou}{ob:HO}(I:Inv X pins σ H s)(mu:Mut (H a))(hs:O1 a s.heap h')(he:∃q,h'.get? a=some q)(new:ba X.prog X.w (upd H a ob) h' a ob) :
  Inv X pins σ (upd H a ob) {s with heap:=h',toks:=t'}:=
 I.write (x:=a) (e:=a) mu (.inl rfl) (fun b q hb z=>(hs.2 b hb).trans z) he new
theorem BV{h':Ou}{kvs:List (Key×V)}{vs:List (Key×N5)}(z:kvs.length<=sizeLine)(hd:(a == OY)=false)(rel:KV kvs vs)(dd:h'.DictOf (bg P w) a vs) :
  ba P w H' h' a (.dK kvs):=⟨z,hd,vs,rel,dd⟩
theorem nG{Q:Unit->N9->Prop}(hu:A.units+1<cLine)(I:Inv X pins σ H s)(g:zP H a y v H')(ry:RelV y u)(rv:RelV v r)(h:∀s',Inv X pins σ H' s'->Q () s') :
  Of (Oq X.prog X.w) A (Tq (.ref a) u r) Q E s:=by
 rcases g with⟨kvs,k,e,ey,l,eH⟩|⟨kvs,k,b,e,ey,eb,l,eH⟩
 ·subst ey eH;obtain⟨z,hd,vs,rel,dd⟩:=EN I.hok e;have hz:vs.length<=sizeLine:=by rw[<-rel.length];exact z
  have hl:(putK kvs k v).length<=sizeLine:=by have:=ji kvs k v;lia
  refine wpAny_setItem_pairs (hsz:=hz) (yd ry) dd fun h' dd' hs=>h _ ?_;have he:∃q,h'.get? a=some q:=let ⟨q,_,_,hq,_⟩:=dd';⟨q,hq⟩
  exact oj I (by rw[e];exact Py) hs he (BV hl hd (rel.put k rv) dd')
 subst ey eH;cases (show u=OC b from ry);obtain⟨z,hd,xs,rel,dd⟩:=Hi I.hok e;have hz:xs.length<=sizeLine:=by rw[<-Pf rel];exact z
 have hl:(putK kvs k v).length<=sizeLine:=by have:=ji kvs k v;lia
 refine wpAny_setItem_heap (hsz:=hz) (Ss hu) (vS I.hok eb) dd fun h' dd' hs=>h _ ?_;obtain⟨q,es,ep,hq,h2,h3,h4,_,h5⟩:=dd';refine oj I (by rw[e];exact Py) hs ⟨q,hq⟩ ⟨hl,hd,_,(rel.put k eb rv).keeps fun c ys ec=>?_,q,es,ep,hq,h2,h3,h4,h5⟩;rw[aL (C3 ec e (fun z=>nomatch z))];exact ec
end
section
variable{X:Cx}{pins:List (N8×Obj)}{σ:St}{H:Hp}{s:N9}{a:N8}{kvs:List (Key×V)}{k:Key}{u:N5}{A:OB}{E:N5->N9->Prop}
theorem IF(I:Inv X pins σ H s)(e:Rd H a (.dK kvs))(h:∀t s',Inv X pins σ H s'->Q (.int kvs.length t) s'):Of (Oq X.prog X.w) A (call (.builtin "len") [.ref a]) Q E s:=by obtain⟨z,hd,vs,rel,dd⟩:=yu I.hok e;refine call_len_dict hd dd (by rw[<-rel.length];rw[sizeLine_eq]at z;lia) ?_;rw[<-rel.length];exact h _ _ (I.tok _)
end
def HQ(i:Ov):Prop:=∀ov iv,Q5 i false ov iv=UN [ov,iv] (RU ov iv)
variable {pos:Pos}
theorem CI{prog:Oj}{A:OB}{E:N5->N9->Prop}{env:Env}{value slice:Ov}{T id:String}
  (hl:typeLookup (.type T) "__getitem__"=pure (some (.builtin id))) (hs:HQ slice)
  (h:Of (Oq prog w) A (OK value env) (fun o s₁=>Of (Oq prog w) A (OK slice env) (fun i s₂=>s₂.TypeIs o T/\Of (Oq prog w) A (RU o i) Q E s₂) E s₁) E s) :
  Of (Oq prog w) A (OK (.Subscript value slice pos) env) Q E s:=by
 refine S9 (OG h (fun o s₁ h₁=>OG h₁ (fun i s₂ h₂=>?_) fun _ _ x=>x) fun _ _ x=>x);obtain⟨hT,h₂⟩:=h₂;unfold QG;refine N6 ?_;rw[RV hT.not_modules];refine N6 (RG hT hl ?_);have fin:Of (Oq prog w) A (Q5 slice false o i) (fun r s₃=>Of (Oq prog w) A (Tt value o r >>= fun _=>pure r) Q E s₃) E s₂:=by rw[hs o i];exact Tb (OG h₂ (fun r s₃ h₃=>N6 (R8 (Oa h₃))) fun _ _ x=>x)
 first
  |exact Oa (N6 fin)
  |exact N6 (Oa (N6 fin))
  |exact N6 fin
variable {X:Cx}
theorem nT{a:N8}(I:Inv X pins σ H s)(g:nZ H a y o):s.TypeIs (.ref a) "dict":=by
 rcases g with⟨kvs,k,e,_,_⟩|⟨kvs,k,b,e,_,_,_⟩
 ·obtain⟨_,_,vs,_,dd⟩:=yu I.hok e;exact dd.typeIs
 obtain⟨_,_,xs,_,dd⟩:=xJ I.hok e;exact dd.typeIs
noncomputable def IE(td ty:TE):TE:=fun σ H Q=>td σ H fun x H1=>ty σ H1 fun y H2=>∃a v,x=.ref a/\nZ H2 a y (some v)/\Q v H2
noncomputable def HL(td ty tv:TE):TS:=fun D σ H=>tv σ H fun v H1=>td σ H1 fun x H2=>ty σ H2 fun y H3=>∃a H4,x=.ref a/\zP H3 a y v H4/\D.nx σ H4
section
variable{X:Cx}{o i e value:Ov}{pos pos' tpos:Pos}{td ty tv:TE}
theorem oz(hu:X.A.units+1<cLine)(ho:PE X o td)(hi:PE X i ty)(hs:HQ i):PE X (.Subscript o i pos) (IE td ty):=by intro pins s σ H Q I h;refine CI Rl.lookup hs (thn (ho pins s σ H _ I h) fun u s1 ⟨x,H1,I1,rx,q1⟩=>thn (hi pins s1 σ H1 _ I1 q1) ?_);rintro iv s2 ⟨y,H2,I2,ry,a,v,ex,g,q2⟩;subst ex;obtain rfl:u=OC a:=rx;exact⟨nT I2 g,qZ hu I2 g ry fun w' s3 I3 rw'=>⟨v,H2,I3,rw',q2⟩⟩
theorem DI(hu:X.A.units+1<cLine)(ho:PE X o td)(hi:PE X i ty)(hv:PE X value tv)(hs:QL value (some (.Subscript o i pos')) pos.line X.env=pure false) :
  PS X (.Assign [.Subscript o i pos'] value pos) (HL td ty tv):=by
 intro pins s σ H D I h;refine wpAny_Assign_Subscript (thn (hv pins s σ H _ I h) ?_) hs;rintro r s1 ⟨v,H1,I1,rv,q1⟩;refine thn (ho pins s1 σ H1 _ I1 q1) ?_;rintro u s2 ⟨x,H2,I2,rx,q2⟩;refine thn (hi pins s2 σ H2 _ I2 q2) ?_;rintro iv s3 ⟨y,H3,I3,ry,a,H4,ex,g,q3⟩;subst ex;obtain rfl:u=OC a:=rx;exact nG hu I3 g ry rv fun s4 I4=>⟨σ,H4,I4,q3⟩
end
theorem AQ(h:Ou)(hb:OY<h.objs.size):ba P w H (h.push { cls:=.type "dict",data:=.dict #[] }) h.objs.size (.dK []):=
 ⟨E_ _,beq_eq_false_iff_ne.mpr (Qs (w_ hb)),[],.nil,Vh h⟩
theorem Ab(h:Ou)(hb:OY<h.objs.size):ba P w H (h.push { cls:=.type "dict",data:=.dict #[] }) h.objs.size (.dT []):=
 ⟨E_ _,beq_eq_false_iff_ne.mpr (Qs (w_ hb)),[],.nil,_,#[],0,Oo _ rfl,⟨rfl,rfl,rfl⟩,rfl,rfl,KA⟩
def Fi:TE:=fun _ H Q=>∀p,H p=none->Q (.ref p) (upd H p (.dT []))
section
variable{X:Cx}{pos:Pos}
theorem A9:PE X (.Dict [] [] pos) Fi:=fun pins s σ H Q I h=>
 wpAny_Dict_empty ⟨.ref s.heap.objs.size,_,I.laid (a:=s.heap.objs.size) (o:=.dT []) (t':=s.toks) (fun _ _ q=>Oe _ q) (b_ _) (Ab s.heap I.big),rfl,h _ (I.hok.fresh (b_ _))⟩
end
noncomputable def xk:List (TE×TE)->St->Hp->(List (V×V)->Hp->Prop)->Prop
 | [],_,H,Q=>Q [] H
 | (tk,tv)::r,σ,H,Q=>tk σ H fun x H1=>tv σ H1 fun y H2=>xk r σ H2 fun ps H3=>Q ((x,y)::ps) H3
abbrev VV:List (V×V)->List (N5×N5)->Prop:=P6 fun p q=>RelV p.1 q.1/\RelV p.2 q.2
noncomputable def PPs(X:Cx)(pos:Pos)(keys:List (Option Ov))(values:List Ov)(trs:List (TE×TE)):Prop:=
 ∀(pins:List (N8×Obj)) (s:N9) (σ:St) (H:Hp) (Q:List (V×V)->Hp->Prop),Inv X pins σ H s->xk trs σ H Q->
  Of (Oq X.prog X.w) X.A (evalPairs (pairTrees keys values X.env pos)) (fun vs s'=>∃ps H',Inv X pins σ H' s'/\VV ps vs/\Q ps H') X.xe s
theorem Ci:PPs X pos [] [] []:=fun pins s σ H Q I h=>pairTrees_nil_walk ⟨[],H,I,.nil,h⟩
variable {trs:List (TE×TE)}
theorem vg{k v:Ov}{ks:List (Option Ov)}{vs:List Ov}{tk tv:TE}(hk:PE X k tk)(hv:PE X v tv)(hr:PPs X pos ks vs trs) :
  PPs X pos (some k::ks) (v::vs) ((tk,tv)::trs):=fun pins s σ H Q I h=>
 pairTrees_cons_walk (thn (hk pins s σ H _ I h) fun u s1 ⟨x,H1,I1,rx,q1⟩=>thn (hv pins s1 σ H1 _ I1 q1) fun w2 s2 ⟨y,H2,I2,ry,q2⟩=>
  thn (hr pins s2 σ H2 _ I2 q2) fun ws s3 ⟨ps,H3,I3,rel,q3⟩=>⟨(x,y)::ps,H3,I3,.cons ⟨rx,ry⟩ rel,q3⟩)
noncomputable def jm(kvs more:List (Key×V)):List (Key×V):=more.foldl (fun acc kv=>putK acc kv.1 kv.2) kvs
theorem KV.merge:∀{more:List (Key×V)}{rs:List (Key×N5)}{kvs:List (Key×V)}{vs:List (Key×N5)},KV more rs->KV kvs vs->KV (jm kvs more) (merged vs rs):=by
 intro more rs kvs vs r;unfold KV at r;induction r generalizing kvs vs with
 |nil=>intro q;exact q
 | @cons p q ps qs h t ih=>
  intro r0;have e:KV (putK kvs p.1 p.2) (stored vs q.1 q.2):=by have:=r0.put p.1 h.2;rw[<-h.1];exact this
  exact ih e
theorem jS:∀(more kvs:List (Key×V)),(jm kvs more).length<=kvs.length+more.length
 | [],kvs=>by show kvs.length<=kvs.length+0;lia
 |p::r,kvs=>by have h1:=jS r (putK kvs p.1 p.2);have h2:=ji kvs p.1 p.2;show(jm (putK kvs p.1 p.2) r).length<=_;rw[d_];lia
theorem oQ{P:Oj}{w:Ot}:∀{kvs:List (Key×V)}{ws:List (N5×N5)},VV (kvs.map fun kv=>(kV kv.1,kv.2)) ws->∃rs,Carries (bg P w) ws rs/\KV kvs rs
 | [],_,r=>by rw[LG]at r;cases r;exact⟨[],Py,.nil⟩
 |p::kvs,_,r=>by
  rw[f']at r;cases r with
  | @cons a b as bs h t=>
   obtain⟨rs,c,q⟩:=oQ (P:=P) (w:=w) t;obtain⟨b1,b2⟩:=b;exact⟨(p.1,b2)::rs,⟨yd h.1,rfl,c⟩,.cons ⟨rfl,h.2⟩ q⟩
noncomputable def Hh(trs:List (TE×TE)):TE:=fun σ H Q=>∀p,H p=none->xk trs σ (upd H p (.dK [])) fun ps H2=>H2 p=some (.dK [])/\∃kvs:List (Key×V),ps=kvs.map (fun kv=>(kV kv.1,kv.2))/\kvs.length<=15/\Q (.ref p) (upd H2 p (.dK (jm [] kvs)))
theorem D9{keys:List (Option Ov)}{values:List Ov}(h:PPs X pos keys values trs)(hall:keys.all (·.isSome)=true)(hl:keys.length=values.length)(h0:keys≠[])
  (h15:keys.length<=15):PE X (.Dict keys values pos) (Hh trs):=by
 intro pins s σ H Q I q;have hn:=I.hok.fresh (b_ s.heap.objs.size);have I1:=I.laid (a:=s.heap.objs.size) (o:=.dK []) (h':=s.heap.push { cls:=.type "dict",data:=.dict #[] }) (t':=s.toks) (fun _ _ q=>Oe _ q) (b_ _) (AQ s.heap I.big);refine wpAny_Dict_walk (knd:=bg X.prog X.w) hall hl h0 h15 (thn (h pins _ σ _ _ I1 (q _ hn)) ?_);rintro ws s2 ⟨ps,H2,I2,rel,e,kvs,ep,lk,q2⟩;subst ep;obtain⟨rs,c,rk⟩:=oQ (P:=X.prog) (w:=X.w) rel;obtain⟨z,hd,vs0,r0,dd⟩:=EN I2.hok e;cases r0;refine⟨rs,c,dd,fun h' dd' hs=>⟨.ref s.heap.objs.size,_,?_,rfl,q2⟩⟩;have hz:(jm [] kvs).length<=sizeLine:=by have h1:=jS kvs [];rw[JY]at h1;rw[sizeLine_eq];lia
 have he:∃q,h'.get? s.heap.objs.size=some q:=let ⟨q,_,_,hq,_⟩:=dd';⟨q,hq⟩
 exact oj I2 (by rw[e];exact Py) hs he (BV hz hd (rk.merge .nil) dd')
end L2
namespace Att
open PySem PySem.W PySem.Calls PyProof.Rows
theorem nY{P:Rw}{h:Ou}:∀(ns:List Int) (vs:List N5),WellAll P h vs (ns.map WData.int)->QZ vs ns:=by
 intro ns;induction ns with
 |nil=>
  intro vs w;rw[LG]at w;cases w;exact .nil
 |cons n ns ih=>
  intro vs w;rw[f']at w;cases w with
  |cons a b=>
   cases a;exact .cons _ _ (ih _ b)
theorem zW{l:OpenLaw}{n:Nat}(hn:l.most=some n){P:Rw}{h:Ou}{args:List WData}{vals:List N5}
  (hpre:l.row.toRowW.claim.pre args=true) (hwl:WellAll P h vals args) :
  ∃a vs ns,vals=[OC a]/\args=[WData.list (ns.map WData.int)]/\h.get? a=some { cls:=.type "list",data:=.seq vs.toArray}/\QZ vs ns/\ns.length<=n:=by
 have hsh:WShape.hasAll [] args [.list .int]=true:=(pre_splitW hpre).1;have hc:l.pre.holds [] { args:=args}=true:=(pre_splitW hpre).2;obtain⟨d,r,rfl,h1,h2⟩:=hasAllW_cons hsh;obtain rfl:=hasAllW_nil h2;obtain⟨xs,rfl,h3⟩:=hasW_list h1;obtain⟨ns,rfl⟩:=items_int h3;have hlen:ns.length<=n:=by
  unfold OpenLaw.pre at hc;have h4:(WTm.not (.lt (.lit (.int (n:Int))) (.len (.arg 0)))).holds [] { args:=[.list (ns.map .int)] }=true:=by have h4:=(holds_andW hc).1;rw[hn]at h4;exact h4
  have h5:=condW_of h4 (w_not (w_lt w_lit (w_len_list (w_arg rfl))));rw[a_]at h5;refine JC fun q=>?_;have q':(n:Int)<((ns.length:Nat):Int):=by lia
  first
   | (rw[decide_eq_true q']at h5;exact absurd h5 (by decide))
   | (simp at h5;omega)
 cases hwl with
 |cons w1 w2=>
  cases w2;cases w1 with
  |list ho hall=>exact⟨_,_,ns,rfl,rfl,ho,nY ns _ hall,hlen⟩
theorem zI(l:OpenLaw)(args:List WData):l.row.toRowW.claim.post args (.bool true) args=true:=
 postW_of (r:=l.row.toRowW) (X:=(true == true))
  (show WShape.has [] (.bool true) .bool=true by first|rfl|decide|simp[WShape.has,WShape.arms,WShape.armsAll])
  (show(WTm.eq .res (.lit (.bool true))).value [] { args:=args,res:=some (.bool true),after:=args}=some (.bool (true == true))from w_eq_bool (w_res rfl) w_lit) rfl
theorem uV{l:OpenLaw}{n:Nat}{q:Oj}{loose:List Str}{XP:(Str->Option N5)->Ou->Prop}{YP:Ot->Ou->Prop}{d:DefRec}
  (hn:l.most=some n) (hdf:d.params.defaults=[])
  (call:∀(w:Ot) (s₀ s₁:N9) (mg mb:Str->Option N5) (fa:N8) (o:Obj) (pm cd doc:N5) (a:N8) (vs:List N5) (ns:List Int),
   Ground q loose [] XP w s₀ mg mb s₁.heap->YP w s₁.heap->
   s₁.heap.get? fa=some o->o.data=.func (docDef d.name d.params d.body d.scope pm cd doc)->s₁.heap.CodeRec cd d.name->mg d.name=some (.ref fa)->
   s₁.heap.get? a=some { cls:=.type "list",data:=.seq vs.toArray}->QZ vs ns->ns.length<=n->s₁.gens=#[]->
   Qh (Oq l.prog w) Rt (.call (.ref fa) ⟨[.ref a],[]⟩) (fun r s'=>r=.ok (.ret (.bool true))/\OldK s₁.heap s'.heap/\s'.os=s₁.os/\QK s'.gens) s₁) :
  WalkO q loose XP YP l.row.toRowW d [] (fun f vs=>Tc f vs):=by
 intro w s₀ s₁ mg mb G Y fa o pm cd doc dV kV ho hd hcd hD hmg hg args vals as hpre hlay hrd hwl hlo;obtain rfl:dV=.none:=Dflts.none hD hdf;obtain rfl:kV=.none:=Dflts.noKw hD;obtain⟨a,vs,ns,rfl,rfl,hobj,hints,hlen⟩:=zW hn hpre hwl;refine enter_call (PY (call w s₀ s₁ mg mb fa o pm cd doc a vs ns G Y ho (fd_plain hd) hcd hmg hobj hints hlen hg) fun r s' hq=>?_);obtain⟨rfl,h2,h3,h4⟩:=hq;exact⟨.inl ⟨.bool true,.bool true,[],rfl,fun _=>rfl,.bool true,zI l _,fun _=>⟨Lk,fun _ hm=>(nomatch hm)⟩⟩,h2,h3,h4⟩
section
variable{prog:Oj}{w:Ot}{A:OB}{E:N5->N9->Prop}{s:N9}{K:Frag}
noncomputable def ledger(h:Ou)(L d:N8):List (N8×Obj):=(u_ h.objs.size).filterMap fun a=>if a=L\/a=d then none else(h.get? a).map fun o=>(a,o)
end
end Att
namespace L2
open PySem PySem.Spec PyProof.Rows
theorem rP:∀{vs:List N5}{ns:List Int},QZ vs ns->Vals (ns.map V.int) vs
 | _,_,.nil=>.nil
 | _,_,.cons n t h=>.cons ⟨t,rfl⟩ (rP h)
def G8(H:Hp):Prop:=∀b,H b=none\/∃o xs,H b=some (.frz o (.lst xs))
variable {fd:OA}{x:Str}
theorem BO{P:Oj}{w:Ot}{K:N7}{mg mb:Str->Option N5}{CX:CXT}{k:Nat}{fa a:N8}{sp:Sp}{s₁:N9}{vs:List N5}{ns:List Int}
  (KX:K.In s₁.heap) (hns:s₁.heap.Ns OW mg) (hb:s₁.heap.Ns R5 mb) (hbb:∀x:Str,x≠"__name__"->mb x=Pz x) (hlim:s₁.heap.NoLimit) (hg:s₁.gens=#[])
  (ha:s₁.heap.get? a=some { cls:=.type "list",data:=.seq vs.toArray}) (hi:QZ vs ns) (hl:ns.length<=sizeLine) (hr:Room k Rt)
  (F:∀base:Ou,K.In base->base.Ns OW mg->FnOk P w K mg base CX k fa fd [x] sp) (hbind:∀(s:N9) (u:N5),RT s fd ⟨[u],[]⟩ [(x,u)])
  (hsp:∀H:Hp,G8 H->SqL K H a (ns.map V.int)->sp [.ref a] H (fun v _=>v=.bl true) fun _ _ _=>False)
  (hCX:∀H e s',CX [] H s₁ (fun _ _ _=>False) e s'->False) :
  Qh (Oq P w) Rt (.call (.ref fa) ⟨[.ref a],[]⟩) (fun r s'=>r=.ok (.ret (.bool true))/\OldK s₁.heap s'.heap/\s'.os=s₁.os/\QK s'.gens) s₁:=by
 have rv:=rP hi;have lenV:=hi.length;have core:∀H:Hp,G8 H->SqL K H a (ns.map V.int)->HOk P w H s₁.heap->(∀b,H b≠none->b=a)->(H a≠none->K.lookup a=none)->
   Qh (Oq P w) Rt (.call (.ref fa) ⟨[.ref a],[]⟩) (fun r s'=>r=.ok (.ret (.bool true))/\OldK s₁.heap s'.heap/\s'.os=s₁.os/\QK s'.gens) s₁:=by
  intro H hO hS hok hA hK;have base_of:∀{b:N8}{o:Obj},s₁.heap.get? b=some o->H b=none->(tm s₁.heap H).get? b=some o:=fun e n=>By e n;have noA:∀{b:N8}{o:Obj}{es:Array PX}{ep:Nat},s₁.heap.get? b=some o->o.data=.dict es ep->H b=none:=fun{b o es ep} e d=>by
   cases q:H b with
   |none=>rfl
   |some u=>
    have e':b=a:=hA b (by rw[q];simp);subst e';rw[ha]at e;cases e;have d':Uh vs.toArray _=Data.dict es ep:=d;cases d'
  have nsK:∀{b:N8}{m:Str->Option N5},s₁.heap.Ns b m->(tm s₁.heap H).Ns b m:=fun{b m} ⟨o,es,ep,e,d,r⟩=>⟨o,es,ep,base_of e (noA e d),d,r⟩;have hKb:K.In (tm s₁.heap H):=fun b o e=>base_of (KX b o e) (by
   cases q:H b with
   |none=>rfl
   |some u=>
    have e':b=a:=hA b (by rw[q];simp);subst e';rw[hK (by rw[q];simp)]at e;cases e)
  have hM:Mod K mg (tm s₁.heap H):=⟨hKb,nsK hns,⟨mb,nsK hb,hbb⟩,let ⟨mc,h1,h2⟩:=hlim;⟨mc,nsK h1,h2⟩⟩;have e0:Env0 P w K mg (tm s₁.heap H) Rt [] s₁ H:=⟨rfl,hM,fun b o e=>Dv e,Mz (yX _ _),trivial,fun b hb=>absurd (show b∈([]:List N8)from hb) (by simp),hok,.of_eq hg⟩;refine PY ((F _ hKb (nsK hns)).run Rt [] s₁ H ⟨[.ref a],[]⟩ [.ref a] [.ref a] _ _ hr e0 (hbind s₁ (.ref a)) (.cons rfl .nil) (hsp H hO hS)) fun r s' h=>?_;cases r with
  |error e=>exact(hCX H e s' h).elim
  |ok fl=>
   cases fl with
   |next=>exact Oz h
   |brk=>exact Oz h
   |cont=>exact Oz h
   |ret u=>
    obtain⟨v,H',os,bare,un,hok',r',q⟩:=h;have q':v=.bl true:=q;subst q';obtain rfl:u=S6 true:=r';refine⟨rfl,OldK.of_keep fun b o e=>?_,os,bare⟩;cases q:H b with
    |none=>exact un.keep b o e q (by intro z;exact absurd (show b∈([]:List N8)from z) (by simp)) (by simp)
    |some u=>
     rcases hO b with z|⟨ob,xs,z⟩
     ·rw[q]at z;cases z
     have z2:=un.frzs b ob _ z;obtain⟨e1,_⟩:=hok b _ z;obtain⟨e2,_⟩:=hok' b _ z2;rw[e]at e1;cases e1;exact e2
 cases hk:K.lookup a with
 |some o=>
  have e:=KX a o hk;rw[ha]at e;cases e;refine core (fun _=>none) (fun _=>.inl rfl) (.inr ⟨_,vs.toArray,_,hk,rfl,rfl,rfl,by rw[p_,lenV];exact hl,by simpa using rv⟩) (fun b u z=>by have z':(none:Option HO)=some u:=z;cases z') (fun b z=>absurd rfl z) fun z=>absurd rfl z
 |none=>
  refine core (fun b=>if b=a then some (.frz { cls:=.type "list",data:=.seq vs.toArray} (.lst (ns.map V.int)))else none) (fun b=>?_) (.inl (.inr ⟨{ cls:=.type "list",data:=.seq vs.toArray},if_pos rfl⟩)) (fun b u z=>?_) (fun b z=>?_) fun _=>hk
  ·by_cases hb:b=a
   ·exact .inr ⟨_,_,if_pos hb⟩
   exact .inl (if_neg hb)
  ·by_cases hb:b=a
   ·have z':=(if_pos hb).symm.trans z;cases z';subst hb;exact⟨ha,by rw[a_];exact hl,vs,_,rv,ha⟩
   have z':=(if_neg hb).symm.trans z;cases z'
  by_cases hb:b=a
  ·exact hb
  exact absurd (if_neg hb) z
theorem CV{l:RH}{n k:Nat}{q:Oj}{loose:List Str}{XP:(Str->Option N5)->Ou->Prop}{YP:Ot->Ou->Prop}{d:DefRec}{K:Rw->N7}{CX:Ot->CXT}{sp:Ot->Sp}
  (hn:l.most=some n) (hn2:n<=sizeLine) (hdf:d.params.defaults=[]) (hr:Room k Rt)
  (hY:∀(w:Ot) (h:Ou),YP w h->(K w.params).In h)
  (F:∀(w:Ot) (mg:Str->Option N5) (fa:N8) (h:Ou),(K w.params).In h->h.Ns OW mg->mg d.name=some (.ref fa)->
   ∃fd:OA,(∀(s:N9) (u:N5),RT s fd ⟨[u],[]⟩ [(x,u)])/\
    ∀base:Ou,(K w.params).In base->base.Ns OW mg->FnOk l.prog w (K w.params) mg base (CX w) k fa fd [x] (sp w))
  (hsp:∀(w:Ot) (H:Hp) (a:N8) (ns:List Int),ns.length<=n->G8 H->SqL (K w.params) H a (ns.map V.int)->sp w [.ref a] H (fun v _=>v=.bl true) fun _ _ _=>False)
  (hCX:∀(w:Ot) (H:Hp) (s:N9) (e:N5) (s':N9),CX w [] H s (fun _ _ _=>False) e s'->False) :
  T3 q loose XP YP l.row.toRowW d [] (fun f vs=>Tc f vs):=by
 refine Att.uV hn hdf fun w s₀ s₁ mg mb fa o pm cd doc a vs ns G Y ho hd hcd hmg hobj hints hlen hg=>?_;have KX:=hY w _ Y;obtain⟨fd,hb,hF⟩:=F w mg fa _ KX G.T.g hmg;exact BO KX G.T.g G.T.b G.T.builtins G.T.nolimit hg hobj hints (m_ hlen hn2) hr hF hb (fun H hO hS=>hsp w H a ns hlen hO hS) fun H e s'=>hCX w H s₁ e s'
noncomputable def fC(s:OF):Arguments:=match s with
 | .FunctionDef _ a _ _ _ _ _ _ _ _=>a
 | _=>{ posonlyargs:=[],args:=[],vararg:=none,kwonlyargs:=[],kw_defaults:=[],kwarg:=none,defaults:=[] }
def dA(s:OF):List OF:=match s with
 | .FunctionDef _ _ b _ _ _ _ _ _ _=>b
 | _=>[]
noncomputable def ax(s:OF):O4:=match s with
 | .FunctionDef _ _ _ _ _ _ sc _ _ _=>sc
 | _=>{ kind:=.function,names:=[],isGenerator:=false,isCoroutine:=false}
abbrev CX0:CXT:=fun _ _ _ _ _ _=>False
abbrev E0:XK:=fun _ _ _=>False
theorem Hw{X:Cx}:Passes CX0 X E0:=fun _ _ _ _ _ _ _ h=>h.elim
structure Fun (K:N7) (x qual:Str) (st:OF) (f:N8) (fd:OA):Prop where
 ex:∃(oc:N5) (od:Option N8) (kV doc pm:N5) (an:Option N8) (cdv ct:N5) (osl:Array (Option N5)),
  fd=PD x qual (fC st) (dA st) (ax st) .none kV doc pm an cdv ct/\K.lookup f=some ⟨oc,od,.func fd,osl⟩/\QY K cdv qual=true
 kp:Qu K (.ref f)=true
variable {f:N8}{ps:List Str}{qual:Str}{st:OF}
section
variable{P:Oj}{w:Ot}{K:N7}{mg:Str->Option N5}{base:Ou}
theorem Fun.ok {N:List Str}{k:Nat}{sp:Sp}(F:Fun K x qual st f fd)(S:FnScope N ps (ax st))(len:∀vs H Q E,sp vs H Q E->vs.length=ps.length)
  (hbody:∀(cdv:N5) (A:OB) (outer:List Env) (s:N9) (H:Hp) (vs:List V) (Q:VK) (E:XK),Room k (A.deeper (QO qual (ax st) s.heap.objs.size f cdv))->sp vs H Q E->
   ∃t,PSs (xr CX0 P w K mg base N qual (ax st) f cdv A outer s H E).nox (dA st) t/\t { nx:=fun _ H'=>Q .non H',rt:=Q} (start N vs) H):FnOk P w K mg base CX0 (k+1) f fd ps sp:=by
 obtain⟨oc,od,kV,doc,pm,an,cdv,ct,osl,rfl,lk,hcd⟩:=F.ex;refine Io lk hcd S len fun A outer s H vs Q E hr hsp=>?_;obtain⟨t,h,q⟩:=hbody cdv A outer s H vs Q E hr hsp;exact⟨t,h.nox,q⟩
theorem Fun.binds (F:Fun K x qual st f fd)
  (h:∀(kV doc pm:N5) (an:Option N8) (cdv ct:N5) (us:List N5),us.length=ps.length->Ue (PD x qual (fC st) (dA st) (ax st) .none kV doc pm an cdv ct) ⟨us,[]⟩=pure (ps.zip us)):Binds K fd ps []:=by
 obtain⟨oc,od,kV,doc,pm,an,cdv,ct,osl,rfl,lk,hcd⟩:=F.ex;exact .all (h kV doc pm an cdv ct)
theorem wO{oc:N5}{od an:Option N8}{osl:Array (Option N5)}{kV doc pm cdv ct:N5}(l:K.lookup f=some ⟨oc,od,.func (PD x qual (fC st) (dA st) (ax st) .none kV doc pm an cdv ct),osl⟩)
  (c:QY K cdv qual=true) (k:Qu K (.ref f)=true):Fun K x qual st f (PD x qual (fC st) (dA st) (ax st) .none kV doc pm an cdv ct):=⟨⟨oc,od,kV,doc,pm,an,cdv,ct,osl,rfl,l,c⟩,k⟩
end
theorem rD{A:OB}{k:Nat}(hr:Room k A):A.units+1<cLine:=JK (Kx (by decide:1<=64) _) hr.units
section
variable{X:Cx}
theorem pv(i:Nat){pos:Pos}(hN:X.N[i]?=some x:=by rfl)(hv:Vis X.env.scope x:=by first|exact e_ rfl|exact r_ (e_ rfl)|exact r_ (r_ rfl))(hd:(x ==("__debug__":Str))=false:=by decide)
  (hcd:(x ==("__classdict__":Str))=false:=by decide):PE X (.Name x pos) (Gg i):=gH hN hv hd hcd
end
theorem Je{A B:Prop}(h:B):if false=true then A else B:=by rw[if_neg C_];exact h
theorem Jb{A B:Prop}(h:A):if true=true then A else B:=by rw[if_pos rfl];exact h
def bH(H H':Hp):Prop:=∀b o,H b=some o->H' b=some o
theorem bH.seq {K:N7}{H H':Hp}{a:N8}{xs:List V}(e:bH H H')(h:SqL K H a xs):SqL K H' a xs:=by
 rcases h with (h|⟨o,h⟩)|h
 ·exact .inl (.inl (e _ _ h))
 ·exact .inl (.inr ⟨o,e _ _ h⟩)
 exact .inr h
end L2
namespace ZG
open PySem
noncomputable def Sq(b:Bool)(h:Ou)(l:N8)(xs:Array N5):Prop:=match b with
 |true=>h.IsTuple l xs
 |false=>h.IsList l xs
noncomputable def Dr(b:Bool)(h:Ou)(i l:N8)(k:Nat):Prop:=match b with
 |true=>h.IsTupleIter i l k
 |false=>h.IsListIter i l k
variable {b:Bool}{h h':Ou}{xs:Array N5}
theorem Sq.ext {l c:N8}(x:Sq b h l xs)(k:Q6 c h h')(n:l≠c):Sq b h' l xs:=by
 cases b with
 |true=>exact UY (show h.IsTuple l xs from x) k n
 |false=>exact U6 (show h.IsList l xs from x) k n
variable {i:N8}
theorem Dr.ext {l c:N8}{k:Nat}(x:Dr b h i l k)(e:Q6 c h h')(n:i≠c):Dr b h' i l k:=by
 cases b with
 |true=>exact Ut (show h.IsTupleIter i l k from x) e n
 |false=>exact UE (show h.IsListIter i l k from x) e n
theorem Dr.some {b:Bool}{h:Ou}{i l:N8}{k:Nat}(x:Dr b h i l k):∃o,h.get? i=some o/\∀v,o.data≠.cell v:=by
 cases b with
 |true=>obtain⟨o,e,_,d⟩:=(show h.IsTupleIter i l k from x);exact⟨o,e,fun v z=>by rw[d]at z;cases z⟩
 |false=>obtain⟨o,e,_,d⟩:=(show h.IsListIter i l k from x);exact⟨o,e,fun v z=>by rw[d]at z;cases z⟩
theorem Dr.at {l:N8}{k:Nat}(x:Dr b h i l k)(e:∀o,h.get? i=NV o->h'.get? i=NV o):Dr b h' i l k:=by
 cases b with
 |true=>obtain⟨o,q,r⟩:=(show h.IsTupleIter i l k from x);exact⟨o,e o q,r⟩
 |false=>obtain⟨o,q,r⟩:=(show h.IsListIter i l k from x);exact⟨o,e o q,r⟩
variable {Q:N5->N9->Prop}{a:N5}{b1 b2:Bool}{i1 i2 l1 l2 z:N8}{ys:Array N5}
section
variable{prog:Oj}{w:Ot}{A:OB}{E:N5->N9->Prop}{s:N9}
theorem Cq{l:N8}{k:Nat}{v:N5}(d:s.heap.IsTupleIter i l k)(q:s.heap.IsTuple l xs)(hv:xs[k]?=some v)
  (r:∀g,g.IsTupleIter i l (k+1)->O1 i s.heap g->Q v {s with heap:=g}):Of (Oq prog w) A (OI (.ref i)) Q E s:=by
 obtain⟨oi,hoi,ci,di⟩:=id d;obtain⟨ol,hol,_,nl,dl⟩:=q;unfold OI;refine N6 (O3 (name:=P0 "__next__") d.typeIs PK (O6 PK d.typeIs Q9 ?_ (Q0 _)));show Of _ _ (R9 (.ref i) 0 >>= _) _ _ s;refine N6 (Pc hoi di (x:=.ref l) rfl ?_);show Of _ _ (if(OC l == OL)=true then _ else _) _ _ s;rw[if_neg (show ¬((OC l == OL)=true)from C_)];show Of _ _ (R9 (.ref i) 1 >>= _) _ _ s;refine N6 (Pc hoi di (x:=.int k 0) rfl ?_);show Of _ _ (seqItems? (.ref l) >>= _) _ _ s;refine N6 (O8 hol dl ?_);simp only[LW,hv];refine N6 (Q1 hoi di (by simp) (Oa ⟨v,rfl,Oa (r _ ?_ (Pp ..))⟩));exact⟨_,Qc _ hoi (RW (Qq di _)),(Sy ..).trans ci,by rw[Qq di];simp[QB]⟩
theorem Fj{l:N8}{k:Nat}(hh:A.handled=none)(d:s.heap.IsTupleIter i l k)(q:s.heap.IsTuple l xs)(hv:xs[k]?=none)
  (r:∀g e,Q6 i s.heap g->(∃o,g.get? e=some o/\o.cls=.type "StopIteration")->E (.ref e) {s with heap:=g}):Of (Oq prog w) A (OI (.ref i)) Q E s:=by
 obtain⟨oi,hoi,ci,di⟩:=id d;obtain⟨ol,hol,_,nl,dl⟩:=q;unfold OI;refine N6 (O3 (name:=P0 "__next__") d.typeIs PK (O6 PK d.typeIs Q9 ?_ (Q0 _)));show Of _ _ (R9 (.ref i) 0 >>= _) _ _ s;refine N6 (Pc hoi di (x:=.ref l) rfl ?_);show Of _ _ (if(OC l == OL)=true then _ else _) _ _ s;rw[if_neg (show ¬((OC l == OL)=true)from C_)];show Of _ _ (R9 (.ref i) 1 >>= _) _ _ s;refine N6 (Pc hoi di (x:=.int k 0) rfl ?_);show Of _ _ (seqItems? (.ref l) >>= _) _ _ s;refine N6 (O8 hol dl ?_);simp only[LW,hv];refine N6 (Rm (N6 (Q1 hoi di (by simp) ?_)));show Of _ _ (Ui (.type "StopIteration") [] >>= _) _ _ _;refine N6 ?_;simp only[Ui,newTuple];refine N6 (PQ ?_ (by size_fits));refine N6 (m:=Q2 _ _) (Q7 (a:=OL) (by first|rfl|(simp only[Q2];rfl)) ?_);refine PQ ?_ (by size_fits);simp only[raiseNew];refine N6 (T4 ?_)
 first|rw[show A.in1.handled=none from hh]|rw[hh]
 refine N6 (Oa (UG ?_));exact r _ _ (((Pp ..).extBut.push _).push _) ⟨_,Oo _ rfl,rfl⟩
theorem vV{l:N8}{k:Nat}{v:N5}(d:Dr b s.heap i l k)(q:Sq b s.heap l xs)(hv:xs[k]?=some v)
  (r:∀g,Dr b g i l (k+1)->O1 i s.heap g->Q v {s with heap:=g}):Of (Oq prog w) A (OI (.ref i)) Q E s:=by
 cases b with
 |true=>exact Cq d q hv r
 |false=>exact wpAny_nextOf_list_item d q hv r
theorem Et{l:N8}{k:Nat}(hh:A.handled=none)(d:Dr b s.heap i l k)(q:Sq b s.heap l xs)(hv:xs[k]?=none)
  (r:∀g e,Q6 i s.heap g->(∃o,g.get? e=some o/\o.cls=.type "StopIteration")->E (.ref e) {s with heap:=g}):Of (Oq prog w) A (OI (.ref i)) Q E s:=by
 cases b with
 |true=>exact Fj hh d q hv r
 |false=>exact wpAny_nextOf_list_end hh d q hv r
structure Off (z TI TO i1 i2 l1 l2:N8):Prop where
 a1:TI≠z
 a2:TO≠z
 a3:i1≠z
 a4:i2≠z
 a5:TI≠TO
 a6:TI≠i1
 a7:TI≠i2
 a8:TO≠i1
 a9:TO≠i2
 b1:i1≠i2
 c1:l1≠z
 c2:l1≠TO
 c3:l1≠i1
 c4:l1≠i2
 e1:l2≠z
 e2:l2≠TO
 e3:l2≠i1
 e4:l2≠i2
theorem IV{TI TO:N8}{k:Nat}{x y b:N5}(D:Off z TI TO i1 i2 l1 l2)
  (hz:Qd s.heap z TI TO .none) (hi:Pe s.heap TI (.ref i1) (.ref i2)) (ho:Pe s.heap TO a b)
  (d1:Dr b1 s.heap i1 l1 k) (d2:Dr b2 s.heap i2 l2 k) (q1:Sq b1 s.heap l1 xs) (q2:Sq b2 s.heap l2 ys) (hx:xs[k]?=some x) (hy:ys[k]?=some y)
  (r:∀g,Qd g z TI TO (QB s.heap.objs.size)->Pe g TO x y->Dr b1 g i1 l1 (k+1)->Dr b2 g i2 l2 (k+1)->Pe g s.heap.objs.size x y->g.objs.size=s.heap.objs.size+1->
   (∀c o,c≠z->c≠TO->c≠i1->c≠i2->s.heap.get? c=some o->g.get? c=some o)->Q (.ref s.heap.objs.size) {s with heap:=g}) :
  Of (Oq prog w) A (Qj.«zip.__next__» ⟨[.ref z],[]⟩) (fun fin s'=>∃v,fin=.done (.ret v)/\Q v s') E s:=by
 show Of _ _ (R9 (.ref z) 2 >>= _) _ _ _;refine N6 (Pc hz rfl (x:=.bool false) rfl ?_);show Of _ _ (R9 (.ref z) 3 >>= _) _ _ _;refine N6 (Pc hz rfl (x:=.ref TI) rfl (N6 (O8 hi rfl ?_)));show Of _ _ (O9 (.ref z) >>= _) _ _ _;refine N6 ?_;unfold O9;refine N6 (Pc hz rfl (x:=.none) rfl (Oa ?_));simp only[if_true];refine N6 (Rm (N6 (Pc hz rfl (x:=.ref TO) rfl (N6 (PH hz (by simp) fun g1 z1 s1=>?_)))));have z1:Qd g1 z TI TO .ellipsis:=z1;refine N6 ?_;simp only[MA,Nx,MO,MY];refine N6 (N6 (Rc ?_));show Of _ _ (OI (.ref i1) >>= _) _ _ _;refine N6 (vV (d1.ext s1.extBut D.a3) (q1.ext s1.extBut D.c1) hx fun g2 w2 s2=>Oa ?_);have o2:Pe g2 TO a b:=s2.extBut _ _ D.a8 (s1.extBut _ _ D.a2 ho);refine N6 (O8 o2 rfl (N6 (QP o2 fun g3 o3 s3=>?_)));have o3:Pe g3 TO x b:=o3;refine N6 (RP (Oa (N6 (N6 (Rc ?_)))));show Of _ _ (OI (.ref i2) >>= _) _ _ _;refine N6 (vV (((d2.ext s1.extBut D.a4).ext s2.extBut D.b1.symm).ext s3.extBut D.a9.symm) (((q2.ext s1.extBut D.e1).ext s2.extBut D.e3).ext s3.extBut D.e2) hy fun g4 w4 s4=>Oa ?_);have o4:Pe g4 TO x b:=s4.extBut _ _ D.a9 o3;refine N6 (O8 o4 rfl (N6 (QP o4 fun g5 o5 s5=>?_)));have o5:Pe g5 TO x y:=o5;refine N6 (RP (Oa (Oa (N6 (O8 o5 rfl (N6 (Tu ?_)))))));have sz:g5.objs.size=s.heap.objs.size:=by rw[s5.1,s4.1,s3.1,s2.1,s1.1]
 have z5:Qd g5 z TI TO .ellipsis:=s5.extBut _ _ D.a2.symm (s4.extBut _ _ D.a4.symm (s3.extBut _ _ D.a2.symm (s2.extBut _ _ D.a3.symm z1)));have k5:∀c o,c≠z->c≠TO->c≠i1->c≠i2->s.heap.get? c=some o->g5.get? c=some o:=fun c o n1 n2 n3 n4 e=>
  s5.extBut _ _ n2 (s4.extBut _ _ n4 (s3.extBut _ _ n2 (s2.extBut _ _ n3 (s1.extBut _ _ n1 e))))
 have w15:Dr b1 g5 i1 l1 (k+1):=((w2.ext s3.extBut D.a8.symm).ext s4.extBut D.b1).ext s5.extBut D.a8.symm;have w25:Dr b2 g5 i2 l2 (k+1):=w4.ext s5.extBut D.a9.symm;have zlt:z<g5.objs.size:=Ol z5;show Of _ _ (Qr (.ref z) (.ref g5.objs.size) >>= _) _ _ _;refine N6 ?_;unfold Qr;have z6:Qd (g5.push { cls:=.type "tuple",data:=.seq #[x,y] }) z TI TO .ellipsis:=Oe _ z5;refine N6 (PH z6 (by simp) fun g7 z7 s7=>?_);have z7:Qd g7 z TI TO (QB g5.objs.size):=z7;refine PH z7 (by simp) fun g8 z8 s8=>?_
 have z8:Qd g8 z TI TO (QB g5.objs.size):=z8;have up:∀c o,c≠z->g5.get? c=some o->g8.get? c=some o:=fun c o n e=>s8.extBut _ _ n (s7.extBut _ _ n (Oe _ e));have t8:Pe g8 g5.objs.size x y:=s8.extBut _ _ (Lp zlt) (s7.extBut _ _ (Lp zlt) (Oo _ rfl));have e8:g8.objs.size=g5.objs.size+1:=by rw[s8.1,s7.1,O_]
 rw[sz]at z8 t8 e8;refine Oa ⟨_,rfl,?_⟩;show Q (.ref g5.objs.size) _;rw[sz];exact r g8 z8 (up _ _ D.a2 o5) (w15.at fun o e=>up _ o D.a3 e) (w25.at fun o e=>up _ o D.a4 e) t8 e8 fun c o n1 n2 n3 n4 e=>up c o n1 (k5 c o n1 n2 n3 n4 e)
theorem zEnd{TI TO:N8}{k:Nat}{b:N5}{Q:Fin->N9->Prop}(hh:A.handled=none)(D:Off z TI TO i1 i2 l1 l2)
  (hz:Qd s.heap z TI TO .none) (hi:Pe s.heap TI (.ref i1) (.ref i2)) (ho:Pe s.heap TO a b)
  (d1:Dr b1 s.heap i1 l1 k) (d2:Dr b2 s.heap i2 l2 k) (q1:Sq b1 s.heap l1 xs) (q2:Sq b2 s.heap l2 ys) (hn:xs[k]?=none\/ys[k]?=none)
  (r:∀g e,(∀c o,c≠z->c≠TO->c≠i1->c≠i2->s.heap.get? c=some o->g.get? c=some o)->(∃o,g.get? e=some o/\o.cls=.type "StopIteration")->E (.ref e) {s with heap:=g}) :
  Of (Oq prog w) A (Qj.«zip.__next__» ⟨[.ref z],[]⟩) Q E s:=by
 show Of _ _ (R9 (.ref z) 2 >>= _) _ _ _;refine N6 (Pc hz rfl (x:=.bool false) rfl ?_);show Of _ _ (R9 (.ref z) 3 >>= _) _ _ _;refine N6 (Pc hz rfl (x:=.ref TI) rfl (N6 (O8 hi rfl ?_)));show Of _ _ (O9 (.ref z) >>= _) _ _ _;refine N6 ?_;unfold O9;refine N6 (Pc hz rfl (x:=.none) rfl (Oa ?_));simp only[if_true];refine N6 (Rm (N6 (Pc hz rfl (x:=.ref TO) rfl (N6 (PH hz (by simp) fun g1 z1 s1=>?_)))));have z1:Qd g1 z TI TO .ellipsis:=z1;refine N6 ?_;simp only[MA,Nx,MO,MY];refine N6 (N6 (Rc ?_));show Of _ _ (OI (.ref i1) >>= _) _ _ _;cases hx:xs[k]? with
 |none=>
  refine N6 (Et hh (d1.ext s1.extBut D.a3) (q1.ext s1.extBut D.c1) hx fun g2 e s2 he=>?_);obtain⟨oe,hoe,ce⟩:=he;have z2:Qd g2 z TI TO .ellipsis:=s2 _ _ D.a3.symm z1;have ne:e≠z:=fun q=>by subst q;rw[z2]at hoe;cases hoe;simp at ce
  exact PH z2 (by simp) fun g3 _ s3=>r g3 e (fun c o n1 _ n3 _ q=>s3.extBut _ _ n1 (s2 _ _ n3 (s1.extBut _ _ n1 q))) ⟨oe,s3.extBut _ _ ne hoe,ce⟩
 |some x=>
  have hy:ys[k]?=none:=by
   rcases hn with h|h
   ·rw[hx]at h;cases h
   exact h
  refine N6 (vV (d1.ext s1.extBut D.a3) (q1.ext s1.extBut D.c1) hx fun g2 w2 s2=>Oa ?_);have o2:Pe g2 TO a b:=s2.extBut _ _ D.a8 (s1.extBut _ _ D.a2 ho);refine N6 (O8 o2 rfl (N6 (QP o2 fun g3 o3 s3=>?_)));refine N6 (RP (Oa (N6 (N6 (Rc ?_)))));show Of _ _ (OI (.ref i2) >>= _) _ _ _;refine N6 (Et hh (((d2.ext s1.extBut D.a4).ext s2.extBut D.b1.symm).ext s3.extBut D.a9.symm) (((q2.ext s1.extBut D.e1).ext s2.extBut D.e3).ext s3.extBut D.e2) hy fun g4 e s4 he=>?_);obtain⟨oe,hoe,ce⟩:=he;have z4:Qd g4 z TI TO .ellipsis:=s4 _ _ D.a4.symm (s3.extBut _ _ D.a2.symm (s2.extBut _ _ D.a3.symm z1));have ne:e≠z:=fun q=>by subst q;rw[z4]at hoe;cases hoe;simp at ce
  exact PH z4 (by simp) fun g5 _ s5=>r g5 e (fun c o n1 n2 n3 n4 q=>s5.extBut _ _ n1 (s4 _ _ n4 (s3.extBut _ _ n2 (s2.extBut _ _ n3 (s1.extBut _ _ n1 q))))) ⟨oe,s5.extBut _ _ ne hoe,ce⟩
theorem uH{TI TO:N8}{k:Nat}{x y b:N5}{Q:Option N5->N9->Prop}(D:Off z TI TO i1 i2 l1 l2)
  (hz:Qd s.heap z TI TO .none) (hi:Pe s.heap TI (.ref i1) (.ref i2)) (ho:Pe s.heap TO a b)
  (d1:Dr b1 s.heap i1 l1 k) (d2:Dr b2 s.heap i2 l2 k) (q1:Sq b1 s.heap l1 xs) (q2:Sq b2 s.heap l2 ys) (hx:xs[k]?=some x) (hy:ys[k]?=some y)
  (r:∀g,Qd g z TI TO (QB s.heap.objs.size)->Pe g TO x y->Dr b1 g i1 l1 (k+1)->Dr b2 g i2 l2 (k+1)->Pe g s.heap.objs.size x y->g.objs.size=s.heap.objs.size+1->
   (∀c o,c≠z->c≠TO->c≠i1->c≠i2->s.heap.get? c=some o->g.get? c=some o)->Q (some (.ref s.heap.objs.size)) {s with heap:=g}) :
  Of (Oq prog w) A (Qe (.ref z)) Q E s:=by
 have hT:s.TypeIs (.ref z) "zip":=⟨_,hz,rfl⟩;unfold Qe;refine N6 (PN (O3 (name:=P0 "__next__") hT QQ (O6 QQ hT SR ?_ (Sz _))));exact IV D hz hi ho d1 d2 q1 q2 hx hy fun g p1 p2 p3 p4 p5 p6 p7=>Oa (r g p1 p2 p3 p4 p5 p6 p7)
theorem xa{TI TO:N8}{k:Nat}{b:N5}{Q:Option N5->N9->Prop}(hh:A.handled=none)(D:Off z TI TO i1 i2 l1 l2)
  (hz:Qd s.heap z TI TO .none) (hi:Pe s.heap TI (.ref i1) (.ref i2)) (ho:Pe s.heap TO a b)
  (d1:Dr b1 s.heap i1 l1 k) (d2:Dr b2 s.heap i2 l2 k) (q1:Sq b1 s.heap l1 xs) (q2:Sq b2 s.heap l2 ys) (hn:xs[k]?=none\/ys[k]?=none)
  (r:∀g,(∀c o,c≠z->c≠TO->c≠i1->c≠i2->s.heap.get? c=some o->g.get? c=some o)->Q none {s with heap:=g}):Of (Oq prog w) A (Qe (.ref z)) Q E s:=by
 have hT:s.TypeIs (.ref z) "zip":=⟨_,hz,rfl⟩;unfold Qe;refine N6 (PN (O3 (name:=P0 "__next__") hT QQ (O6 QQ hT SR (zEnd hh D hz hi ho d1 d2 q1 q2 hn fun g e k he=>?_) (Sz _))));obtain⟨o,he,hc⟩:=he;exact N6 (SU (T:="StopIteration") (b:=true) ⟨o,he,hc⟩ Tv (Oa (r _ k)))
end
def nm(b:Bool):String:=if b=true then "tuple_iterator" else "list_iterator"
abbrev Z1(h:Ou)(b1:Bool)(l1:N8):Ou:=h.push { cls:=.type (nm b1),data:=.fields #[.ref l1,.int 0 0] }
abbrev Z2(h:Ou)(b1 b2:Bool)(l1 l2:N8):Ou:=(Z1 h b1 l1).push { cls:=.type (nm b2),data:=.fields #[.ref l2,.int 0 0] }
abbrev Z3(h:Ou)(b1 b2:Bool)(l1 l2:N8):Ou:=(Z2 h b1 b2 l1 l2).push { cls:=.type "tuple",data:=.seq #[.ref h.objs.size,.ref (Z1 h b1 l1).objs.size] }
abbrev Z4(h:Ou)(b1 b2:Bool)(l1 l2:N8):Ou:=(Z3 h b1 b2 l1 l2).push { cls:=.type "tuple",data:=.seq #[.none,.none] }
abbrev Z5(h:Ou)(b1 b2:Bool)(l1 l2:N8):Ou:=(Z4 h b1 b2 l1 l2).push { cls:=.type "zip",data:=.fields #[.none,.bool false,.bool false,.ref (Z2 h b1 b2 l1 l2).objs.size,.ref (Z3 h b1 b2 l1 l2).objs.size] }
theorem Cd(b1 b2:Bool)(l1 l2:N8)(xs ys:Array N5) :
  Meets (Qj.«zip.__new__» ⟨[.type "zip",.ref l1,.ref l2],[]⟩) (fun _ R s=>Sq b1 s.heap l1 xs/\Sq b2 s.heap l2 ys/\R (.ok (.ret (.ref (Z4 s.heap b1 b2 l1 l2).objs.size))) {s with heap:=Z5 s.heap b1 b2 l1 l2}):=
 .of_wp fun prog w A R s h=>by
  obtain⟨hp,g,d,tk,os⟩:=s;obtain⟨q1,q2,h⟩:=h;have hsub:=sub_zip;cases b1 with
  |false=>
   have p1:SK (QD ⟨hp,g,d,tk,os⟩) l1 xs:=q1;cases b2 with
   |false=>
    have p2:SK (QD ⟨hp.push { cls:=.type "list_iterator",data:=.fields #[.ref l1,.int 0 0] },g,d,tk,os⟩) l2 ys:=SX q2 _
    wp_walk using Pm p1,Pm p2
    exact⟨_,rfl,h⟩
   |true=>
    have p2:Su (QD ⟨hp.push { cls:=.type "list_iterator",data:=.fields #[.ref l1,.int 0 0] },g,d,tk,os⟩) l2 ys:=SD q2 _
    wp_walk using Pm p1,Pj p2
    exact⟨_,rfl,h⟩
  |true=>
   have p1:Su (QD ⟨hp,g,d,tk,os⟩) l1 xs:=q1;cases b2 with
   |false=>
    have p2:SK (QD ⟨hp.push { cls:=.type "tuple_iterator",data:=.fields #[.ref l1,.int 0 0] },g,d,tk,os⟩) l2 ys:=SX q2 _
    wp_walk using Pj p1,Pm p2
    exact⟨_,rfl,h⟩
   |true=>
    have p2:Su (QD ⟨hp.push { cls:=.type "tuple_iterator",data:=.fields #[.ref l1,.int 0 0] },g,d,tk,os⟩) l2 ys:=SD q2 _
    wp_walk using Pj p1,Pj p2
    exact⟨_,rfl,h⟩
section
variable{prog:Oj}{w:Ot}{A:OB}{E:N5->N9->Prop}{s:N9}
theorem AD(q1:Sq b1 s.heap l1 xs)(q2:Sq b2 s.heap l2 ys)
  (r:∀g,Qd g (s.heap.objs.size+4) (s.heap.objs.size+2) (s.heap.objs.size+3) .none->Pe g (s.heap.objs.size+2) (.ref s.heap.objs.size) (.ref (s.heap.objs.size+1))->Pe g (s.heap.objs.size+3) .none .none->
    Dr b1 g s.heap.objs.size l1 0->Dr b2 g (s.heap.objs.size+1) l2 0->g.objs.size=s.heap.objs.size+5->(∀c o,s.heap.get? c=some o->g.get? c=some o)->Q (.ref (s.heap.objs.size+4)) {s with heap:=g}) :
  Of (Oq prog w) A (call (.type "zip") [.ref l1,.ref l2]) Q E s:=by
 refine callType_new F.called_zip (by decide) (F.typeCall_zip_2 _ _) (F.newCall_zip_2 _ _) (fun obj=>F.args_object_init_3 obj _ _) F.entry_zip_new (Cd b1 b2 l1 l2 xs ys) ⟨q1,q2,?_⟩;have z1:(Z1 s.heap b1 l1).objs.size=s.heap.objs.size+1:=O_ ..;have z2:(Z2 s.heap b1 b2 l1 l2).objs.size=s.heap.objs.size+2:=by rw[O_,z1]
 have z3:(Z3 s.heap b1 b2 l1 l2).objs.size=s.heap.objs.size+3:=by rw[O_,z2]
 have z4:(Z4 s.heap b1 b2 l1 l2).objs.size=s.heap.objs.size+4:=by rw[O_,z3]
 have z5:(Z5 s.heap b1 b2 l1 l2).objs.size=s.heap.objs.size+5:=by rw[O_,z4]
 have u5:∀c o,(Z4 s.heap b1 b2 l1 l2).get? c=some o->(Z5 s.heap b1 b2 l1 l2).get? c=some o:=fun c o e=>Oe _ e;have u4:∀c o,(Z3 s.heap b1 b2 l1 l2).get? c=some o->(Z5 s.heap b1 b2 l1 l2).get? c=some o:=fun c o e=>u5 c o (Oe _ e);have u3:∀c o,(Z2 s.heap b1 b2 l1 l2).get? c=some o->(Z5 s.heap b1 b2 l1 l2).get? c=some o:=fun c o e=>u4 c o (Oe _ e);have u2:∀c o,(Z1 s.heap b1 l1).get? c=some o->(Z5 s.heap b1 b2 l1 l2).get? c=some o:=fun c o e=>u3 c o (Oe _ e);have g5:(Z5 s.heap b1 b2 l1 l2).get? (Z4 s.heap b1 b2 l1 l2).objs.size=some _:=Oo _ rfl;have g4:=u5 (Z3 s.heap b1 b2 l1 l2).objs.size _ (Oo _ rfl);have g3:=u4 (Z2 s.heap b1 b2 l1 l2).objs.size _ (Oo _ rfl);have g2:=u3 (Z1 s.heap b1 l1).objs.size _ (Oo _ rfl);have g1:=u2 s.heap.objs.size _ (Oo _ rfl);show _/\_;rw[z2,z3,z4]at g5;rw[z1,z2]at g3;rw[z3]at g4;rw[z1]at g2;rw[z4];refine⟨⟨_,g5,rfl⟩,r _ g5 g3 g4 ?_ ?_ z5 fun c o e=>u2 c o (Oe _ e)⟩
 ·cases b1 with
  |true=>exact⟨_,g1,rfl,rfl⟩
  |false=>exact⟨_,g1,rfl,rfl⟩
 cases b2 with
 |true=>exact⟨_,g2,rfl,rfl⟩
 |false=>exact⟨_,g2,rfl,rfl⟩
end
end ZG
namespace L2
open PySem PySem.Spec PyProof.Rows
noncomputable def eK(env:Env):List (Str×PZ)->List (Str×N8)->List (Str×N8)
 | [],cs=>cs
 |x::r,cs=>eK env r (if(x.2 == Pg)=true then(x.1,(env.cells.lookup x.1).getD 0)::cs else cs)
theorem oM{env:Env}(f:Str×PZ->List (Str×N8)->Sem (ForInStep (List (Str×N8))))(hf:∀n k cs,f (n,k) cs=if(k == Pg)=true then(do let a <-cellOf env n;pure (Ox ((n,a)::cs)))else pure (Ox cs)) :
  ∀(names:List (Str×PZ)) (cs:List (Str×N8)),(∀x∈names,x.2=.free->∃c,env.cells.lookup x.1=some c)->forIn names cs f=pure (eK env names cs)
 | [],cs,_=>by rw[MY];rfl
 | (n,k)::r,cs,h=>by
  rw[MO,hf];have hr:∀x∈r,x.2=.free->∃c,env.cells.lookup x.1=some c:=fun x hx=>h x (j_ _ hx);by_cases e:(k == Pg)=true
  ·obtain⟨c,hc⟩:=h (n,k) n_ (by simpa using e);have hc':env.cells.lookup n=some c:=hc;rw[if_pos e];have q:cellOf env n=pure c:=by unfold cellOf;rw[hc']
   rw[q,pure_bind,pure_bind];show forIn r ((n,c)::cs) f=pure (eK env ((n,k)::r) cs);rw[oM f hf r _ hr];unfold eK;rw[if_pos e,hc'];cases r <;> rfl
  rw[if_neg e,pure_bind];show forIn r cs f=pure (eK env ((n,k)::r) cs);rw[oM f hf r _ hr]
  conv=>rhs;unfold eK
  rw[if_neg e]
variable {sc:O4}
theorem pq{env:Env}(h:∀x∈sc.names,x.2=.free->∃c,env.cells.lookup x.1=some c):closureFor sc env=pure (eK env sc.names []):=by
 unfold closureFor;show(forIn sc.names [] _ >>= fun cs=>pure cs)=_;rw[oM (env:=env) _ (fun n k cs=>by cases e:k == Pg <;> simp[e]) sc.names [] h]
 rfl
theorem vd{env:Env}:∀{names:List (Str×PZ)}{cs:List (Str×N8)}{x:Str}{c:N8},(∀y∈names,y.2=.free->∃c,env.cells.lookup y.1=some c)->(eK env names cs).lookup x=some c->
  (env.cells.lookup x=some c/\(x,Pg)∈names)\/cs.lookup x=some c
 | [],cs,x,c,_,h=>.inr h
 | (n,k)::r,cs,x,c,hn,h=>by
  unfold eK at h;have hr:∀y∈r,y.2=.free->∃c,env.cells.lookup y.1=some c:=fun y hy=>hn y (j_ _ hy);have hh:=vd hr h;clear h;rcases hh with⟨h1,h2⟩|h
  ·exact .inl ⟨h1,j_ _ h2⟩
  by_cases e:(k == Pg)=true
  ·rw[if_pos e]at h;obtain⟨c',hc⟩:=hn (n,k) n_ (by simpa using e);have hc':env.cells.lookup n=some c':=hc;rw[hc',Lu]at h;by_cases ex:(x == n)=true
   ·rw[ex]at h;have ex':x=n:=by simpa using ex
    have ek:k=Pg:=by simpa using e
    subst ex' ek;have h':c'=c:=I_ h;subst h';exact .inl ⟨hc',n_⟩
   have ex':(x == n)=false:=by simpa using ex
   rw[ex']at h;exact .inr h
  rw[if_neg e]at h;exact .inr h
theorem uS{env:Env}:∀{names:List (Str×PZ)}{cs:List (Str×N8)}{x:Str}{c:N8},(∀y∈names,y.2=.free->∃c,env.cells.lookup y.1=some c)->env.cells.lookup x=some c->cs.lookup x=some c->(eK env names cs).lookup x=some c
 | [],cs,x,c,_,_,h=>h
 | (n,k)::r,cs,x,c,hn,he,h=>by
  unfold eK;refine uS (fun y hy=>hn y (j_ _ hy)) he ?_;by_cases e:(k == Pg)=true
  ·rw[if_pos e,Lu];by_cases ex:(x == n)=true
   ·rw[ex];have ex':x=n:=by simpa using ex
    subst ex';show some ((env.cells.lookup x).getD 0)=some c;rw[he];rfl
   have ex':(x == n)=false:=by simpa using ex
   rw[ex'];exact h
  rw[if_neg e];exact h
theorem se{env:Env}:∀{names:List (Str×PZ)}{cs:List (Str×N8)}{x:Str}{c:N8},(∀y∈names,y.2=.free->∃c,env.cells.lookup y.1=some c)->env.cells.lookup x=some c->(x,Pg)∈names->(eK env names cs).lookup x=some c
 | (n,k)::r,cs,x,c,hn,he,hm=>by
  have hr:∀y∈r,y.2=.free->∃c,env.cells.lookup y.1=some c:=fun y hy=>hn y (j_ _ hy);unfold eK;rcases o_.mp hm with e|hm
  ·obtain⟨rfl,rfl⟩:=NW e;rw[if_pos (by rfl)];refine uS hr he ?_;rw[Lu,beq_self_eq_true];show some ((env.cells.lookup x).getD 0)=some c;rw[he];rfl
  exact se hr he hm
noncomputable def oI(env:Env)(sc:O4):O4:={sc with names:=sc.names.map fun x=>if(x.2 == .free&&env.scope.kind == .function&&env.kindOf x.1 == some .cell)=true then(x.1,.cell)else(x.1,x.2) }
theorem lH{f:Str×PZ->Bool}(x:Str):∀names:List (Str×PZ),(names.map fun y=>if f y=true then(y.1,Vj)else(y.1,y.2)).lookup x=(names.lookup x).map fun k=>if f (x,k)=true then .cell else k
 | []=>rfl
 | (n,k)::r=>by
  rw[f'];by_cases ex:(x == n)=true
  ·have ex':x=n:=by simpa using ex
   subst ex';cases e:f (x,k) <;> simp[e,Lu]
  have ex':(x == n)=false:=by simpa using ex
  have ih:=lH (f:=f) x r;cases e:f (n,k) <;> simp only[e,if_true,if_false,Jv,Lu,ex',ih]
theorem lZ(env:Env)(sc:O4)(x:Str):(oI env sc).names.lookup x=(sc.names.lookup x).map fun k=>if(k == .free&&env.scope.kind == .function&&env.kindOf x == some .cell)=true then .cell else k:=
 lH (f:=fun y=>(y.2 == .free&&env.scope.kind == .function&&env.kindOf y.1 == some .cell)) x sc.names
noncomputable def compEnv(env:Env)(sc:O4)(L:N8):Env:={ newEnv sc L env.globals (eK env sc.names []) env.qual none .none (some env) R5 with scope:=oI env sc}
variable {Q:N5->N9->Prop}{e:Ov}{gs:List Rf}{newAcc:Sem N5}{pos:Pos}{scope:O4}
section
variable{M:P_}{A:OB}{E:N5->N9->Prop}{s:N9}{env:Env}
theorem mY{first:Sem N5}{g:Rf}
  (hcl:clausesOf e=g::gs) (hs:∀x,OX g.iter env x=pure x)
  (hc:∀x∈scope.names,x.2≠.cell) (hfr:∀x∈scope.names,x.2=.free->∃c,env.cells.lookup x.1=some c) (hkind:scope.kind=.function) (hnames:∀x∈scope.names,x.2=.local->scope.names.lookup x.1=some .local)
  (h:Of M A first (fun x s₁=>Of M A (Ru x) (fun it s₂=>Of M A newAcc (fun acc s₃=>
   ∀h4,h4.Ns s₃.heap.objs.size (fun _=>none)->(∀b o,s₃.heap.get? b=some o->h4.get? b=some o)->
    Qh M A (.compStart e 0 it acc (compEnv env scope s₃.heap.objs.size)) (fun r s'=>∃m,s'.heap.Ns s₃.heap.objs.size m/\∀h',O1 s₃.heap.objs.size s'.heap h'->
     match r with | .ok _=>Q acc {s' with heap:=h'} | .error x=>False) { s₃ with heap:=h4}) E s₂) E s₁) E s) :
  Of M A (QH e scope env pos newAcc false first) Q E s:=by
 unfold QH;rw[pq hfr,hcl];refine N6 (OG h (fun x s₁ h₁=>N6 (QF (N6 (Q7 (hs x) (N6 (OH (OG h₁ (fun it s₂ h₂=>
  T5 (N6 (OG h₂ (fun acc s₃ h₃=>N6 (Oa (N6 ?_))) fun _ _ h'=>h')))
   fun _ _ h'=>h'))))))) fun _ _ h'=>h')
 refine R_ hc (fun x hx=>nomatch hx) (fun h4 hn4 hs4=>?_) hkind;have h₄:=h₃ h4 hn4 fun b o e=>hs4.extBut b o (w_ (Ol e)) (Oe _ e);dsimp only;have hv:∀x∈(scope.names.filter fun x=>(x.2 == .local || x.2 == .cell)&&x.1 !=(".0":Str)).reverse,x.2=.local->
   Td (compEnv env scope s₃.heap.objs.size) x.1=some .local:=fun x hx hl=>by
  show(oI env scope).names.lookup x.1=some .local;rw[lZ,hnames x (JJ.mp (K4.mp hx)).1 hl]
  rfl
 refine OH (N6 (PN (OH (wpAny_run (PY h₄ fun r s' hr=>?_)))));obtain⟨m,hn,hr⟩:=hr;cases r with
 |ok f=>exact N6 (OH (SY (cenv:=compEnv env scope s₃.heap.objs.size) hkind _ s' m hv hn fun h' m' _ hs'=>Oa (hr h' hs')))
 |error x=>exact(hr s'.heap (.refl ..)).elim
end
variable {elt iter target:Ov}{ifs:List Ov}
section
variable{prog:Oj}{w:Ot}{A:OB}{R:Result->N9->Prop}{s:N9}
theorem nO{it acc:N5}{env:Env}(I:Nat->N9->Prop)
  (turn:∀n s,I n s->Of (Oq prog w) A (Qe it) (fun r s₁=>match r with
   |none=>R (.ok .next) s₁
   |some v=>Of (Oq prog w) A (QN target it v) (fun _ s₁'=>Of (Oq prog w) A (QA target env v) (fun _ s₂=>
     Of (Oq prog w) A (forIn ifs true fun c r=>if r=true then do let ok <-Sl c env (OK c env);pure (Ox ok)else pure (Ox r)) (fun ok s₃=>
      if ok=true then Of (Oq prog w) A (OK elt env) (fun x s₄=>
       Of (Oq prog w) A (call (.builtin "list.append") [acc,x]) (fun _ s₅=>∃m,m<n/\I m s₅) (fun _ _=>False) s₄) (fun _ _=>False) s₃
      else ∃m,m<n/\I m s₃) (fun _ _=>False) s₂) (fun _ _=>False) s₁') (fun _ _=>False) s₁) (fun _ _=>False) s)
  (n:Nat) (h:I n s) :
  Qh (Oq prog w) A (.compLoop (.ListComp elt [⟨target,iter,ifs,0⟩] scope pos) 0 it acc env) R s:=by
 refine codeAny_loop rfl I (fun n s hI=>?_) n h;show Of _ A ((compTurn (.ListComp elt [⟨target,iter,ifs,0⟩] scope pos) 0 it acc env).onRaise (fun x=>do noteFrame x env;theTreesLotGoes x)) _ _ s;refine wpAny_noted ?_;rw[compTurn_list];refine N6 (QF (N6 (OG (turn n s hI) (fun r s₁ h₁=>?_) fun _ _ h'=>h'.elim)));cases r with
 |none=>exact Oa h₁
 |some v=>
  refine N6 (OG h₁ (fun _ s₁' h₁'=>?_) fun _ _ h'=>h'.elim);refine N6 (OG h₁' (fun _ s₂ h₂=>N6 (OG h₂ (fun ok s₃ h₃=>?_) fun _ _ h'=>h'.elim)) fun _ _ h'=>h'.elim);cases ok with
  |false=>exact Oa ⟨rfl,h₃⟩
  |true=>
   exact N6 (N6 (OG h₃ (fun x s₄ h₄=>N6 (OG h₄ (fun _ s₅ h₅=>Oa (Oa ⟨rfl,h₅⟩)) fun _ _ h'=>h'.elim)) fun _ _ h'=>h'.elim))
end
noncomputable def aT(X:Cx)(N':List Str)(sc:O4)(s3:N9)(H3:Hp)(fp:List N8):Cx where
 prog:=X.prog
 w:=X.w
 K:=X.K
 mg:=X.mg
 base:=X.base
 A:=X.A
 N:=N'
 s₀:=s3
 H₀:=H3
 env:=compEnv X.env sc s3.heap.objs.size
 outer:=X.stack
 stack:=X.stack
 ex:=fp
 calm:=true
 fn:=fun _=>false
 pn:=[]
 xe:=fun _ _=>False
noncomputable def jg(N:List Str)(esc sc:O4)(N':List Str)(fr:List (Option Nat)):Bool:=
 sc.kind == .function&&esc.kind == .function
 && sc.names.all (fun y=>(y.2 != .cell)&&(y.2 != .free || esc.names.lookup y.1 == some .cell)&&(y.2 != .local || sc.names.lookup y.1 == some .local))
 && fr.length == N'.length
 && (u_ N'.length).all (fun i=>match fr[i]? with
  |some (some j)=>match N'[i]? with
   |some x=>N[j]? == some x&&sc.names.lookup x == some .free
   |none=>false
  | _=>true)
structure CompOk (N:List Str) (esc sc:O4) (N':List Str) (fr:List (Option Nat)):Prop where
 kind:sc.kind=.function
 ekind:esc.kind=.function
 nocell:∀x∈sc.names,x.2≠.cell
 free:∀x∈sc.names,x.2=.free->esc.names.lookup x.1=some .cell
 names:∀x∈sc.names,x.2=.local->sc.names.lookup x.1=some .local
 len:fr.length=N'.length
 at_:∀(i j:Nat) (x:Str),fr[i]?=some (some j)->N'[i]?=some x->N[j]?=some x/\sc.names.lookup x=some .free
variable {N N':List Str}{esc:O4}{fr:List (Option Nat)}
theorem ra(h:jg N esc sc N' fr=true):CompOk N esc sc N' fr:=by
 unfold jg at h;simp only[JD,beq_iff_eq,K5,B']at h;obtain⟨⟨⟨⟨h1,h2⟩,h3⟩,h4⟩,h5⟩:=h;refine⟨h1,h2,fun x hx=>?_,fun x hx e=>?_,fun x hx e=>?_,h4,fun i j x e1 e2=>?_⟩
 ·have:=(h3 x hx).1.1;simpa using this
 ·have:=(h3 x hx).1.2;rw[e]at this;simpa using this
 ·have:=(h3 x hx).2;rw[e]at this;simpa using this
 have hi:i<N'.length:=(gV.mp e2).1;have q:=h5 i hi;rw[e1,e2]at q;simpa using q
noncomputable def cy(fr:List (Option Nat))(σ:St):St:=fr.map fun o=>match o with
 |some j=>(σ[j]?).join
 |none=>none
variable {X:Cx}
theorem uG{pins:List (N8×Obj)}{σ:St}{H3:Hp}{s3:N9}{fp:List N8}{h4:Ou}(I:Inv X pins σ H3 s3)(C:CompOk X.N X.env.scope sc N' fr)(hc:X.calm=true)
  (hfp:∀b∈fp,lQ X pins H3 b) (hfo:∀b∈fp,∃o,s3.heap.get? b=some o) (hn:h4.Ns s3.heap.objs.size (fun _=>none)) (hk:∀b o,s3.heap.get? b=some o->h4.get? b=some o) :
  Inv (aT X N' sc s3 H3 fp) [] (cy fr σ) H3 {s3 with heap:=h4}:=by
 have hfr:∀x∈sc.names,x.2=.free->∃c,X.env.cells.lookup x.1=some c:=fun x hx e=>I.ok.has x.1 (.inl (C.free x hx e));have clo:∀{x c},(eK X.env sc.names []).lookup x=some c->X.env.cells.lookup x=some c:=fun{x c} e=>by
  rcases vd hfr e with⟨h1,_⟩|h
  ·exact h1
  cases h
 have nfs:∀b∈fp,b ∉ frs X.stack:=fun b hb z=>by
  obtain⟨_,h1,h2,_⟩:=hfp b hb;rcases o_.mp (I.x9 b z)with e|e
  ·exact h1 e
  exact h2 e
 have hfresh:H3 s3.heap.objs.size=none:=I.hok.fresh (b_ _);refine⟨⟨I.ok.mod,C.kind,I.ok.glob,I.ok.blt,b_ _,fun x y c e1 e2=>I.ok.inj x y c (clo e1) (clo e2),fun x hx=>?_,fun x c z=>(nomatch z),fun _=>I.ok.hd hc,I.ok.frames,.inl rfl,fun b hb=>⟨?_,fun x c e=>?_⟩,fun b o e=>I.bs b o e,m_ I.ok.bsz I.sz,fun b o e hb=>?_,nfs,I.stack,I.xy⟩,
  rfl,I.bare,Un.kept hk,⟨_,hn,fun i x v e1 e2 e3=>?_⟩,fun x c e=>?_,hfresh,fun x c e=>I.freeC x c (clo e),fun p hp=>(nomatch hp),I.hok.kept hk,?_⟩
 ·have hx:(oI X.env sc).names.lookup x=some .cell\/(oI X.env sc).names.lookup x=some .free:=hx;rw[lZ]at hx;cases e:sc.names.lookup x with
  |none=>rw[e]at hx;rcases hx with z|z <;> cases z
  |some k=>
   have hm:(x,k)∈sc.names:=Pb e;have hk:k=.free:=by
    rw[e]at hx;cases k with
    |free=>rfl
    |cell=>exact absurd rfl (C.nocell _ hm)
    | _=>rcases hx with z|z <;>(simp at z)
   subst hk;obtain⟨c,hc'⟩:=hfr _ hm rfl;exact⟨c,se hfr hc' hm⟩
 ·obtain⟨o,ho⟩:=hfo b hb;exact w_ (Ol ho)
 ·exact(hfp b hb).2.2.2.2.1 x c (clo e)
 ·obtain⟨e1,_⟩:=I.ok.bs b o e;rcases(hfp b hb).2.2.2.1 with z|z
  ·exact I.ok.noex b o e z
  exact absurd (s_ (Ol e1) z) (Kg _)
 ·have e2:(cy fr σ)[i]?=some (some v):=e2;unfold cy at e2;rw[z_]at e2;cases ef:fr[i]? with
  |none=>rw[ef]at e2;cases e2
  |some o=>
   rw[ef]at e2;cases o with
   |none=>cases e2
   |some j=>
    have e2':(σ[j]?).join=some v:=by simpa using e2
    have e2'':σ[j]?=some (some v):=by
     cases q:σ[j]? with
     |none=>rw[q]at e2';cases e2'
     |some z=>rw[q]at e2';exact congrArg some e2'
    obtain⟨hN,hfrx⟩:=C.at_ i j x ef e1;have hm:(x,Pg)∈sc.names:=Pb hfrx;have hcell:=C.free _ hm rfl;obtain⟨m,_,hl⟩:=I.loc;obtain⟨u,r,l⟩:=hl j x v hN e2'' (.inr (.inl hcell));refine⟨u,r,.inr ⟨.inl ?_,?_⟩⟩
    ·show(oI X.env sc).names.lookup x=some .cell;rw[lZ,hfrx];have h1:X.env.kindOf x=some .cell:=hcell;have h2:X.env.scope.kind=.function:=C.ekind;simp[h1,h2]
    rcases l with⟨k,_⟩|⟨_,c,ec,ic⟩
    ·have h1:X.env.kindOf x=some .cell:=hcell;rw[h1]at k;cases k
    obtain⟨o,ho,hd⟩:=ic;exact⟨c,se hfr ec hm,o,hk c o ho,hd⟩
 ·obtain⟨v,o,ho,hd⟩:=I.cell x c (clo e);exact⟨v,o,hk c o ho,hd⟩
 unfold cy;rw[a_];exact C.len
noncomputable def PTs(X:Cx)(ifs:List Ov)(t:TT):Prop:=
 ∀(pins:List (N8×Obj)) (s:N9) (σ:St) (H:Hp) (Q:Bool->Hp->Prop),Inv X pins σ H s->t σ H Q->
  Of (Oq X.prog X.w) X.A (forIn ifs true fun c r=>if r=true then do let ok <-Sl c X.env (OK c X.env);pure (Ox ok)else pure (Ox r)) (TP X pins σ Q) X.xe s
def J7:TT:=fun _ H Q=>Q true H
theorem DC:PTs X [] J7:=fun pins s σ H Q I h=>wpAny_tests_nil ⟨H,I,h⟩
theorem DJ{c:Ov}{t:TT}(h:PT X c t):PTs X [c] t:=fun pins s σ H Q I q=>wpAny_tests_one (h pins s σ H Q I q)
noncomputable def II(J:It)(fr:List (Option Nat))(g:N9->Hp->List N8->TG)(tt:N9->Hp->List N8->TT)(te:N9->Hp->List N8->TE)(σ:St)(H1:Hp)(Q:VK):Prop:=∀p,H1 p=none->∀s3 H3' fp,∃W:Nat->Nat->St->Hp->Prop,(∃m,W 0 m (cy fr σ) (upd H1 p (.lst [])))/\∀i m σ' H',W i m σ' H'->
 (J.stop i H'/\Q (.ref p) H')\/(J.go i H'/\∀x H2,J.yld i H' x H2->g s3 H3' fp x σ' H2 fun σ2 H3=>tt s3 H3' fp σ2 H3 fun b H4=>
  if b=true then te s3 H3' fp σ2 H4 fun v H5=>∃ys,H5 p=some (.lst ys)/\ys.length<sizeLine/\∃m',m'<m/\W (i+1) m' σ2 (upd H5 p (.lst (ys++[v])))else ∃m',m'<m/\W (i+1) m' σ2 H4)
noncomputable def yz(wi:TI)(fr:List (Option Nat))(g:N9->Hp->List N8->TG)(tt:N9->Hp->List N8->TT)(te:N9->Hp->List N8->TE):TE:=fun σ H Q=>wi σ H fun J H1=>II J fr g tt te σ H1 Q
variable {te:N9->Hp->List N8->TE}{tt:N9->Hp->List N8->TT}{wi:TI}
theorem xX(N':List Str)(fr:List (Option Nat)){g:N9->Hp->List N8->TG}(hc:X.calm=true)(C:jg X.N X.env.scope sc N' fr=true)
  (hi:PI X target iter wi) (hg:∀s3 H3 fp,PG (aT X N' sc s3 H3 fp) target (g s3 H3 fp)) (ht:∀s3 H3 fp,PTs (aT X N' sc s3 H3 fp) ifs (tt s3 H3 fp)) (he:∀s3 H3 fp,PE (aT X N' sc s3 H3 fp) elt (te s3 H3 fp))
  (hs:∀x,OX iter X.env x=pure x:=by intro _;rfl):PE X (.ListComp elt [⟨target,iter,ifs,0⟩] sc pos) (yz wi fr g tt te):=by
 have C:=ra C;intro pins s σ H Q I h;rw[eval_ListComp];have hfr:∀x∈sc.names,x.2=.free->∃c,X.env.cells.lookup x.1=some c:=fun x hx e=>I.ok.has x.1 (.inl (C.free x hx e));refine mY (g:=⟨target,iter,ifs,0⟩) (gs:=[]) rfl hs C.nocell hfr C.kind C.names ?_;show Of _ _ (OK iter X.env) _ _ s;refine thn (hi pins s σ H _ I h) fun v s1 h1=>thn h1 fun itv s2 h2=>?_;obtain⟨it,fp,tn,J,H2,e,I2,T,st2,f2,k2⟩:=h2;subst e;refine QI ?_ (by show 0<=sizeLine;decide);have hf:H2 s2.heap.objs.size=none:=I2.hok.fresh (b_ _);obtain⟨W,⟨m0,w0⟩,turn⟩:=k2 _ hf {s2 with heap:=s2.heap.push { cls:=.type "list",data:=.seq ([]:List N5).toArray} } (upd H2 s2.heap.objs.size (.lst [])) fp;have kp:∀b u,s2.heap.get? b=some u->(s2.heap.push { cls:=.type "list",data:=.seq ([]:List N5).toArray}).get? b=some u:=fun b u e=>Oe _ e;have I3:Inv X pins σ (upd H2 s2.heap.objs.size (.lst [])) {s2 with heap:=s2.heap.push { cls:=.type "list",data:=.seq ([]:List N5).toArray} }:=
  I2.laid (t':=s2.toks) kp (b_ _) ⟨E_ _,[],0,.nil,Oo _ rfl⟩
 have obj2:=T.obj 0 s2.heap st2;have fpne:∀b∈fp,b≠s2.heap.objs.size:=fun b hb=>by obtain⟨o,ho,_⟩:=obj2 b hb;exact w_ (Ol ho)
 have f3:∀b∈fp,lQ X pins (upd H2 s2.heap.objs.size (.lst [])) b:=fun b hb=>⟨by rw[aL (fpne b hb)];exact(f2 b hb).1,(f2 b hb).2⟩
 have st3:=T.keep 0 s2.heap _ st2 fun b hb o e=>kp b o e;have obj3:=T.obj 0 _ st3;intro h4 hn4 hk4;have st4:=T.keep 0 _ h4 st3 fun b hb o e=>hk4 b o e;have I4:=uG (N':=N') (fr:=fr) (fp:=fp) I3 C hc f3 (fun b hb=>let ⟨o,ho,_⟩:=obj3 b hb;⟨o,ho⟩) hn4 hk4;have stat:∀{H':Hp},(∀b∈fp,H' b=none)->∀b∈fp,lQ (aT X N' sc {s2 with heap:=s2.heap.push { cls:=.type "list",data:=.seq ([]:List N5).toArray} } (upd H2 s2.heap.objs.size (.lst [])) fp) [] H' b:=fun hn b hb=>
  ⟨hn b hb,(I4.ok.exf b hb).1,I4.ok.exfs b hb,.inl hb,(I4.ok.exf b hb).2,fun p hp=>(nomatch hp)⟩
 have loop:Qh (Oq X.prog X.w) X.A (.compLoop (.ListComp elt [⟨target,iter,ifs,0⟩] sc pos) 0 (.ref it) (.ref s2.heap.objs.size) (compEnv X.env sc (s2.heap.push { cls:=.type "list",data:=.seq ([]:List N5).toArray}).objs.size))
   (fun r s'=>∃m,s'.heap.Ns (s2.heap.push { cls:=.type "list",data:=.seq ([]:List N5).toArray}).objs.size m/\∀h',O1 (s2.heap.push { cls:=.type "list",data:=.seq ([]:List N5).toArray}).objs.size s'.heap h'->
    match r with | .ok _=>EP X pins σ Q (.ref s2.heap.objs.size) {s' with heap:=h'} | .error x=>False) {s2 with heap:=h4}:=by
  refine nO (fun n s'=>∃i σ' H',Inv (aT X N' sc {s2 with heap:=s2.heap.push { cls:=.type "list",data:=.seq ([]:List N5).toArray} } (upd H2 s2.heap.objs.size (.lst [])) fp) [] σ' H' s'/\tn i s'.heap/\(∀b∈fp,H' b=none)/\W i n σ' H') ?_ m0
   ⟨0,_,_,I4,st4,fun b hb=>(f3 b hb).1,w0⟩
  rintro n s5 ⟨i,σ5,H5,I5,st5,fr5,w5⟩;rcases turn i n σ5 H5 w5 with⟨stop,q⟩|⟨go,step⟩
  ·refine thn (T.done (aT X N' sc _ _ fp) rfl rfl rfl rfl i [] s5 σ5 H5 (fun _ _=>False) I5 (stat fr5) st5 stop) ?_;rintro r s6 ⟨hr,I6⟩;subst hr;obtain⟨m6,hn6,_⟩:=id I6.loc;refine⟨m6,hn6,fun h' hs'=>?_⟩;have hL:H5 (s2.heap.push { cls:=.type "list",data:=.seq ([]:List N5).toArray}).objs.size=none:=I6.free;have hok':HOk X.prog X.w H5 h':=fun b u e=>by
    refine(I6.hok b u e).o6 (fun c v hc q=>(hs'.2 c ?_).trans q) (fun _ q=>q) fun _ _ q=>q;rintro rfl;rcases hc with rfl|hc
    ·rw[hL]at e;cases e
    rw[hL]at hc;cases hc
   have ub:=I6.base;have lt:∀b o,(s2.heap.push { cls:=.type "list",data:=.seq ([]:List N5).toArray}).get? b=some o->b≠(s2.heap.push { cls:=.type "list",data:=.seq ([]:List N5).toArray}).objs.size:=fun b o e=>w_ (Ol e);have un:Un (frs X.stack) fp (upd H2 s2.heap.objs.size (.lst [])) H5 (s2.heap.push { cls:=.type "list",data:=.seq ([]:List N5).toArray}) h':=
    ⟨fun b o e n hb hx=>(hs'.2 b (lt b o e)).trans (ub.keep b o e n hb hx),fun b o e n hb hx=>let ⟨sl,z⟩:=ub.slot b o e n hb hx;⟨sl,(hs'.2 b (lt b o e)).trans z⟩,ub.free,
     fun b o e hx=>let ⟨o',z⟩:=ub.there b o e hx;⟨o',(hs'.2 b (lt b o e)).trans z⟩,ub.tups,ub.frzs,ub.tbls⟩
   refine⟨.ref s2.heap.objs.size,H5,I3.EA (s':={s6 with heap:=h'}) (ch:=fp) I6.os un hok' I6.bare (fun b hb=>?_),rfl,q⟩;obtain⟨_,g1,g2,g3,g4,g5⟩:=f3 b hb;exact⟨g3,g1,g4,g5⟩
  refine thn (T.item (aT X N' sc _ _ fp) rfl rfl rfl rfl i [] s5 σ5 H5 (fun _ _=>False) I5 (stat fr5) st5 go) ?_;rintro r s6 ⟨u,hr,h6⟩;subst hr;refine thn h6 ?_;rintro _ s7 ⟨x,H7,I7,r7,y7,st7,fr7⟩;have I7':=I7.pinned (stat fr7) (T.obj _ _ st7);have again:∀{σ8:St}{H8:Hp}{s8:N9},Inv (aT X N' sc {s2 with heap:=s2.heap.push { cls:=.type "list",data:=.seq ([]:List N5).toArray} } (upd H2 s2.heap.objs.size (.lst [])) fp) ([]++nv fp s7.heap) σ8 H8 s8->(∃m',m'<n/\W (i+1) m' σ8 H8)->
    ∃m,m<n/\∃i σ' H',Inv (aT X N' sc {s2 with heap:=s2.heap.push { cls:=.type "list",data:=.seq ([]:List N5).toArray} } (upd H2 s2.heap.objs.size (.lst [])) fp) [] σ' H' s8/\tn i s8.heap/\(∀b∈fp,H' b=none)/\W i m σ' H':=fun{σ8 H8 s8} I8 ⟨m',hm,w8⟩=>by
   refine⟨m',hm,i+1,σ8,H8,I8.jj,T.keep _ _ _ st7 fun b hb o e=>(I8.pin (b,o) (q_ _ (q_ _ (cT hb e)))).1,fun b hb=>?_,w8⟩;obtain⟨o,e,d⟩:=T.obj _ _ st7 b hb;exact(I8.pin (b,o) (q_ _ (q_ _ (cT hb e)))).2.1
  refine thn (hg _ _ fp _ s7 σ5 H7 x u _ I7' r7 (step x H7 y7)) ?_;rintro _ s8 ⟨σ8,H8,I8,q8⟩;refine thn (ht _ _ fp _ s8 σ8 H8 _ I8 q8) ?_;rintro ok s9 ⟨H9,I9,q9⟩;cases ok with
  |false=>exact again I9 q9
  |true=>
   refine thn (he _ _ fp _ s9 σ8 H9 _ I9 q9) ?_;rintro y s10 ⟨v,H10,I10,r10,ys,hys,hl,q10⟩;refine thn (mV _ s10 σ8 H10 (.ref s2.heap.objs.size) [v] (.ref s2.heap.objs.size) [y] (fun _ H'=>∃m',m'<n/\W (i+1) m' σ8 H') I10 rfl (.cons r10 .nil) ⟨_,ys,v,rfl,rfl,hys,hl,q10⟩) ?_;rintro z s11 ⟨_,H11,I11,_,q11⟩;exact again I11 q11
 refine RQ loop ?_;exact T.self X.A 0 _ _ _ st4 loop
noncomputable def SqG(b:Bool)(K:N7)(H:Hp)(a:N8)(xs:List V):Prop:=match b with
 |true=>SqT K H a xs
 |false=>SqL K H a xs
variable {a:N8}{b:Bool}{xs ys:List V}
section
variable{X:Cx}{pins:List (N8×Obj)}{σ:St}{H:Hp}{s:N9}
theorem Inv.sq (I:Inv X pins σ H s)(h:SqG b X.K H a xs):∃its:List N5,Vals xs its/\ZG.Sq b s.heap a its.toArray/\xs.length<=sizeLine:=by
 cases b with
 |true=>exact I.tuple h
 |false=>
  obtain⟨its,r,p,z⟩:=I.list h;exact⟨its,r,p.isList,z⟩
theorem Inv.Ao (I:Inv X pins σ H s)(h:SqG b X.K H a xs)(h':SqG b X.K H a ys):xs=ys:=by
 cases b with
 |true=>exact I.fP h h'
 |false=>exact I.qk h h'
theorem Inv.E8 (I:Inv X pins σ H s){b:N8}{u:HO}(h:Rd H a u)(f:lQ X pins H b):a≠b:=by
 rintro rfl;rcases h with h|⟨o,h⟩
 ·rw[f.1]at h;cases h
 rw[f.1]at h;cases h
theorem Inv.GU (I:Inv X pins σ H s){b:N8}{o:Obj}(h:X.K.lookup a=some o)(f:lQ X pins H b):a≠b:=by
 rintro rfl;have e:X.base.get? a=some o:=I.ok.mod.kin a o h;rcases f.2.2.2.1 with z|z
 ·exact I.ok.noex a o e z
 exact absurd (s_ (Ol (I.ok.bs a o e).1) z) (Kg _)
theorem Inv.dY (I:Inv X pins σ H s){c:N8}(h:SqG b X.K H a xs)(f:lQ X pins H c):a≠c:=by
 cases b with
 |true=>
  rcases h with h|⟨o,its,n,hk,_⟩
  ·exact I.E8 h f
  ·exact I.GU hk f
 |false=>
  rcases h with h|⟨o,its,n,hk,_⟩
  ·exact I.E8 h f
  exact I.GU hk f
end
noncomputable def Itz(K:N7)(b1:Bool)(a1:N8)(b2:Bool)(a2:N8):It:=
  ⟨fun i H=>∃xs ys x y,SqG b1 K H a1 xs/\SqG b2 K H a2 ys/\xs[i]?=some x/\ys[i]?=some y,
   fun i H v H'=>∃p x y,H p=none/\v=.ref p/\H'=upd H p (.tup [x,y])/\(∀xs,SqG b1 K H a1 xs->xs[i]?=some x)/\∀ys,SqG b2 K H a2 ys->ys[i]?=some y,
   fun i H=>∃xs ys,SqG b1 K H a1 xs/\SqG b2 K H a2 ys/\(xs.length<=i\/ys.length<=i)⟩
structure Off5 (z TI TO i1 i2:N8):Prop where
 a1:TI≠z
 a2:TO≠z
 a3:i1≠z
 a4:i2≠z
 a5:TI≠TO
 a6:TI≠i1
 a7:TI≠i2
 a8:TO≠i1
 a9:TO≠i2
 b1:i1≠i2
variable {K:N7}{P:Oj}{es:List Ov}{w:Ot}
theorem AW{x1:Nat}{tp:Pos}(b1:Bool)(a1:N8)(b2:Bool)(a2 z TI TO i1 i2:N8)(D:Off5 z TI TO i1 i2) :
  Turn P w K (.Tuple es x1 tp) (Itz K b1 a1 b2 a2) [z,TI,TO,i1,i2] z (fun i h=>Qd h z TI TO .none/\Pe h TI (.ref i1) (.ref i2)/\(∃a b,Pe h TO a b)/\ZG.Dr b1 h i1 a1 i/\ZG.Dr b2 h i2 a2 i) where
 mem:=by simp
 obj:=fun i h st b hb=>by
  obtain⟨hz,hi,⟨a,c,ho⟩,d1,d2⟩:=st;have hb:b=z\/b=TI\/b=TO\/b=i1\/b=i2:=by simpa using hb
  rcases hb with rfl|rfl|rfl|rfl|rfl
  ·exact⟨_,hz,fun v e=>by cases (show UB _=Sm v from e)⟩
  ·exact⟨_,hi,fun v e=>by cases (show Uh _ _=Sm v from e)⟩
  ·exact⟨_,ho,fun v e=>by cases (show Uh _ _=Sm v from e)⟩
  ·exact d1.some
  exact d2.some
 keep:=fun i h h' st k=>by obtain⟨hz,hi,⟨a,c,ho⟩,d1,d2⟩:=st;exact⟨k z (by simp) _ hz,k TI (by simp) _ hi,⟨a,c,k TO (by simp) _ ho⟩,d1.at fun o e=>k i1 (by simp) o e,d2.at fun o e=>k i2 (by simp) o e⟩
 item:=by
  intro X hP hw hK hc i pins s σ H E I hf st hg;subst hP hw hK;obtain⟨xs,ys,x,y,q1,q2,hx,hy⟩:=hg;obtain⟨its,rv,p1,z1⟩:=I.sq q1;obtain⟨jts,sv,p2,z2⟩:=I.sq q2;obtain⟨u,hu,ru⟩:=rv.get hx;obtain⟨v,hv,rw'⟩:=sv.get hy;obtain⟨hz,hi,⟨a,c,ho⟩,d1,d2⟩:=st;have fz:=hf z (by simp);have fTI:=hf TI (by simp);have fTO:=hf TO (by simp);have f1:=hf i1 (by simp);have f2:=hf i2 (by simp);have DD:ZG.Off z TI TO i1 i2 a1 a2:=⟨D.a1,D.a2,D.a3,D.a4,D.a5,D.a6,D.a7,D.a8,D.a9,D.b1,I.dY q1 fz,I.dY q1 fTO,I.dY q1 f1,I.dY q1 f2,I.dY q2 fz,I.dY q2 fTO,I.dY q2 f1,I.dY q2 f2⟩;refine ZG.uH DD hz hi ho d1 d2 p1 p2 (by simpa using hu) (by simpa using hv) fun g gz gO g1 g2 gT gs gk=>⟨_,rfl,?_⟩
  refine wpAny_letOwnedTupleGo_zip (s:={s with heap:=g}) gz fun h' hz' hs'=>?_;have hfresh:H s.heap.objs.size=none:=I.hok.fresh (b_ _);have zT:s.heap.objs.size≠z:=Lp (Ol hz);have kp:∀b o,b ∉ [z,TI,TO,i1,i2]->s.heap.get? b=some o->h'.get? b=some o:=fun b o hb e=>by
   have n:b≠z/\b≠TI/\b≠TO/\b≠i1/\b≠i2:=by simpa using hb
   exact hs'.extBut _ _ n.1 (gk b o n.1 n.2.2.1 n.2.2.2.1 n.2.2.2.2 e)
  have hT:h'.get? s.heap.objs.size=some { cls:=.type "tuple",data:=.seq #[u,v] }:=hs'.extBut _ _ zT gT;have notfp:∀b o,H b=some o->b ∉ [z,TI,TO,i1,i2]:=fun b o e hb=>by have:=(hf b hb).1;rw[e]at this;cases this
  have ne:∀b o,s.heap.get? b=some o->b≠s.heap.objs.size:=fun b o e=>w_ (Ol e);have nt:∀b o,H b=some o->b≠s.heap.objs.size:=fun b o e=>bN e hfresh;have I1:Inv X pins σ (upd H s.heap.objs.size (.tup [x,y])) {s with heap:=h'}:=by
   refine I.step (g':=s.gens) (d':=s.drawn) (t':=s.toks) (ch:=[z,TI,TO,i1,i2]) (fun b hb=>?_) (fun b o _ _ hc e _=>kp b o hc e) (fun b o _ _ hc e _=>⟨o.slots,kp b o hc e⟩)
    (fun b o _ e n=>by rw[aL (ne b o e)];exact n) (fun b o hc e=>⟨o,kp b o hc e⟩) (fun b zs e=>by rw[aL (nt b _ e)];exact e) (fun b o u e=>by rw[aL (nt b _ e)];exact e)
    (fun b ps e=>⟨#[],by rw[aL (nt b _ e),e];simp⟩) (fun m hm=>?_) (fun b o e=>?_) I.bare
   ·obtain⟨g0,g1,g2,g3,g4,g5⟩:=hf b hb;exact⟨g3,g1,g4,g5⟩
   ·obtain⟨o,es,ep,ho',r⟩:=hm;exact⟨o,es,ep,kp _ o (fun hb=>(hf _ hb).2.1 rfl) ho',r⟩
   by_cases hb:b=s.heap.objs.size
   ·subst hb;rw[aO]at e;cases e;exact⟨by show 2<=sizeLine;decide,[u,v],.cons ru (.cons rw' .nil),_,hT,rfl,_,rfl⟩
   rw[aL hb]at e;refine(I.hok b o e).o6 (fun c' w' hc' q=>kp c' w' ?_ q) (fun c' q=>by rw[aL (nt c' _ q)];exact q) fun c' zs q=>by rw[aL (nt c' _ q)];exact q
   rcases hc' with rfl|hc'
   ·exact notfp _ _ e
   exact notfp _ _ hc'
  refine⟨.ref s.heap.objs.size,_,I1,rfl,⟨s.heap.objs.size,x,y,hfresh,rfl,rfl,fun zs hq=>by rw[I.Ao hq q1];exact hx,fun zs hq=>by rw[I.Ao hq q2];exact hy⟩,?_,fun b hb=>?_⟩
  ·exact⟨hz',hs'.extBut _ _ D.a1 (gk _ _ D.a1 D.a5 D.a6 D.a7 hi),⟨_,_,hs'.extBut _ _ D.a2 gO⟩,g1.ext hs'.extBut D.a3,g2.ext hs'.extBut D.a4⟩
  have hb0:=(hf b hb).1;have hb':b=z\/b=TI\/b=TO\/b=i1\/b=i2:=by simpa using hb
  have hlt:∃o,s.heap.get? b=some o:=by
   rcases hb' with rfl|rfl|rfl|rfl|rfl
   ·exact⟨_,hz⟩
   ·exact⟨_,hi⟩
   ·exact⟨_,ho⟩
   ·obtain⟨o,e,_⟩:=d1.some;exact⟨o,e⟩
   obtain⟨o,e,_⟩:=d2.some;exact⟨o,e⟩
  obtain⟨o,e⟩:=hlt;rw[aL (ne b o e)];exact hb0
 done:=by
  intro X hP hw hK hc i pins s σ H E I hf st hg;subst hP hw hK;obtain⟨xs,ys,q1,q2,hn⟩:=hg;obtain⟨its,rv,p1,z1⟩:=I.sq q1;obtain⟨jts,sv,p2,z2⟩:=I.sq q2;obtain⟨hz,hi,⟨a,c,ho⟩,d1,d2⟩:=st;have fz:=hf z (by simp);have fTI:=hf TI (by simp);have fTO:=hf TO (by simp);have f1:=hf i1 (by simp);have f2:=hf i2 (by simp);have DD:ZG.Off z TI TO i1 i2 a1 a2:=⟨D.a1,D.a2,D.a3,D.a4,D.a5,D.a6,D.a7,D.a8,D.a9,D.b1,I.dY q1 fz,I.dY q1 fTO,I.dY q1 f1,I.dY q1 f2,I.dY q2 fz,I.dY q2 fTO,I.dY q2 f1,I.dY q2 f2⟩;have l1:=rv.length;have l2:=sv.length;refine ZG.xa (I.ok.hd hc) DD hz hi ho d1 d2 p1 p2 (hn.elim (fun z=>.inl (by simp;omega)) fun z=>.inr (by simp;omega)) fun g gk=>⟨rfl,?_⟩
  have kp:∀b o,b ∉ [z,TI,TO,i1,i2]->s.heap.get? b=some o->g.get? b=some o:=fun b o hb e=>by
   have n:b≠z/\b≠TI/\b≠TO/\b≠i1/\b≠i2:=by simpa using hb
   exact gk b o n.1 n.2.2.1 n.2.2.2.1 n.2.2.2.2 e
  have notfp:∀b o,H b=some o->b ∉ [z,TI,TO,i1,i2]:=fun b o e hb=>by have:=(hf b hb).1;rw[e]at this;cases this
  refine I.step (g':=s.gens) (d':=s.drawn) (t':=s.toks) (ch:=[z,TI,TO,i1,i2]) (fun b hb=>?_) (fun b o _ _ hc e _=>kp b o hc e) (fun b o _ _ hc e _=>⟨o.slots,kp b o hc e⟩)
   (fun b o _ e n=>n) (fun b o hc e=>⟨o,kp b o hc e⟩) (fun b zs e=>e) (fun b o u e=>e) (fun b ps e=>⟨#[],by rw[e];simp⟩) (fun m hm=>?_) (fun b o e=>?_) I.bare
  ·obtain⟨g0,g1,g2,g3,g4,g5⟩:=hf b hb;exact⟨g3,g1,g4,g5⟩
  ·obtain⟨o,es,ep,ho',r⟩:=hm;exact⟨o,es,ep,kp _ o (fun hb=>(hf _ hb).2.1 rfl) ho',r⟩
  refine(I.hok b o e).o6 (fun c' w' hc' q=>kp c' w' ?_ q) (fun c' q=>q) fun c' zs q=>q;rcases hc' with rfl|hc'
  ·exact notfp _ _ e
  exact notfp _ _ hc'
 self:=fun _ _ _ _ _ st h=>S0 st.1 h
noncomputable def J3(K:N7)(ta:TA):TI:=fun σ H R=>ta σ H fun vs H1=>∃b1 a1 b2 a2,vs=[.ref a1,.ref a2]/\(∃xs,SqG b1 K H1 a1 xs)/\(∃ys,SqG b2 K H1 a2 ys)/\R (Itz K b1 a1 b2 a2) H1
theorem Gp{x1:Nat}{tp:Pos}{a b:Ov}{ta:TA}{p:Pos}(hg:Gl X "zip")(hm:X.mg "zip"=none)(ha:PA X [a,b] ta)(hs:Oy [a,b] X.env=[(false,OK a X.env),(false,OK b X.env)]:=by rfl)(hs2:Oy [b] X.env=[(false,OK b X.env)]:=by rfl) :
  PI X (.Tuple es x1 tp) (.Call (.Name "zip" p) [a,b] [] pos) (J3 X.K ta):=by
 intro pins s σ H R I h;refine Call_ (j9 I hg hm boot_zip (PC (thn (ha pos pins s σ H _ I h) fun us s1 ⟨vs,H1,I1,r1,q1⟩=>?_) (by rw[hs,hs2]) (by rw[hs2];rfl)));obtain⟨b1,a1,b2,a2,e,⟨xs,q1⟩,⟨ys,q2⟩,q⟩:=q1;subst e;cases r1 with
 |cons r rr=>
  cases rr with
  |cons r' rr=>
   cases rr;cases r;cases r';obtain⟨its,rv,p1,z1⟩:=I1.sq q1;obtain⟨jts,sv,p2,z2⟩:=I1.sq q2;refine ZG.AD p1 p2 fun g gz gi go g1 g2 gs gk=>S0 (s:={s1 with heap:=g}) gz ?_;have I2:Inv X pins σ H1 {s1 with heap:=g}:=I1.kept (t':=s1.toks) gk;refine⟨_,_,_,_,H1,rfl,I2,AW b1 a1 b2 a2 _ (s1.heap.objs.size+2) (s1.heap.objs.size+3) s1.heap.objs.size (s1.heap.objs.size+1) ?_,⟨gz,gi,⟨_,_,go⟩,g1,g2⟩,fun b hb=>?_,q⟩
   ·constructor <;>(show(_:Nat)≠_) <;> omega
   have hb':s1.heap.objs.size<=b:=by
    have z:b=s1.heap.objs.size+4\/b=s1.heap.objs.size+2\/b=s1.heap.objs.size+3\/b=s1.heap.objs.size\/b=s1.heap.objs.size+1:=by simpa using hb
    rcases z with z|z|z|z|z <;> rw[z] <;>(show(_:Nat)<=_) <;> omega
   exact I1.xo hb' (I1.hok.fresh hb')
def bools(bs:List Bool):List V:=bs.map V.bl
variable {i:Nat}{u:N5}
theorem zm{bs:List Bool}{us:List N5}(r:Vals (bools bs) us)(h:us[i]?=some u):∃b,bs[i]?=some b/\u=.bool b:=by
 have hl:=r.length;have hi:i<us.length:=(gV.mp h).1;have hb:i<bs.length:=by rw[<-hl]at hi;simpa[bools]using hi
 have e:(bools bs)[i]?=some (.bl bs[i]):=by unfold bools;rw[z_,c_ hb];rfl
 obtain⟨u',h',ru⟩:=r.get e;rw[h]at h';cases h';exact⟨bs[i],c_ hb,ru⟩
theorem wy(bs:List Bool):((u_ bs.length).all fun i=>(bs[i]?).getD true)=bs.all id:=by
 have e:bs=(u_ bs.length).map fun i=>(bs[i]?).getD true:=by
  apply List.ext_getElem
  ·simp
  intro i h1 h2;simp[h1]
 conv=>rhs;rw[e,Ko]
 rfl
section
variable{X:Cx}
theorem Ax(hc:X.calm=true):bp X (.builtin "all") (fun xs H Q=>∃a bs,xs=[.ref a]/\SqL X.K H a (bools bs)/\Q (.bl (bs.all id)) H):=by
 intro pins s σ H xs us Q I r h;obtain⟨a,bs,rfl,hq,q⟩:=h;obtain⟨u,rfl,ru⟩:=vals1 r;cases ru;obtain⟨its,rv,p,z⟩:=I.list hq;have hl:=p.isList;have hlt:a<s.heap.objs.size:=by obtain⟨_,e,_⟩:=hl;exact Ol e
 have hlen:its.toArray.size=bs.length:=by rw[p_,<-rv.length];simp[bools]
 refine call_all_walk (Pm hl ⟨s.heap.objs.size,[s.heap.objs.size,a],[s.heap.objs.size],its.toArray.size,_,_,fun i=>(bs[i]?).getD true,rfl,UR (A:=X.A.in1) (I.ok.hd hc) _ a (w_ hlt) its.toArray,⟨⟨_,Oo _ rfl,rfl,rfl⟩,hl.push _⟩,fun i v s' Q' E' hP hQ=>?_,fun h' tk hk=>?_⟩)
 ·obtain⟨b,e,rfl⟩:=zm rv (i:=i) (u:=v) (by simpa using hP);simp only[e,Option.getD_some]at hQ;exact Pl hQ
 rw[hlen,wy];exact⟨.bl (bs.all id),H,I.kept (t':=tk) (LSm.kept_iter hk),rfl,q⟩
end
inductive Ty where
 |non|bl|int|str|lst|tup|dct
 deriving DecidableEq
noncomputable def Ty.nm:Ty->String
 | .non=>"NoneType"
 | .bl=>"bool"
 | .int=>"int"
 | .str=>"str"
 | .lst=>"list"
 | .tup=>"tuple"
 | .dct=>"dict"
def isA(t c:Ty):Bool:=decide (t=c) || (decide (t=.bl)&&decide (c=.int))
inductive TyG (K:N7) (H:Hp):V->Ty->Prop where
 |non:TyG K H .non .non
 |bl (b:Bool):TyG K H (.bl b) .bl
 |int (i:Int):TyG K H (.int i) .int
 |str (x:Str):TyG K H (.str x) .str
 |lst {a:N8}{xs:List V} (h:SqL K H a xs):TyG K H (.ref a) .lst
 |tup {a:N8}{xs:List V} (h:SqT K H a xs):TyG K H (.ref a) .tup
 |dct {a:N8}{kvs:List (Key×V)} (h:Rd H a (.dK kvs)):TyG K H (.ref a) .dct
theorem xV(K:N7)(t c:Ty):PySem.W.kitOne K (.type t.nm) (.type c.nm)=some (isA t c):=by cases t <;> cases c <;> kernel_rfl
theorem yr(K:N7)(t:Ty):∀cs:List Ty,Tw K (.type t.nm) (cs.map fun c=>Pu c.nm)=some (cs.any (isA t))
 | []=>rfl
 |c::r=>by
  rw[f',Mn];unfold Tw;rw[xV];cases isA t c with
  |true=>rfl
  |false=>exact yr K t r
section
variable{X:Cx}{pins:List (N8×Obj)}{σ:St}{H:Hp}{s:N9}{A:OB}{E:N5->N9->Prop}{Q:N5->N9->Prop}
theorem Vals.tys:∀{cs:List Ty}{us:List N5},Vals (cs.map fun c=>V.ty c.nm) us->us=cs.map fun c=>Pu c.nm
 | [],_,.nil=>rfl
 |c::r,_,.cons h t=>by have e:_=Pu c.nm:=h;rw[f',<-Vals.tys t,e]
noncomputable def xv(K:N7)(H:Hp)(y:V)(cs:List Ty):Prop:=(∃c,y=.ty c.nm/\cs=[c])\/∃p,y=.ref p/\H p=some (.tup (cs.map fun c=>V.ty c.nm))
theorem A4{x y:V}{v:N5}{t:Ty}{cs:List Ty}(I:Inv X pins σ H s)(rx:RelV x u)(ry:RelV y v)(ty:TyG X.K H x t)(ka:xv X.K H y cs)(h:∀tk,Q (.bool (cs.any (isA t))) {s with toks:=tk}) :
  Of (Oq X.prog X.w) A (call (.builtin "isinstance") [u,v]) Q E s:=by
 have go:∀{P:Ou->Prop},PySem.W.KitX X.K u (.type t.nm) P->P s.heap->u≠.builtin "__main__.__loader__#opaque"->Of (Oq X.prog X.w) A (call (.builtin "isinstance") [u,v]) Q E s:=fun{P} Z p hx=>by
  rcases ka with⟨c,rfl,rfl⟩|⟨q,rfl,hq⟩
  ·cases (show v=Pu c.nm from ry);have e:([c].any (isA t))=isA t c:=by simp
   exact PySem.W.kia_one Z I.kIn p (xV X.K t c) hx (fun tk=>by rw[<-e];exact h tk)
  cases (show v=OC q from ry);obtain⟨_,its,rv,o,ho,hc,n,hd⟩:=(show ba X.prog X.w H s.heap q (.tup _)from I.hok q _ hq);have e:=rv.tys;subst e;obtain⟨c,dd,dt,sl⟩:=o;cases (show c=_ from hc);cases (show dt=_ from hd);exact PySem.W.kia_tup Z I.kIn p ho (yr X.K t cs) hx h
 cases ty with
 |non=>cases (show u=OL from rx);exact go PySem.W.kitx_none Py (fun z=>nomatch z)
 |bl y=>cases (show u=S6 y from rx);exact go PySem.W.kitx_bool Py (fun z=>nomatch z)
 |int i=>obtain⟨t,q⟩:=(show ∃t,u=O5 i t from rx);cases q;exact go PySem.W.kitx_int Py (fun z=>nomatch z)
 |str y=>obtain⟨t,q⟩:=(show ∃t,u=Sj y t from rx);cases q;exact go PySem.W.kitx_str Py (fun z=>nomatch z)
 | @lst a xs hq=>
  cases (show u=OC a from rx);obtain⟨_,_,p,_⟩:=I.list hq;obtain⟨o,h1,h2,_⟩:=p.isList;exact go PySem.W.kitx_list ⟨o,h1,h2⟩ (fun z=>nomatch z)
 | @tup a xs hq=>
  cases (show u=OC a from rx);obtain⟨_,_,p,_⟩:=I.tuple hq;obtain⟨o,h1,h2,_⟩:=p;exact go PySem.W.kitx_tuple ⟨o,h1,h2⟩ (fun z=>nomatch z)
 | @dct a kvs hq=>
  cases (show u=OC a from rx);obtain⟨_,_,vs,_,p⟩:=(show ba X.prog X.w H s.heap a (.dK kvs)from hq.ok I.hok);obtain⟨o,es,ep,h1,h2,_⟩:=p;exact go PySem.W.kitx_dict ⟨o,h1,h2.1⟩ (fun z=>nomatch z)
theorem nU:bp X (.builtin "isinstance") (fun xs H Q=>∃x y t cs,xs=[x,y]/\TyG X.K H x t/\xv X.K H y cs/\Q (.bl (cs.any (isA t))) H):=by
 intro pins s σ H xs us Q I r h;obtain⟨x,y,t,cs,rfl,ty,ka,q⟩:=h;cases r with
 |cons r rr=>
  cases rr with
  |cons r' rr=>
   cases rr;exact A4 I r r' ty ka fun tk=>⟨.bl (cs.any (isA t)),H,I.tok tk,rfl,q⟩
end
inductive Dt where
 |int (i:Int)|bl (b:Bool)|str (x:Str)|non|lst (ds:List Dt)|tup (ds:List Dt)
mutual
def Has(K:N7)(H:Hp):Dt->V->Prop
 | .int i,v=>v=.int i
 | .bl b,v=>v=.bl b
 | .str x,v=>v=.str x
 | .non,v=>v=.non
 | .lst ds,v=>∃a xs,v=.ref a/\SqL K H a xs/\cj K H ds xs
 | .tup ds,v=>∃a xs,v=.ref a/\SqT K H a xs/\cj K H ds xs
def cj(K:N7)(H:Hp):List Dt->List V->Prop
 | [],xs=>xs=[]
 |d::r,xs=>∃x t,xs=x::t/\Has K H d x/\cj K H r t
end
mutual
def dpt:Dt->Nat
 | .lst ds=>iW ds+1
 | .tup ds=>iW ds+1
 | _=>0
def iW:List Dt->Nat
 | []=>0
 |d::r=>max (dpt d) (iW r)
end
mutual
def eqD:Dt->Dt->Bool
 | .int a,.int b=>a == b
 | .int a,.bl b=>a ==(if b then 1 else 0)
 | .bl a,.int b=>(if a then 1 else 0) == b
 | .bl a,.bl b=>a == b
 | .str a,.str b=>a == b
 | .non,.non=>true
 | .lst xs,.lst ys=>eqL xs ys
 | .tup xs,.tup ys=>eqL xs ys
 | _,_=>false
def eqL:List Dt->List Dt->Bool
 | [],[]=>true
 |x::xs,y::ys=>eqD x y&&eqL xs ys
 | _,_=>false
end
mutual
theorem jk:∀d:Dt,eqD d d=true
 | .int a=>by simp[eqD]
 | .bl a=>by simp[eqD]
 | .str a=>by simp[eqD]
 | .non=>by simp[eqD]
 | .lst xs=>by rw[eqD];exact pE xs
 | .tup xs=>by rw[eqD];exact pE xs
theorem pE:∀ds:List Dt,eqL ds ds=true
 | []=>by simp[eqL]
 |d::r=>by rw[eqL,jk d,pE r];rfl
end
variable {H:Hp}
theorem cj.len :∀{ds:List Dt}{xs:List V},cj K H ds xs->ds.length=xs.length
 | [],xs,h=>by rw[cj]at h;rw[h];rfl
 |d::r,xs,h=>by rw[cj]at h;obtain⟨x,t,rfl,_,ht⟩:=h;rw[d_,d_,cj.len ht]
theorem cj.get :∀{ds:List Dt}{xs:List V}{i:Nat}{d:Dt}{x:V},cj K H ds xs->ds[i]?=some d->xs[i]?=some x->Has K H d x
 | [],xs,i,d,x,h,e,_=>by simp at e
 |c::r,xs,0,d,x,h,e,f=>by rw[cj]at h;obtain⟨y,t,rfl,hy,ht⟩:=h;simp at e f;subst e f;exact hy
 |c::r,xs,i+1,d,x,h,e,f=>by rw[cj]at h;obtain⟨y,t,rfl,hy,ht⟩:=h;exact cj.get ht (i:=i) (by simpa using e) (by simpa using f)
variable {H':Hp}
theorem SqL.same (e:bH H H')(h:SqL K H a xs):SqL K H' a xs:=e.seq h
theorem SqT.same (e:bH H H')(h:SqT K H a xs):SqT K H' a xs:=by
 rcases h with (h|⟨o,h⟩)|h
 ·exact .inl (.inl (e _ _ h))
 ·exact .inl (.inr ⟨o,e _ _ h⟩)
 exact .inr h
theorem SqG.same (e:bH H H')(h:SqG b K H a xs):SqG b K H' a xs:=by
 cases b with
 |true=>exact SqT.same e h
 |false=>exact SqL.same e h
theorem uK:cj K H [] []:=by rw[cj]
variable {d:Dt}
theorem rN{r:List Dt}{x:V}{t:List V}(h:Has K H d x)(g:cj K H r t):cj K H (d::r) (x::t):=by rw[cj];exact⟨x,t,rfl,h,g⟩
def di(ns:List Int):List Dt:=ns.map Dt.int
theorem qU{K:N7}{H:Hp}:∀ns:List Int,cj K H (di ns) (ns.map V.int)
 | []=>uK
 |n::r=>rN (by rw[Has]) (qU r)
variable {ns:List Int}{p:N8}
theorem uY(h:SqL K H p (ns.map V.int)):Has K H (.lst (di ns)) (.ref p):=by rw[Has];exact⟨p,_,rfl,h,qU ns⟩
theorem rB:∀ns:List Int,iW (di ns)=0
 | []=>by simp[di,iW]
 |n::r=>by have ih:=rB r;show iW (Dt.int n::di r)=0;simp[iW,dpt,ih]
theorem uD:∀{ds:List Dt}{i:Nat}{d:Dt},ds[i]?=some d->dpt d<=iW ds
 | [],i,d,e=>by simp at e
 |c::r,0,d,e=>by simp at e;subst e;rw[iW];exact Nat.le_max_left _ _
 |c::r,i+1,d,e=>by have q:dpt d<=iW r:=uD (i:=i) (by simpa using e);rw[iW];exact m_ q (Nat.le_max_right _ _)
theorem nC:∀(ds es:List Dt),ds.length=es.length->((u_ ds.length).all fun j=>eqD (ds.getD j .non) (es.getD j .non))=eqL ds es
 | [],[],_=>by simp[eqL]
 | [],e::r,h=>by simp at h
 |d::r,[],h=>by simp at h
 |d::r,e::t,h=>by
  have h':r.length=t.length:=by simpa using h
  rw[eqL,<-nC r t h',d_,List.range_succ_eq_map,Mq,Ko]
  rfl
theorem tV:∀{ds es:List Dt},eqL ds es=true->ds.length=es.length
 | [],[],_=>rfl
 | [],e::r,h=>by simp[eqL]at h
 |d::r,[],h=>by simp[eqL]at h
 |d::r,e::t,h=>by rw[eqL,JD]at h;rw[d_,d_,tV h.2]
theorem vA:∀(ds es:List Dt),(((u_ (min ds.length es.length)).all fun j=>eqD (ds.getD j .non) (es.getD j .non))&&ds.length == es.length)=eqL ds es:=by
 intro ds es;by_cases h:ds.length=es.length
 ·rw[<-nC ds es h,h,Nat.min_self];simp
 have:eqL ds es=false:=Ll.mpr fun z=>h (tV z);rw[this];have:(ds.length == es.length)=false:=by simpa using h
 rw[this,NG]
variable {A:OB}{ds:List Dt}
section
variable{X:Cx}{pins:List (N8×Obj)}{σ:St}{H:Hp}{s:N9}
theorem vc(n:Nat)(hA:A.units+1+n<cLine+1)(I:Inv X pins σ H s){es:List Dt}{its jts:List N5}(h1:cj X.K H ds xs)(h2:cj X.K H es ys)(r1:Vals xs its)(r2:Vals ys jts)
  (rec:∀d e x y u v,d∈ds->e∈es->Has X.K H d x->Has X.K H e y->RelV x u->RelV y v->Rn A.in1 s u v (eqD d e)) :
  ∀j (g1:j<its.toArray.size) (g2:j<jts.toArray.size),Rn A.in1 s its.toArray[j] jts.toArray[j] (eqD (ds.getD j .non) (es.getD j .non)):=by
 intro j g1 g2;have l1:=r1.length;have l2:=r2.length;have m1:=h1.len;have m2:=h2.len;have g1':j<its.length:=by simpa using g1
 have g2':j<jts.length:=by simpa using g2
 have a1:j<xs.length:=by lia
 have a2:j<ys.length:=by lia
 have b1:j<ds.length:=by lia
 have b2:j<es.length:=by lia
 obtain⟨u,hu,ru⟩:=r1.get (c_ a1);obtain⟨v,hv,rv⟩:=r2.get (c_ a2);rw[c_ g1']at hu;rw[c_ g2']at hv;cases hu;cases hv;have e1:ds.getD j .non=ds[j]:=by simp[JE,b1]
 have e2:es.getD j .non=es[j]:=by simp[JE,b2]
 rw[e1,e2];have:=rec ds[j] es[j] xs[j] ys[j] its[j] jts[j] (Ki b1) (Ki b2) (h1.get (c_ b1) (c_ a1)) (h2.get (c_ b2) (c_ a2)) ru rv;simpa using this
theorem xA(h:d∈ds):dpt d<=iW ds:=by obtain⟨i,hi⟩:=List.getElem?_of_mem h;exact uD hi
mutual
theorem Has.inj (I:Inv X pins σ H s):∀{d e:Dt}{x:V},Has X.K H d x->Has X.K H e x->d=e
 | .int a,.int b,x,h1,h2=>by
  rw[Has]at h1;rw[Has]at h2;rw[h1]at h2;cases h2
  rfl
 | .int a,.bl b,x,h1,h2=>by rw[Has]at h1;rw[Has]at h2;rw[h1]at h2;cases h2
 | .int a,.str b,x,h1,h2=>by rw[Has]at h1;rw[Has]at h2;rw[h1]at h2;cases h2
 | .int a,.non,x,h1,h2=>by rw[Has]at h1;rw[Has]at h2;rw[h1]at h2;cases h2
 | .int a,.lst b,x,h1,h2=>by rw[Has]at h1;rw[Has]at h2;obtain⟨p,xs,e,s1,l1⟩:=h2;rw[h1]at e;cases e
 | .int a,.tup b,x,h1,h2=>by rw[Has]at h1;rw[Has]at h2;obtain⟨p,xs,e,s1,l1⟩:=h2;rw[h1]at e;cases e
 | .bl a,.int b,x,h1,h2=>by rw[Has]at h1;rw[Has]at h2;rw[h1]at h2;cases h2
 | .bl a,.bl b,x,h1,h2=>by
  rw[Has]at h1;rw[Has]at h2;rw[h1]at h2;cases h2
  rfl
 | .bl a,.str b,x,h1,h2=>by rw[Has]at h1;rw[Has]at h2;rw[h1]at h2;cases h2
 | .bl a,.non,x,h1,h2=>by rw[Has]at h1;rw[Has]at h2;rw[h1]at h2;cases h2
 | .bl a,.lst b,x,h1,h2=>by rw[Has]at h1;rw[Has]at h2;obtain⟨p,xs,e,s1,l1⟩:=h2;rw[h1]at e;cases e
 | .bl a,.tup b,x,h1,h2=>by rw[Has]at h1;rw[Has]at h2;obtain⟨p,xs,e,s1,l1⟩:=h2;rw[h1]at e;cases e
 | .str a,.int b,x,h1,h2=>by rw[Has]at h1;rw[Has]at h2;rw[h1]at h2;cases h2
 | .str a,.bl b,x,h1,h2=>by rw[Has]at h1;rw[Has]at h2;rw[h1]at h2;cases h2
 | .str a,.str b,x,h1,h2=>by
  rw[Has]at h1;rw[Has]at h2;rw[h1]at h2;cases h2
  rfl
 | .str a,.non,x,h1,h2=>by rw[Has]at h1;rw[Has]at h2;rw[h1]at h2;cases h2
 | .str a,.lst b,x,h1,h2=>by rw[Has]at h1;rw[Has]at h2;obtain⟨p,xs,e,s1,l1⟩:=h2;rw[h1]at e;cases e
 | .str a,.tup b,x,h1,h2=>by rw[Has]at h1;rw[Has]at h2;obtain⟨p,xs,e,s1,l1⟩:=h2;rw[h1]at e;cases e
 | .non,.int b,x,h1,h2=>by rw[Has]at h1;rw[Has]at h2;rw[h1]at h2;cases h2
 | .non,.bl b,x,h1,h2=>by rw[Has]at h1;rw[Has]at h2;rw[h1]at h2;cases h2
 | .non,.str b,x,h1,h2=>by rw[Has]at h1;rw[Has]at h2;rw[h1]at h2;cases h2
 | .non,.non,x,h1,h2=>rfl
 | .non,.lst b,x,h1,h2=>by rw[Has]at h1;rw[Has]at h2;obtain⟨p,xs,e,s1,l1⟩:=h2;rw[h1]at e;cases e
 | .non,.tup b,x,h1,h2=>by rw[Has]at h1;rw[Has]at h2;obtain⟨p,xs,e,s1,l1⟩:=h2;rw[h1]at e;cases e
 | .lst a,.int b,x,h1,h2=>by rw[Has]at h1;rw[Has]at h2;obtain⟨p,xs,rfl,s1,l1⟩:=h1;cases h2
 | .lst a,.bl b,x,h1,h2=>by rw[Has]at h1;rw[Has]at h2;obtain⟨p,xs,rfl,s1,l1⟩:=h1;cases h2
 | .lst a,.str b,x,h1,h2=>by rw[Has]at h1;rw[Has]at h2;obtain⟨p,xs,rfl,s1,l1⟩:=h1;cases h2
 | .lst a,.non,x,h1,h2=>by rw[Has]at h1;rw[Has]at h2;obtain⟨p,xs,rfl,s1,l1⟩:=h1;cases h2
 | .lst a,.lst b,x,h1,h2=>by rw[Has]at h1;rw[Has]at h2;obtain⟨p,xs,rfl,s1,l1⟩:=h1;obtain⟨q,ys,e,s2,l2⟩:=h2;cases e;have e:=I.qk s1 s2;subst e;rw[cj.inj I l1 l2]
 | .lst a,.tup b,x,h1,h2=>by rw[Has]at h1;rw[Has]at h2;obtain⟨p,xs,rfl,s1,l1⟩:=h1;obtain⟨q,ys,e,s2,l2⟩:=h2;cases e;obtain⟨_,_,pl,_⟩:=I.list s1;obtain⟨_,_,pt,_⟩:=I.tuple s2;obtain⟨o1,g1,c1,_⟩:=pl.isList;obtain⟨o2,g2,c2,_⟩:=pt;rw[g1]at g2;cases g2;rw[c1]at c2;exact absurd c2 (by decide)
 | .tup a,.int b,x,h1,h2=>by rw[Has]at h1;rw[Has]at h2;obtain⟨p,xs,rfl,s1,l1⟩:=h1;cases h2
 | .tup a,.bl b,x,h1,h2=>by rw[Has]at h1;rw[Has]at h2;obtain⟨p,xs,rfl,s1,l1⟩:=h1;cases h2
 | .tup a,.str b,x,h1,h2=>by rw[Has]at h1;rw[Has]at h2;obtain⟨p,xs,rfl,s1,l1⟩:=h1;cases h2
 | .tup a,.non,x,h1,h2=>by rw[Has]at h1;rw[Has]at h2;obtain⟨p,xs,rfl,s1,l1⟩:=h1;cases h2
 | .tup a,.lst b,x,h1,h2=>by rw[Has]at h1;rw[Has]at h2;obtain⟨p,xs,rfl,s1,l1⟩:=h1;obtain⟨q,ys,e,s2,l2⟩:=h2;cases e;obtain⟨_,_,pl,_⟩:=I.list s2;obtain⟨_,_,pt,_⟩:=I.tuple s1;obtain⟨o1,g1,c1,_⟩:=pl.isList;obtain⟨o2,g2,c2,_⟩:=pt;rw[g1]at g2;cases g2;rw[c1]at c2;exact absurd c2 (by decide)
 | .tup a,.tup b,x,h1,h2=>by rw[Has]at h1;rw[Has]at h2;obtain⟨p,xs,rfl,s1,l1⟩:=h1;obtain⟨q,ys,e,s2,l2⟩:=h2;cases e;have e:=I.fP s1 s2;subst e;rw[cj.inj I l1 l2]
theorem cj.inj (I:Inv X pins σ H s):∀{ds es:List Dt}{xs:List V},cj X.K H ds xs->cj X.K H es xs->ds=es
 | [],[],xs,h1,h2=>rfl
 | [],e::r,xs,h1,h2=>by rw[cj]at h1;rw[cj]at h2;obtain⟨y,t,e,_,_⟩:=h2;rw[h1]at e;cases e
 |d::r,[],xs,h1,h2=>by rw[cj]at h1;rw[cj]at h2;obtain⟨y,t,e,_,_⟩:=h1;rw[h2]at e;cases e
 |d::r,e::q,xs,h1,h2=>by rw[cj]at h1;rw[cj]at h2;obtain⟨x,t,rfl,g1,g2⟩:=h1;obtain⟨y,w,z,k1,k2⟩:=h2;cases z;rw[Has.inj I g1 k1,cj.inj I g2 k2]
end
theorem qi{b:N8}{k:Bool}(h:Te A s (.ref a) (.ref b) k)(hk:a=b->k=true):Rn A s (.ref a) (.ref b) k:=by
 by_cases e:a=b
 ·rw[hk e,e];exact S5 _
 exact U7 e h
noncomputable def Rz(s:N9):Dt->N5->Prop
 | .int a,u=>∃t,u=.int a t
 | .bl a,u=>u=.bool a
 | .str a,u=>∃t,u=.str a t
 | .non,u=>u=.none
 | .lst _,u=>∃p its,u=.ref p/\s.heap.IsList p its
 | .tup _,u=>∃p its,u=.ref p/\s.heap.IsTuple p its
def knd:Dt->Nat
 | .lst _=>4
 | .tup _=>5
 | _=>0
theorem yH(I:Inv X pins σ H s){x:V}(h:Has X.K H d x)(r:RelV x u):Rz s d u:=by
  cases d <;> rw[Has]at h <;> first
    | (obtain⟨p,xs,rfl,s1,_⟩:=h
       cases r
       first
         | (obtain⟨_,_,pl,_⟩:=I.list s1;exact⟨_,_,rfl,pl.isList⟩)
         | (obtain⟨_,_,pl,_⟩:=I.tuple s1;exact⟨_,_,rfl,pl⟩))
    | (subst h;exact r)
theorem yC{e:Dt}{v:N5}(hu:A.units<cLine)(h1:Rz s d u)(h2:Rz s e v)(n:knd d≠knd e\/knd d=0):Te A s u v (eqD d e)/\Uj A s u v (!eqD d e)/\Rn A s u v (eqD d e):=by
 cases d with
 |int a=>
  obtain⟨_,rfl⟩:=h1;cases e with
  |int b=>obtain⟨_,rfl⟩:=h2;simp only[eqD];exact⟨.int_int _ _ _ _,.int_int _ _ _ _,.int_int _ _ _ _⟩
  |bl b=>cases h2;simp only[eqD];exact⟨.int_bool _ _ _,.int_bool _ _ _,.int_bool _ _ _⟩
  |str b=>obtain⟨_,rfl⟩:=h2;simp only[eqD];exact⟨.int_str _ _ _ _,.int_str _ _ _ _,.int_str _ _ _ _⟩
  |non=>cases h2;simp only[eqD];exact⟨.int_none _ _,.int_none _ _,.int_none _ _⟩
  |lst b=>obtain⟨_,_,rfl,hb⟩:=h2;simp only[eqD];exact⟨.int_list _ _ hb hu,.int_list _ _ hb hu,.int_list _ _ hb hu⟩
  |tup b=>obtain⟨_,_,rfl,hb⟩:=h2;simp only[eqD];exact⟨.int_tuple _ _ hb hu,.int_tuple _ _ hb hu,.int_tuple _ _ hb hu⟩
 |bl a=>
  cases h1;cases e with
  |int b=>obtain⟨_,rfl⟩:=h2;simp only[eqD];exact⟨.bool_int _ _ _,.bool_int _ _ _,.bool_int _ _ _⟩
  |bl b=>cases h2;simp only[eqD];exact⟨.bool_bool _ _,.bool_bool _ _,.bool_bool _ _⟩
  |str b=>obtain⟨_,rfl⟩:=h2;simp only[eqD];exact⟨.bool_str _ _ _,.bool_str _ _ _,.bool_str _ _ _⟩
  |non=>cases h2;simp only[eqD];exact⟨.bool_none _,.bool_none _,.bool_none _⟩
  |lst b=>obtain⟨_,_,rfl,hb⟩:=h2;simp only[eqD];exact⟨.bool_list _ hb hu,.bool_list _ hb hu,.bool_list _ hb hu⟩
  |tup b=>obtain⟨_,_,rfl,hb⟩:=h2;simp only[eqD];exact⟨.bool_tuple _ hb hu,.bool_tuple _ hb hu,.bool_tuple _ hb hu⟩
 |str a=>
  obtain⟨_,rfl⟩:=h1;cases e with
  |int b=>obtain⟨_,rfl⟩:=h2;simp only[eqD];exact⟨.str_int _ _ _ _,.str_int _ _ _ _,.str_int _ _ _ _⟩
  |bl b=>cases h2;simp only[eqD];exact⟨.str_bool _ _ _,.str_bool _ _ _,.str_bool _ _ _⟩
  |str b=>obtain⟨_,rfl⟩:=h2;simp only[eqD];exact⟨.str_str _ _ _ _,.str_str _ _ _ _,.str_str _ _ _ _⟩
  |non=>cases h2;simp only[eqD];exact⟨.str_none _ _,.str_none _ _,.str_none _ _⟩
  |lst b=>obtain⟨_,_,rfl,hb⟩:=h2;simp only[eqD];exact⟨.str_list _ _ hb hu,.str_list _ _ hb hu,.str_list _ _ hb hu⟩
  |tup b=>obtain⟨_,_,rfl,hb⟩:=h2;simp only[eqD];exact⟨.str_tuple _ _ hb hu,.str_tuple _ _ hb hu,.str_tuple _ _ hb hu⟩
 |non=>
  cases h1;cases e with
  |int b=>obtain⟨_,rfl⟩:=h2;simp only[eqD];exact⟨.none_int _ _,.none_int _ _,.none_int _ _⟩
  |bl b=>cases h2;simp only[eqD];exact⟨.none_bool _,.none_bool _,.none_bool _⟩
  |str b=>obtain⟨_,rfl⟩:=h2;simp only[eqD];exact⟨.none_str _ _,.none_str _ _,.none_str _ _⟩
  |non=>cases h2;simp only[eqD];exact⟨.none_none,.none_none,.same _⟩
  |lst b=>obtain⟨_,_,rfl,hb⟩:=h2;simp only[eqD];exact⟨.none_list hb hu,.none_list hb hu,.none_list hb hu⟩
  |tup b=>obtain⟨_,_,rfl,hb⟩:=h2;simp only[eqD];exact⟨.none_tuple hb hu,.none_tuple hb hu,.none_tuple hb hu⟩
 |lst a=>
  obtain⟨_,_,rfl,hl⟩:=h1;cases e with
  |int b=>obtain⟨_,rfl⟩:=h2;simp only[eqD];exact⟨.list_int _ _ hl hu,.list_int _ _ hl hu,.list_int _ _ hl hu⟩
  |bl b=>cases h2;simp only[eqD];exact⟨.list_bool _ hl hu,.list_bool _ hl hu,.list_bool _ hl hu⟩
  |str b=>obtain⟨_,rfl⟩:=h2;simp only[eqD];exact⟨.list_str _ _ hl hu,.list_str _ _ hl hu,.list_str _ _ hl hu⟩
  |non=>cases h2;simp only[eqD];exact⟨.list_none hl hu,.list_none hl hu,.list_none hl hu⟩
  |lst b=>simp[knd]at n
  |tup b=>obtain⟨_,_,rfl,hb⟩:=h2;simp only[eqD];exact⟨.list_tuple hl hb hu,.list_tuple hl hb hu,.list_tuple hl hb hu⟩
 |tup a=>
  obtain⟨_,_,rfl,hl⟩:=h1;cases e with
  |int b=>obtain⟨_,rfl⟩:=h2;simp only[eqD];exact⟨.tuple_int _ _ hl hu,.tuple_int _ _ hl hu,.tuple_int _ _ hl hu⟩
  |bl b=>cases h2;simp only[eqD];exact⟨.tuple_bool _ hl hu,.tuple_bool _ hl hu,.tuple_bool _ hl hu⟩
  |str b=>obtain⟨_,rfl⟩:=h2;simp only[eqD];exact⟨.tuple_str _ _ hl hu,.tuple_str _ _ hl hu,.tuple_str _ _ hl hu⟩
  |non=>cases h2;simp only[eqD];exact⟨.tuple_none hl hu,.tuple_none hl hu,.tuple_none hl hu⟩
  |lst b=>obtain⟨_,_,rfl,hb⟩:=h2;simp only[eqD];exact⟨.tuple_list hl hb hu,.tuple_list hl hb hu,.tuple_list hl hb hu⟩
  |tup b=>simp[knd]at n
theorem yF(I:Inv X pins σ H s):∀(n:Nat) (A:OB) (d e:Dt) (x y:V) (u v:N5),dpt d<=n->A.units+n<cLine->Has X.K H d x->Has X.K H e y->RelV x u->RelV y v->
  Te A s u v (eqD d e)/\Uj A s u v (!eqD d e)/\Rn A s u v (eqD d e):=by
 intro n;induction n with
 |zero=>
  intro A d e x y u v hd hA h1 h2 r1 r2;exact yC (by lia) (yH I h1 r1) (yH I h2 r2) (.inr (by cases d <;> first|rfl|(rw[dpt]at hd;lia)))
 |succ n ih=>
  intro A d e x y u v hd hA h1 h2 r1 r2;have hu:A.units<cLine:=by lia
  by_cases k:knd d≠knd e\/knd d=0
  ·exact yC hu (yH I h1 r1) (yH I h2 r2) k
  cases d <;> cases e <;> try (exfalso;simp[knd]at k;done)
  ·rename_i a b;have h1k:=h1;rw[Has]at h1;obtain⟨p,xs,rfl,s1,l1⟩:=h1;cases (show u=OC p from r1);obtain⟨its,rv1,pl1,z1⟩:=I.list s1;have hl:=pl1.isList;have hd':iW a<=n:=by rw[dpt]at hd;lia
   have h2k:=h2;rw[Has]at h2;obtain⟨q,ys,rfl,s2,l2⟩:=h2;cases (show v=OC q from r2);obtain⟨jts,rv2,pl2,z2⟩:=I.list s2;have hb:=pl2.isList;have recc:=vc n (A:=A) (by lia) I l1 l2 rv1 rv2 fun d e x y u v hm hm' g1 g2 k1 k2=>(ih A.in1 d e x y u v (m_ (xA hm) hd') (by show A.units+1+n<cLine;lia) g1 g2 k1 k2).2.2
   have m1:=l1.len;have m2:=l2.len;have v1:=rv1.length;have v2:=rv2.length;have self:p=q->eqD (.lst a) (.lst b)=true:=fun z=>by subst z;rw[Has.inj I h1k h2k];exact jk _
   have ee:eqD (.lst a) (.lst b)=eqL a b:=by rw[eqD]
   by_cases hs:its.toArray.size=jts.toArray.size
   ·have hs':a.length=b.length:=by simp at hs;lia
    have hn:its.toArray.size=a.length:=by simp;lia
    have k1:=Vc hl hb hs hu recc;have k2:=U8 hl hb hs hu recc;rw[hn,nC a b hs',<-ee]at k1 k2;exact⟨k1,k2,qi k1 self⟩
   have hs':¬a.length=b.length:=by simp at hs;lia
   have hz:(its.toArray.size != jts.toArray.size)=true:=by simpa using hs
   have ef:eqD (.lst a) (.lst b)=false:=by rw[ee];exact Ll.mpr fun z=>hs' (tV z)
   have k1:=Uk hl hb hz hu;have k2:=T6 hl hb hz hu;rw[<-ef]at k1;refine⟨k1,?_,qi k1 self⟩;rw[ef];exact k2
  rename_i a b;have h1k:=h1;rw[Has]at h1;obtain⟨p,xs,rfl,s1,l1⟩:=h1;cases (show u=OC p from r1);obtain⟨its,rv1,pl1,z1⟩:=I.tuple s1;have hl:s.heap.IsTuple p its.toArray:=pl1;have hd':iW a<=n:=by rw[dpt]at hd;lia
  have h2k:=h2;rw[Has]at h2;obtain⟨q,ys,rfl,s2,l2⟩:=h2;cases (show v=OC q from r2);obtain⟨jts,rv2,pl2,z2⟩:=I.tuple s2;have hb:s.heap.IsTuple q jts.toArray:=pl2;have recc:=vc n (A:=A) (by lia) I l1 l2 rv1 rv2 fun d e x y u v hm hm' g1 g2 k1 k2=>(ih A.in1 d e x y u v (m_ (xA hm) hd') (by show A.units+1+n<cLine;lia) g1 g2 k1 k2).2.2
  have m1:=l1.len;have m2:=l2.len;have v1:=rv1.length;have v2:=rv2.length;have self:p=q->eqD (.tup a) (.tup b)=true:=fun z=>by subst z;rw[Has.inj I h1k h2k];exact jk _
  have ee:eqD (.tup a) (.tup b)=eqL a b:=by rw[eqD]
  have hn:its.toArray.size=a.length:=by simp;lia
  have hn':jts.toArray.size=b.length:=by simp;lia
  have k1:=U' hl hb hu recc;have k2:=UZ hl hb hu recc;rw[hn,hn',vA a b,<-ee]at k1 k2;exact⟨k1,k2,qi k1 self⟩
end
section
variable{X:Cx}
noncomputable def IW(K:N7)(A:OB)(neg:Bool):R2:=fun x y H Q=>∃d e,Has K H d x/\Has K H e y/\A.units+dpt d<cLine/\Q (.bl (if neg then !eqD d e else eqD d e)) H
theorem BG:OpR X (OV .Eq) (IW X.K X.A false):=by intro pins s σ H x y v u Q I rx ry h;obtain⟨d,e,h1,h2,hA,q⟩:=h;exact(yF I (dpt d) X.A d e x y v u (b_ _) hA h1 h2 rx ry).1 _ _ _ _ ⟨.bl (eqD d e),H,I,rfl,q⟩
theorem G6:OpR X (OV .NotEq) (IW X.K X.A true):=by intro pins s σ H x y v u Q I rx ry h;obtain⟨d,e,h1,h2,hA,q⟩:=h;exact(yF I (dpt d) X.A d e x y v u (b_ _) hA h1 h2 rx ry).2.1 _ _ _ _ ⟨.bl (!eqD d e),H,I,rfl,q⟩
end
structure Cal (P:Oj) (w:Ot) (K:N7) (mg:Str->Option N5) (base:Ou) (k:Nat) (x:Str) (ps:List Str) (sp:Sp):Prop where
 ex:∃(f:N8) (fd:OA),FnOk P w K mg base CX0 k f fd ps sp/\mg x=some (.ref f)/\Qu K (.ref f)=true/\Binds K fd ps []
variable {ps:List Str}{sp:Sp}{x:Str}
theorem Fn{j k:Nat}{t:TA}{p:Pos}(D:Cal X.prog X.w X.K X.mg X.base j x ps sp)(hr:Room k X.A)(hg:Gl X x)(ha:PA X (e::es) t)(hjk:j<=k:=by omega)(hdb:(x ==("__debug__":Str))=false:=by decide)
  (he:Oy (e::es) X.env=(false,OK e X.env)::Oy es X.env:=by rfl) (hpl:(Qb pos (Oy es X.env)).any (·.1)=false:=by rfl):PE X (.Call (.Name x p) (e::es) [] pos) (Bw sp [] E0 t):=by
 obtain⟨f,fd,F,hm,hk,hb⟩:=D.ex;exact CA F (hr.mono hjk) hg hm hk hb .nil Hw ha hdb he hpl
variable {mg:Str->Option N5}
theorem Cal.imp {base:Ou}{k:Nat}{sp':Sp}(D:Cal P w K mg base k x ps sp)(h:∀vs H Q E,sp' vs H Q E->sp vs H Q E):Cal P w K mg base k x ps sp':=by obtain⟨f,fd,F,r⟩:=D.ex;exact⟨f,fd,F.imp h,r⟩
structure Dfn (K:N7) (mg:Str->Option N5) (x:Str) (st:OF) (ps:List Str):Prop where
 ex:∃(f:N8) (fd:OA),Fun K x x st f fd/\mg x=some (.ref f)/\Binds K fd ps []
theorem Dfn.cal {base:Ou}{k:Nat}{st:OF}(D:Dfn K mg x st ps)(h:∀f fd,Fun K x x st f fd->FnOk P w K mg base CX0 k f fd ps sp):Cal P w K mg base k x ps sp:=by obtain⟨f,fd,F,hm,hb⟩:=D.ex;exact⟨f,fd,h f fd F,hm,F.kp,hb⟩
theorem bH.bW :bH H H:=fun _ _ e=>e
variable {H1:Hp}
theorem bH.trans' {H2:Hp}(a:bH H H1)(b:bH H1 H2):bH H H2:=fun c o e=>b c o (a c o e)
theorem bP(h:H p=none)(o:HO):bH H (upd H p o):=fun b u q=>by rw[aL (bN q h)];exact q
theorem bH.none {H H':Hp}(a:bH H H'){p:N8}(h:H' p=none):H p=none:=by
 cases e:H p with
 |none=>rfl
 |some o=>rw[a p o e]at h;cases h
def Kp(a c:N8)(H H':Hp):Prop:=∀b o,H b=some o->b≠a->b≠c->H' b=some o
variable {n:Nat}
theorem xQ{i:Int}(h0:0<=i)(h1:i<(n:Int)):ixN n i=some i.toNat:=by unfold ixN;rw[if_pos h0,if_pos h1]
theorem Dh{α:Type}{xs:List α}{i:Int}{v:α}(h0:0<=i)(hv:xs[i.toNat]?=some v):atI xs i=some v:=by have h1:i.toNat<xs.length:=(gV.mp hv).1;unfold atI;rw[xQ h0 (by omega)];exact hv
theorem BR{i:Int}(h0:0<=i)(h1:i<(ns.length:Int)):atI (ns.map V.int) i=some (.int (ns.getD i.toNat 0)):=by
 have h2:i.toNat<ns.length:=by omega
 refine Dh h0 ?_;rw[z_,c_ h2,JE,c_ h2]
 rfl
theorem FG{i:Int}{v:V}{Q:VK}(h:SqG b K H p xs)(hv:atI xs i=some v)(q:Q v H):rIx K (.ref p) (.int i) H Q:=by
 cases b with
 |true=>exact .inr (.inl ⟨p,xs,i,v,rfl,rfl,h,hv,q⟩)
 |false=>exact .inl ⟨p,xs,i,v,rfl,rfl,h,hv,q⟩
theorem Iq{A B:Prop}(h1:b=true->A)(h2:b=false->B):if b=true then A else B:=by
 cases b with
 |true=>exact Jb (h1 rfl)
 |false=>exact Je (h2 rfl)
theorem Bb(S:FnScope N ps esc)(N':List Str)(fr:List (Option Nat))(nd:N'.Nodup){g:N9->Hp->List N8->TG}(C:jg N esc sc N' fr=true)
  (hi:PI X target iter wi) (hg:∀s3 H3 fp,PG (aT X N' sc s3 H3 fp) target (g s3 H3 fp)) (ht:∀s3 H3 fp,PTs (aT X N' sc s3 H3 fp) ifs (tt s3 H3 fp)) (he:∀s3 H3 fp,PE (aT X N' sc s3 H3 fp) elt (te s3 H3 fp))
  (hc:X.calm=true:=by rfl) (hN:X.N=N:=by rfl) (hS:X.env.scope=esc:=by rfl) (hs:∀x,OX iter X.env x=pure x:=by intro _;rfl):PE X (.ListComp elt [⟨target,iter,ifs,0⟩] sc pos) (yz wi fr g tt te):=
 xX N' fr hc (by rw[hN,hS];exact C) hi hg ht he hs
def Its(K:N7)(b:Bool)(a:N8):It:=match b with
 |true=>Itt K a
 |false=>Itl K a
noncomputable def iSq(K:N7)(tl:TE):TI:=fun σ H R=>tl σ H fun x H1=>∃b a xs,x=.ref a/\SqG b K H1 a xs/\R (Its K b a) H1
theorem AK{tg l:Ov}{tl:TE}(hl:PE X l tl):PI X tg l (iSq X.K tl):=by
 intro pins s σ H R I h;refine thn (hl pins s σ H _ I h) ?_;rintro v s1 ⟨x,H1,I1,r1,q1⟩;obtain⟨b,a,xs,rfl,hq,q⟩:=q1;cases r1;cases b with
 |true=>
  obtain⟨its,rv,p,hz⟩:=I1.tuple hq;refine Pj (show s1.heap.IsTuple a its.toArray from p) ⟨s1.heap.objs.size,[s1.heap.objs.size],_,_,H1,rfl,I1.kept (t':=s1.toks) fun b o e=>Oe _ e,wZ a _,⟨_,Oo _ rfl,rfl,rfl⟩,fun b hb=>?_,q⟩;have e:b=s1.heap.objs.size:=by simpa using hb
  subst e;exact I1.xo (b_ _) (I1.hok.fresh (b_ _))
 |false=>
  obtain⟨its,rv,p,hz⟩:=I1.list hq;refine Pm p.isList ⟨s1.heap.objs.size,[s1.heap.objs.size],_,_,H1,rfl,I1.kept (t':=s1.toks) fun b o e=>Oe _ e,zr a _,⟨_,Oo _ rfl,rfl,rfl⟩,fun b hb=>?_,q⟩;have e:b=s1.heap.objs.size:=by simpa using hb
  subst e;exact I1.xo (b_ _) (I1.hok.fresh (b_ _))
theorem ye{H2:Hp}{v:V}(h1:SqG b K H1 a xs)(s:bH H1 H')(h:(Its K b a).yld i H' v H2):H2=H'/\xs[i]?=some v:=by
 cases b with
 |true=>exact⟨h.1,h.2 xs (SqG.same s h1)⟩
 |false=>exact⟨h.1,h.2 xs (SqG.same s h1)⟩
theorem Aa(h1:SqG b K H1 a xs)(hx:xs.length=n):∀i H',bH H1 H'->i<n->(Its K b a).go i H':=fun i H' s hi=>by
 cases b with
 |true=>exact⟨xs,xs[i]'(by lia),SqT.same s h1,c_ _⟩
 |false=>exact⟨xs,xs[i]'(by lia),SqL.same s h1,c_ _⟩
theorem vj(h1:SqG b K H1 a xs)(hx:xs.length=n):∀H',bH H1 H'->(Its K b a).stop n H':=fun H' s=>by
 cases b with
 |true=>exact⟨xs,SqT.same s h1,by lia⟩
 |false=>exact⟨xs,SqL.same s h1,by lia⟩
def New(o:HO)(H:Hp)(Q:VK):Prop:=∀p H',H p=none->bH H H'->H' p=some o->Q (.ref p) H'
theorem New.at {o:HO}{Q:VK}(h:New o H Q)(hp:H p=none):Q (.ref p) (upd H p o):=h p _ hp (bP hp o) aO
section
variable{X:Cx}{es:List Ov}{t:TA}{pos:Pos}
def GQ(t:TA):TE:=fun σ H Q=>t σ H fun xs H1=>xs.length<=sizeLine/\New (.tup xs) H1 Q
def IP(t:TA):TE:=fun σ H Q=>t σ H fun xs H1=>xs.length<=sizeLine/\New (.lst xs) H1 Q
theorem DV{x1}(h:PA X es t):PE X (.Tuple es x1 pos) (GQ t):=by intro pins s σ H Q I hq;refine wpAny_Tuple_spliced (thn (h pos pins s σ H _ I hq) fun us s1 ⟨xs,H1,I1,r,z,q⟩=>⟨by rw[<-r.length];exact z,?_⟩);refine⟨.ref s1.heap.objs.size,upd H1 s1.heap.objs.size (.tup xs),I1.laid (t':=s1.toks) (fun b u e=>Oe _ e) (b_ _) ⟨z,us,r,⟨_,Oo _ rfl,rfl,_,rfl⟩⟩,rfl,q.at (I1.hok.fresh (b_ _))⟩
theorem Cg(h:PA X es t):PE X (.List es pos) (IP t):=by intro pins s σ H Q I hq;refine Sn (thn (h pos pins s σ H _ I hq) fun us s1 ⟨xs,H1,I1,r,z,q⟩=>⟨by rw[<-r.length];exact z,?_⟩);refine⟨.ref s1.heap.objs.size,upd H1 s1.heap.objs.size (.lst xs),I1.laid (t':=s1.toks) (fun b u e=>Oe _ e) (b_ _) ⟨z,us,0,r,Oo _ rfl⟩,rfl,q.at (I1.hok.fresh (b_ _))⟩
theorem bp.imp {f:N5}{r r':List V->Hp->VK->Prop}(h:bp X f r)(k:∀vs H Q,r' vs H Q->r vs H Q):bp X f r':=fun pins s σ H xs us Q I rv q=>h pins s σ H xs us Q I rv (k _ _ _ q)
theorem OpR.imp {f:N5->N5->Sem N5}{r r':R2}(h:OpR X f r)(k:∀x y H Q,r' x y H Q->r x y H Q):OpR X f r':=fun pins s σ H x y v u Q I rx ry q=>h pins s σ H x y v u Q I rx ry (k _ _ _ _ q)
theorem wg:bp X (.type "list") (fun xs H Q=>∃b p ys,xs=[.ref p]/\SqG b X.K H p ys/\New (.lst ys) H Q):=mJ.imp fun vs H Q ⟨b,p,ys,e,h,q⟩=>by
 refine⟨p,ys,e,?_,fun l hl=>q.at hl⟩;cases b with
 |true=>exact .inr h
 |false=>exact .inl h
theorem uq:bp X (.type "tuple") (fun xs H Q=>∃p ys,xs=[.ref p]/\SqL X.K H p ys/\New (.tup ys) H Q):=qJ.imp (by rintro vs H Q ⟨p,ys,e,h,q⟩;exact⟨p,ys,e,.inl ⟨h,fun l hl=>q.at hl⟩⟩)
theorem zQ:bp X (.builtin "len") (fun xs H Q=>∃b p ys,xs=[.ref p]/\SqG b X.K H p ys/\Q (.int ys.length) H):=lJ.imp fun vs H Q ⟨b,p,ys,e,h,q⟩=>by
 refine⟨p,ys,e,?_,q⟩;cases b with
 |true=>exact .inr h
 |false=>exact .inl h
noncomputable def Ja(K:N7):R2:=fun x y H Q=>∃b p xs i v,x=.ref p/\y=.int i/\SqG b K H p xs/\atI xs i=some v/\Q v H
theorem Jc:IxR X (Ja X.K):=by rintro value slice pins s σ H x y v u Q I rx ry ⟨b,p,xs,i,z,e1,e2,hq,ha,q⟩ hs;subst e1 e2;exact FF value slice pins s σ H (.ref p) (.int i) v u Q I rx ry (FG hq ha q) hs
end
def iS(ns:List Int)(r:Int):Prop:=r∈ns/\∀x∈ns,r<=x
def iQ(ns:List Int)(r:Int):Prop:=r∈ns/\∀x∈ns,x<=r
theorem ck:∀{ns:List Int}{us:List N5},Vals (ns.map V.int) us->∃ps:List (Int×Tok),us=ps.map (fun p=>O5 p.1 p.2)/\ps.map (·.1)=ns
 | [],_,.nil=>⟨[],rfl,rfl⟩
 |n::r,_,.cons h t=>by obtain⟨ps,e1,e2⟩:=ck t;obtain⟨tk,e⟩:=h;exact⟨(n,tk)::ps,by rw[e,e1];rfl,by rw[<-e2];rfl⟩
theorem cL{ps:List (Int×Tok)}(e:ps.map (·.1)=ns)(hi:i<ns.length):P5 ps.toArray i=ns[i]:=by
 subst e;have h2:i<ps.length:=by simpa using hi
 simp[P5,h2]
section
variable{X:Cx}
theorem zR(hc:X.calm=true):bp X (.builtin "min") (fun xs H Q=>∃a ns,xs=[.ref a]/\SqL X.K H a (ns.map V.int)/\ns≠[]/\∀r,iS ns r->Q (.int r) H):=by
 intro pins s σ H xs us Q I r h;obtain⟨a,ns,rfl,hq,hne,q⟩:=h;obtain⟨u,rfl,ru⟩:=vals1 r;cases ru;obtain⟨its,rv,p,z⟩:=I.list hq;obtain⟨ps,e1,e2⟩:=ck rv;subst e1;have hl:s.heap.IsList a (OM ps.toArray):=by
  have e:OM ps.toArray=(ps.map fun p=>O5 p.1 p.2).toArray:=by simp[OM]
  rw[e];exact p.isList
 have hlen:ps.length=ns.length:=by rw[<-e2];simp
 have hpos:0<ns.length:=JU fun z=>hne (Kv z);refine min_intList (I.ok.hd hc) hl (by simp;lia) fun v h' tk hv hk=>?_
 obtain⟨tv,rfl⟩:=QE hv;obtain⟨b1,b2⟩:=argBest_lt (P5 ps.toArray) (ps.toArray.size-1);have hi:Tx (fun i j=>decide (P5 ps.toArray i<P5 ps.toArray j)) (ps.toArray.size-1)<ns.length:=by simp at b1 ⊢;lia
 refine⟨.int _,H,I.kept (t':=tk) hk,⟨tv,rfl⟩,q _ ⟨?_,fun x hx=>?_⟩⟩
 ·rw[cL e2 hi];exact Ki hi
 obtain⟨j,hj,rfl⟩:=Ka.mp hx;have:=b2 j (by simp;lia);rw[cL e2 hj]at this;exact this
theorem zO(hc:X.calm=true):bp X (.builtin "max") (fun xs H Q=>∃a ns,xs=[.ref a]/\SqL X.K H a (ns.map V.int)/\ns≠[]/\∀r,iQ ns r->Q (.int r) H):=by
 intro pins s σ H xs us Q I r h;obtain⟨a,ns,rfl,hq,hne,q⟩:=h;obtain⟨u,rfl,ru⟩:=vals1 r;cases ru;obtain⟨its,rv,p,z⟩:=I.list hq;obtain⟨ps,e1,e2⟩:=ck rv;subst e1;have hl:s.heap.IsList a (OM ps.toArray):=by
  have e:OM ps.toArray=(ps.map fun p=>O5 p.1 p.2).toArray:=by simp[OM]
  rw[e];exact p.isList
 have hlen:ps.length=ns.length:=by rw[<-e2];simp
 have hpos:0<ns.length:=JU fun z=>hne (Kv z);refine max_intList (I.ok.hd hc) hl (by simp;lia) fun v h' tk hv hk=>?_
 obtain⟨tv,rfl⟩:=QE hv;obtain⟨b1,b2⟩:=argBest_gt (P5 ps.toArray) (ps.toArray.size-1);have hi:Tx (fun i j=>decide (P5 ps.toArray i > P5 ps.toArray j)) (ps.toArray.size-1)<ns.length:=by simp at b1 ⊢;lia
 refine⟨.int _,H,I.kept (t':=tk) hk,⟨tv,rfl⟩,q _ ⟨?_,fun x hx=>?_⟩⟩
 ·rw[cL e2 hi];exact Ki hi
 obtain⟨j,hj,rfl⟩:=Ka.mp hx;have:=b2 j (by simp;lia);rw[cL e2 hj]at this;exact this
theorem zp(hc:X.calm=true):bp X (.builtin "max") (fun xs H Q=>∃i j k,xs=[.int i,.int j,.int k]/\∀r,i<=r->j<=r->k<=r->(r=i\/r=j\/r=k)->Q (.int r) H):=by
 intro pins s σ H xs us Q I r h;obtain⟨i,j,k,rfl,q⟩:=h;cases r with
 |cons r1 rr=>
  cases rr with
  |cons r2 rr=>
   cases rr with
   |cons r3 rr=>
    cases rr;obtain⟨t1,rfl⟩:=r1;obtain⟨t2,rfl⟩:=r2;obtain⟨t3,rfl⟩:=r3;refine max_three_ints (I.ok.hd hc) fun h' tk hk=>?_;have fin:∀(r:Int) (t:Tok),i<=r->j<=r->k<=r->(r=i\/r=j\/r=k)->EP X pins σ Q (.int r t) {s with heap:=h',toks:=tk}:=fun r t a b c d=>⟨.int r,H,I.kept (t':=tk) hk,⟨t,rfl⟩,q r a b c d⟩;split
    ·split
     ·exact fin _ _ (by lia) (by lia) (by lia) (by lia)
     exact fin _ _ (by lia) (by lia) (by lia) (by lia)
    split
    ·exact fin _ _ (by lia) (by lia) (by lia) (by lia)
    exact fin _ _ (by lia) (by lia) (by lia) (by lia)
theorem A1(hc:X.calm=true):bp X (.builtin "min") (fun xs H Q=>∃i j k,xs=[.int i,.int j,.int k]/\∀r,r<=i->r<=j->r<=k->(r=i\/r=j\/r=k)->Q (.int r) H):=by
 intro pins s σ H xs us Q I r h;obtain⟨i,j,k,rfl,q⟩:=h;cases r with
 |cons r1 rr=>
  cases rr with
  |cons r2 rr=>
   cases rr with
   |cons r3 rr=>
    cases rr;obtain⟨t1,rfl⟩:=r1;obtain⟨t2,rfl⟩:=r2;obtain⟨t3,rfl⟩:=r3;refine min_three_ints (I.ok.hd hc) fun h' tk hk=>?_;have fin:∀(r:Int) (t:Tok),r<=i->r<=j->r<=k->(r=i\/r=j\/r=k)->EP X pins σ Q (.int r t) {s with heap:=h',toks:=tk}:=fun r t a b c d=>⟨.int r,H,I.kept (t':=tk) hk,⟨t,rfl⟩,q r a b c d⟩;split
    ·split
     ·exact fin _ _ (by lia) (by lia) (by lia) (by lia)
     exact fin _ _ (by lia) (by lia) (by lia) (by lia)
    split
    ·exact fin _ _ (by lia) (by lia) (by lia) (by lia)
    exact fin _ _ (by lia) (by lia) (by lia) (by lia)
end
structure Put (H:Hp) (p:N8) (o:HO) (H':Hp):Prop where
 at_:H' p=some o
 else_:∀b,b≠p->H' b=H b
theorem Put.up {o:HO}:Put H p o (upd H p o):=⟨aO,fun b h=>aL h⟩
section
variable{X:Cx}
theorem vU.imp {t t':Df}(h:vU X t)(k:∀o i v H Q,t' o i v H Q->t o i v H Q):vU X t':=fun pins s σ H o i v ov iv u Q I r1 r2 r3 q=>h pins s σ H o i v ov iv u Q I r1 r2 r3 (k _ _ _ _ _ q)
theorem zS:vU X (fun o i v H Q=>∃p xs k j,o=.ref p/\i=.int k/\H p=some (.lst xs)/\ixN xs.length k=some j/\∀H',Put H p (.lst (xs.set j v)) H'->Q H'):=set_list.imp (by rintro o i v H Q ⟨p,xs,k,j,e1,e2,h,hj,q⟩;exact⟨p,xs,k,j,e1,e2,h,hj,q _ Put.up⟩)
end
section
variable{M:P_}{A:OB}{E:N5->N9->Prop}{s:N9}{env:Env}
theorem mE{first:Sem N5}{g:Rf}{u:N5->Sem Unit}
  (hcl:clausesOf e=g::gs) (hs:∀x,OX g.iter env x=pure x)
  (hc:∀x∈scope.names,x.2≠.cell) (hfr:∀x∈scope.names,x.2=.free->∃c,env.cells.lookup x.1=some c) (hkind:scope.kind=.function) (hnames:∀x∈scope.names,x.2=.local->scope.names.lookup x.1=some .local)
  (h:Of M A first (fun x s₁=>Of M A (Ru x) (fun it s₂=>Of M A newAcc (fun acc s₃=>
   ∀h4,h4.Ns s₃.heap.objs.size (fun _=>none)->(∀b o,s₃.heap.get? b=some o->h4.get? b=some o)->
    Qh M A (.compStart e 0 it acc (L2.compEnv env scope s₃.heap.objs.size)) (fun r s'=>match r with
     | .ok _=>Of M A (u acc) (fun _ s''=>∃m,s''.heap.Ns s₃.heap.objs.size m/\∀h',O1 s₃.heap.objs.size s''.heap h'->Q .none {s'' with heap:=h'}) E s'
     | .error x=>False) { s₃ with heap:=h4}) E s₂) E s₁) E s) :
  Of M A (QH e scope env pos newAcc false first (some u)) Q E s:=by
 unfold QH;rw[pq hfr,hcl];refine N6 (OG h (fun x s₁ h₁=>N6 (QF (N6 (Q7 (hs x) (N6 (OH (OG h₁ (fun it s₂ h₂=>
  T5 (N6 (OG h₂ (fun acc s₃ h₃=>N6 (Oa (N6 ?_))) fun _ _ h'=>h'))) fun _ _ h'=>h'))))))) fun _ _ h'=>h')
 refine R_ hc (fun x hx=>nomatch hx) (fun h4 hn4 hs4=>?_) hkind;have h₄:=h₃ h4 hn4 fun b o e=>hs4.extBut b o (w_ (Ol e)) (Oe _ e);dsimp only;have hv:∀x∈(scope.names.filter fun x=>(x.2 == .local || x.2 == .cell)&&x.1 !=(".0":Str)).reverse,x.2=.local->
   Td (L2.compEnv env scope s₃.heap.objs.size) x.1=some .local:=fun x hx hl=>by
  show(oI env scope).names.lookup x.1=some .local;rw[lZ,hnames x (JJ.mp (K4.mp hx)).1 hl]
  rfl
 have hv':∀x∈(scope.names.filter fun x=>(x.2 == .local || x.2 == .cell)&&x.1 !=(".0":Str)).reverse.drop 1++(scope.names.filter fun x=>(x.2 == .local || x.2 == .cell)&&x.1 !=(".0":Str)).reverse.take 1,
   x.2=.local->Td (L2.compEnv env scope s₃.heap.objs.size) x.1=some .local:=fun x hx hl=>
  (A_.mp hx).elim (fun z=>hv x (KR z) hl) fun z=>hv x (JF z) hl
 refine OH (N6 (PN (OH (wpAny_run (PY h₄ fun r s' hr=>?_)))));cases r with
 |ok f=>
  refine N6 (Rm (N6 (OH (OG hr (fun _ s'' hr'=>?_) fun _ _ h'=>h'))));obtain⟨m,hn,hr'⟩:=hr';exact N6 (SY (cenv:=L2.compEnv env scope s₃.heap.objs.size) hkind _ s'' m hv' hn fun h' m' _ hs'=>Oa (hr' h' hs'))
 |error x=>exact hr.elim
end
theorem Cp(S:FnScope N ps esc){pos':Pos}(N':List Str)(fr:List (Option Nat))(nd:N'.Nodup){pos2:Pos}{g:N9->Hp->List N8->TG}(C:jg N esc sc N' fr=true)
  (hi:X.N[i]?=some x) (hx:Loc X.env.scope x) (hit:PI X target iter wi) (hg:∀s3 H3 fp,PG (aT X N' sc s3 H3 fp) target (g s3 H3 fp)) (ht:∀s3 H3 fp,PTs (aT X N' sc s3 H3 fp) ifs (tt s3 H3 fp)) (he:∀s3 H3 fp,PE (aT X N' sc s3 H3 fp) elt (te s3 H3 fp))
  (hsw:QL (.ListComp elt [⟨target,iter,ifs,0⟩] sc pos2) (some (.Name x pos')) pos.line X.env=pure true) (hf:X.fn x=true:=by rfl)
  (hc:X.calm=true:=by rfl) (hN:X.N=N:=by rfl) (hS:X.env.scope=esc:=by rfl) (hs:∀x,OX iter X.env x=pure x:=by intro _;rfl):PS X (.Assign [.Name x pos'] (.ListComp elt [⟨target,iter,ifs,0⟩] sc pos2) pos) (CN (yz wi fr g tt te) (ya i)):=by
 have C:CompOk X.N X.env.scope sc N' fr:=ra (by rw[hN,hS];exact C);have hNd:X.N.Nodup:=by rw[hN];exact S.nd
 intro pins s σ H D I h;rw[exec_Assign_Name_used _ _ _ _ hsw];refine N6 (QF (N6 ?_));show Of _ X.A (do let _ <-QH (.ListComp elt [⟨target,iter,ifs,0⟩] sc pos2) sc X.env _ (newList []) false (OK iter X.env) (some (QA (.Name x pos') X.env))) _ _ s;have hfr:∀x∈sc.names,x.2=.free->∃c,X.env.cells.lookup x.1=some c:=fun x hx e=>I.ok.has x.1 (.inl (C.free x hx e));refine N6 (OG (mE (g:=⟨target,iter,ifs,0⟩) (gs:=[]) (Q:=fun _ s'=>SP X pins D .next s') rfl hs C.nocell hfr C.kind C.names ?_) (fun _ s' hq=>Oa (Oa hq)) fun _ _ e=>e);refine thn (hit pins s σ H _ I h) fun v s1 h1=>thn h1 fun itv s2 h2=>?_;obtain⟨it,fp,tn,J,H2,e,I2,T,st2,f2,k2⟩:=h2;subst e;refine QI ?_ (by show 0<=sizeLine;decide);have hfree:H2 s2.heap.objs.size=none:=I2.hok.fresh (b_ _);obtain⟨W,⟨m0,w0⟩,turn⟩:=k2 _ hfree {s2 with heap:=s2.heap.push { cls:=.type "list",data:=.seq ([]:List N5).toArray} } (upd H2 s2.heap.objs.size (.lst [])) fp;have kp:∀b u,s2.heap.get? b=some u->(s2.heap.push { cls:=.type "list",data:=.seq ([]:List N5).toArray}).get? b=some u:=fun b u e=>Oe _ e;have I3:Inv X pins σ (upd H2 s2.heap.objs.size (.lst [])) {s2 with heap:=s2.heap.push { cls:=.type "list",data:=.seq ([]:List N5).toArray} }:=
  I2.laid (t':=s2.toks) kp (b_ _) ⟨E_ _,[],0,.nil,Oo _ rfl⟩
 have obj2:=T.obj 0 s2.heap st2;have fpne:∀b∈fp,b≠s2.heap.objs.size:=fun b hb=>by obtain⟨o,ho,_⟩:=obj2 b hb;exact w_ (Ol ho)
 have f3:∀b∈fp,lQ X pins (upd H2 s2.heap.objs.size (.lst [])) b:=fun b hb=>⟨by rw[aL (fpne b hb)];exact(f2 b hb).1,(f2 b hb).2⟩
 have st3:=T.keep 0 s2.heap _ st2 fun b hb o e=>kp b o e;have obj3:=T.obj 0 _ st3;intro h4 hn4 hk4;have st4:=T.keep 0 _ h4 st3 fun b hb o e=>hk4 b o e;have I4:=uG (N':=N') (fr:=fr) (fp:=fp) I3 C hc f3 (fun b hb=>let ⟨o,ho,_⟩:=obj3 b hb;⟨o,ho⟩) hn4 hk4;have stat:∀{H':Hp},(∀b∈fp,H' b=none)->∀b∈fp,lQ (aT X N' sc {s2 with heap:=s2.heap.push { cls:=.type "list",data:=.seq ([]:List N5).toArray} } (upd H2 s2.heap.objs.size (.lst [])) fp) [] H' b:=fun hn b hb=>
  ⟨hn b hb,(I4.ok.exf b hb).1,I4.ok.exfs b hb,.inl hb,(I4.ok.exf b hb).2,fun p hp=>(nomatch hp)⟩
 have loop:Qh (Oq X.prog X.w) X.A (.compLoop (.ListComp elt [⟨target,iter,ifs,0⟩] sc pos2) 0 (.ref it) (.ref s2.heap.objs.size) (L2.compEnv X.env sc (s2.heap.push { cls:=.type "list",data:=.seq ([]:List N5).toArray}).objs.size))
   (fun r s'=>match r with
    | .ok _=>Of (Oq X.prog X.w) X.A (QA (.Name x pos') X.env (.ref s2.heap.objs.size)) (fun _ s''=>∃m,s''.heap.Ns (s2.heap.push { cls:=.type "list",data:=.seq ([]:List N5).toArray}).objs.size m/\∀h',O1 (s2.heap.push { cls:=.type "list",data:=.seq ([]:List N5).toArray}).objs.size s''.heap h'->SP X pins D .next {s'' with heap:=h'}) X.xe s'
    | .error x=>False) {s2 with heap:=h4}:=by
  refine nO (fun n s'=>∃i σ' H',Inv (aT X N' sc {s2 with heap:=s2.heap.push { cls:=.type "list",data:=.seq ([]:List N5).toArray} } (upd H2 s2.heap.objs.size (.lst [])) fp) [] σ' H' s'/\tn i s'.heap/\(∀b∈fp,H' b=none)/\W i n σ' H') ?_ m0
   ⟨0,_,_,I4,st4,fun b hb=>(f3 b hb).1,w0⟩
  rintro n s5 ⟨j,σ5,H5,I5,st5,fr5,w5⟩;rcases turn j n σ5 H5 w5 with⟨stop,q⟩|⟨go,step⟩
  ·refine thn (T.done (aT X N' sc _ _ fp) rfl rfl rfl rfl j [] s5 σ5 H5 (fun _ _=>False) I5 (stat fr5) st5 stop) ?_;rintro r s6 ⟨hr,I6⟩;subst hr;obtain⟨m6,hn6,_⟩:=id I6.loc;have hL:H5 (s2.heap.push { cls:=.type "list",data:=.seq ([]:List N5).toArray}).objs.size=none:=I6.free;have I7:Inv X pins σ H5 s6:=I3.EA (s':=s6) (ch:=fp) I6.os I6.base I6.hok I6.bare (fun b hb=>by obtain⟨_,g1,g2,g3,g4,g5⟩:=f3 b hb;exact⟨g3,g1,g4,g5⟩)
   have Lne:(s2.heap.push { cls:=.type "list",data:=.seq ([]:List N5).toArray}).objs.size≠X.env.locals:=Lp I3.lt;have cne:∀y c,X.env.cells.lookup y=some c->c≠(s2.heap.push { cls:=.type "list",data:=.seq ([]:List N5).toArray}).objs.size:=fun y c e=>by obtain⟨v',z⟩:=I3.cell y c e;exact w_ z.lt
   refine Sx (rX (v:=.ref s2.heap.objs.size) I7 hNd hi hx rfl (fun s8 I8 ⟨a8,sb8,ha8⟩=>?_) (.inl hf));refine⟨m6,hn6.sameBut sb8 (fun z=>ha8.elim (fun w'=>Lne (z.trans w')) fun w'=>cne _ _ w' z.symm),fun h' hs'=>⟨_,H5,?_,q⟩⟩;refine I8.turned (it:=(s2.heap.push { cls:=.type "list",data:=.seq ([]:List N5).toArray}).objs.size) (t':=s8.toks) (fun b o hb e=>(hs'.2 b hb).trans e) hL Lne (.inr I3.sz) cne fun p hp z=>?_;have lt:=Ol (I3.pin p hp).1;rw[z]at lt;exact Kg _ lt
  refine thn (T.item (aT X N' sc _ _ fp) rfl rfl rfl rfl j [] s5 σ5 H5 (fun _ _=>False) I5 (stat fr5) st5 go) ?_;rintro r s6 ⟨u,hr,h6⟩;subst hr;refine thn h6 ?_;rintro _ s7 ⟨y,H7,I7,r7,y7,st7,fr7⟩;have I7':=I7.pinned (stat fr7) (T.obj _ _ st7);have again:∀{σ8:St}{H8:Hp}{s8:N9},Inv (aT X N' sc {s2 with heap:=s2.heap.push { cls:=.type "list",data:=.seq ([]:List N5).toArray} } (upd H2 s2.heap.objs.size (.lst [])) fp) ([]++nv fp s7.heap) σ8 H8 s8->(∃m',m'<n/\W (j+1) m' σ8 H8)->
    ∃m,m<n/\∃i σ' H',Inv (aT X N' sc {s2 with heap:=s2.heap.push { cls:=.type "list",data:=.seq ([]:List N5).toArray} } (upd H2 s2.heap.objs.size (.lst [])) fp) [] σ' H' s8/\tn i s8.heap/\(∀b∈fp,H' b=none)/\W i m σ' H':=fun{σ8 H8 s8} I8 ⟨m',hm,w8⟩=>by
   refine⟨m',hm,j+1,σ8,H8,I8.jj,T.keep _ _ _ st7 fun b hb o e=>(I8.pin (b,o) (q_ _ (q_ _ (cT hb e)))).1,fun b hb=>?_,w8⟩;obtain⟨o,e,d⟩:=T.obj _ _ st7 b hb;exact(I8.pin (b,o) (q_ _ (q_ _ (cT hb e)))).2.1
  refine thn (hg _ _ fp _ s7 σ5 H7 y u _ I7' r7 (step y H7 y7)) ?_;rintro _ s8 ⟨σ8,H8,I8,q8⟩;refine thn (ht _ _ fp _ s8 σ8 H8 _ I8 q8) ?_;rintro ok s9 ⟨H9,I9,q9⟩;cases ok with
  |false=>exact again I9 q9
  |true=>
   refine thn (he _ _ fp _ s9 σ8 H9 _ I9 q9) ?_;rintro y s10 ⟨v,H10,I10,r10,ys,hys,hl,q10⟩;refine thn (mV _ s10 σ8 H10 (.ref s2.heap.objs.size) [v] (.ref s2.heap.objs.size) [y] (fun _ H'=>∃m',m'<n/\W (j+1) m' σ8 H') I10 rfl (.cons r10 .nil) ⟨_,ys,v,rfl,rfl,hys,hl,q10⟩) ?_;rintro z s11 ⟨_,H11,I11,_,q11⟩;exact again I11 q11
 refine RQ loop ?_;exact T.self X.A 0 _ _ _ st4 loop
section
variable{X:Cx}
theorem MtM.imp {id:String}{r r':V->List V->Hp->VK->Prop}(h:MtM X id r)(k:∀x xs H Q,r' x xs H Q->r x xs H Q):MtM X id r':=fun pins s σ H x xs v us Q I r1 r2 q=>h pins s σ H x xs v us Q I r1 r2 (k _ _ _ _ q)
theorem wm:MtM X "list.extend" (fun x vs H Q=>∃l b xs zs,x=.ref l/\vs=[.ref b]/\H l=some (.lst xs)/\H b=some (.lst zs)/\xs.length+zs.length<=sizeLine/\∀H',Put H l (.lst (xs++zs)) H'->Q .non H'):=yR.imp (by rintro x vs H Q ⟨l,b,xs,zs,e1,e2,h1,h2,hz,q⟩;exact⟨l,b,xs,zs,e1,e2,h1,h2,hz,q _ Put.up⟩)
theorem vY:MtM X "list.append" (fun x vs H Q=>∃l xs y,x=.ref l/\vs=[y]/\H l=some (.lst xs)/\xs.length<sizeLine/\∀H',Put H l (.lst (xs++[y])) H'->Q .non H'):=mV.imp (by rintro x vs H Q ⟨l,xs,y,e1,e2,h1,hz,q⟩;exact⟨l,xs,y,e1,e2,h1,hz,q _ Put.up⟩)
end
end L2
namespace ZG
open PySem
open Sem (wp)
variable {Q:Option N5->N9->Prop}{d:N8}{ep:Nat}{es:Array PX}{o:Obj}
section
variable{prog:Oj}{w:Ot}{A:OB}{E:N5->N9->Prop}{s:N9}
theorem EL{Q:N5->N9->Prop}(hd:(d == OY)=false)(ho:s.heap.get? d=some o)(hc:o.ExactDict)(hdat:o.data=.dict es ep)
  (hQ:Q (.ref s.heap.objs.size) {s with heap:=s.heap.push { cls:=.type "dict_keyiterator",data:=.fields #[.ref d,.int 0 0,.int es.size 0,.int ep 0] } }):Of (Oq prog w) A (Ru (.ref d)) Q E s:=by
 have hT:s.TypeIs (.ref d) "dict":=⟨o,ho,hc.1⟩;refine wpAny_pyIter_slot hT S3 (O6 S3 hT F.entry_dict_iter ?_ (F.args_dict_iter_1 _));unfold Qj.«dict.__iter__» Uc;refine N6 (N6 (wpAny_notOrdered_dict hT (show Of _ _ (pure (OC d)) _ _ s from Oa (show Of _ _ (RX d >>= _) _ _ s from ?_))));unfold RX;rw[if_neg (by rw[hd];exact C_)];exact N6 (Oa (N6 (Qx ho hdat (N6 (RI ho hdat (N6 (PQ (Oa ⟨_,rfl,"dict_keyiterator",_,⟨_,Oo _ rfl,rfl⟩,O'.lookup,by simpa[QB]using hQ⟩))))))))
theorem Ef{it:N8}{i:Nat}{e:PX}(hit:s.heap.IsKeyIter it d i es.size ep)(hod:s.heap.get? d=some o)(hdd:o.data=.dict es ep)(hx:es[i]?=some e)
  (hQ:∀h',h'.IsKeyIter it d (i+1) es.size ep->O1 it s.heap h'->Q (some e.key) {s with heap:=h'}):Of (Oq prog w) A (Qe (.ref it)) Q E s:=by
 obtain⟨oi,ho,hc,hd⟩:=id hit;unfold Qe;refine N6 (PN (O3 (name:=P0 "__next__") hit.typeIs O' (O6 O' hit.typeIs QW ?_ (QR _))));refine N6 (Oa (N6 (N6 ?_)));refine N6 (Po hit.typeIs (Oa (N6 (Tz ho hd ?_))));simp only[show Q3 "dict_keyiterator"=false by decide,Jv,if_false];show Of _ _ (if(OC d == OL)=true then _ else _) _ _ s;rw[if_neg (show ¬(OC d == OL)=true from fun z=>C_ z)];refine N6 (Oa (N6 (Qx hod hdd ?_)));rw[if_neg (show ¬_ by simp)];refine N6 (Oa (N6 (RI hod hdd ?_)));rw[if_neg (show ¬_ by simp)];refine Oa ?_;simp only[show ¬(i:Int)<0 by lia,if_false,LW,hx];refine N6 (N6 (Po hit.typeIs (Oa (N6 (RY hit.typeIs ?_)))));show Of _ _ (setField (.ref it) 1 (QB ((i:Int)+1)) >>= _) _ _ s;refine N6 (Q1 ho hd (by simp) ?_);have hit':(s.heap.update it (T7 (·.setIfInBounds 1 (QB ((i:Int)+1))))).IsKeyIter it d (i+1) es.size ep:=
  ⟨_,Qc _ ho (RW (Qq hd _)),(Sy ..).trans hc,by rw[Qq hd];simp[QB]⟩
 exact N6 (OH (N6 (RY (s:={s with heap:=s.heap.update it (T7 (·.setIfInBounds 1 (QB ((i:Int)+1)))) }) hit'.typeIs (show Of _ _ (pure e.key) _ _ _ from Oa (Oa ⟨_,rfl,Oa (hQ _ hit' (Pp ..))⟩)))))
theorem Hl{it:N8}{i:Nat}(hh:A.handled=none)(hit:s.heap.IsKeyIter it d i es.size ep)(hod:s.heap.get? d=some o)(hdd:o.data=.dict es ep)(hx:es[i]?=none)
  (hQ:∀h',Q6 it s.heap h'->Q none {s with heap:=h'}):Of (Oq prog w) A (Qe (.ref it)) Q E s:=by
 obtain⟨oi,ho,hc,hd⟩:=id hit;unfold Qe;refine N6 (PN (O3 (name:=P0 "__next__") hit.typeIs O' (O6 O' hit.typeIs QW ?_ (QR _))));refine N6 (Oa (N6 (N6 ?_)));refine N6 (Po hit.typeIs (Oa (N6 (Tz ho hd ?_))));simp only[show Q3 "dict_keyiterator"=false by decide,Jv,if_false];show Of _ _ (if(OC d == OL)=true then _ else _) _ _ s;rw[if_neg (show ¬(OC d == OL)=true from fun z=>C_ z)];refine N6 (Oa (N6 (Qx hod hdd ?_)));rw[if_neg (show ¬_ by simp)];refine N6 (Oa (N6 (RI hod hdd ?_)));rw[if_neg (show ¬_ by simp)];refine Oa ?_;simp only[show ¬(i:Int)<0 by lia,if_false,LW,hx];refine N6 (N6 (Po hit.typeIs (Oa ?_)));show Of _ _ (setField (.ref it) 0 .none >>= _) _ _ s;refine N6 (Q1 ho hd (by simp) (show Of _ _ (Ui (.type "StopIteration") [] >>= _) _ _ _ from N6 ?_));simp only[Ui,newTuple];refine N6 (PQ (N6 (m:=Q2 _ _) (Q7 (a:=OL) (by first|rfl|(simp only[Q2];rfl)) (PQ ?_ (by size_fits)))) (by size_fits));simp only[raiseNew];refine N6 (T4 ?_);rw[show A.in1.handled=none from hh];refine N6 (Oa (UG ?_));refine N6 (SU (T:="StopIteration") (b:=true) (by exact⟨_,Oo _ rfl,rfl⟩) Tv (Oa ?_));exact hQ _ (((Pp ..).extBut.push _).push _)
end
end ZG
namespace L2
open PySem PySem.Spec PyProof.Rows
def kI(ns:List Int):List Key:=ns.map Rq
theorem Gx(ns:List Int):(kI ns).map kV=ns.map V.int:=by
 unfold kI;rw[F_]
 rfl
theorem EO{ns ms:List Int}(h:kI ns=kI ms):ns=ms:=(List.map_inj_right fun _ _ z=>Ux z).mp h
theorem oS{α β:Type}{F:α->β->Prop}:∀{l:List α}{m:List β}{i:Nat}{b:β},P6 F l m->m[i]?=some b->∃a,l[i]?=some a/\F a b
 | _,_,_,_,.nil,e=>by simp at e
 | _,_,0,_,.cons h t,e=>by simp only[K',Mv]at e;subst e;exact⟨_,rfl,h⟩
 | _,_,i+1,_,.cons h t,e=>by simp only[Kw]at e ⊢;exact oS t e
theorem Dq{X:Cx}{pins:List (N8×Obj)}{σ:St}{H:Hp}{s:N9}{o:Obj}{d:N8}{kvs:List (List Key×V)}(I:Inv X pins σ H s)(e:H d=some (.frz o (.dT kvs))) :
  s.heap.get? d=some o/\(d == OY)=false/\∃xs es ep,KT H kvs xs/\o.ExactDict/\o.data=.dict es ep/\es.toList=xs.map (R4 (Qn (bg X.prog X.w)))/\es.size=kvs.length:=by
 obtain⟨h0,h1,h2,xs,kt,o',es,ep,g1,g2,g3,g4,g5⟩:=(show ba X.prog X.w H s.heap d (.frz o (.dT kvs))from I.hok d _ e);rw[h0]at g1;cases g1;refine⟨h0,h2,xs,es,ep,kt,g2,g3,g4,?_⟩;rw[<-h_,g4,a_];exact(Pf kt).symm
section
variable{X:Cx}
theorem zM(hc:X.calm=true):bp X (.builtin "min") (fun xs H Q=>∃a ns,xs=[.ref a]/\SqT X.K H a (ns.map V.int)/\ns≠[]/\∀r,iS ns r->Q (.int r) H):=by
 intro pins s σ H xs us Q I r h;obtain⟨a,ns,rfl,hq,hne,q⟩:=h;obtain⟨u,rfl,ru⟩:=vals1 r;cases ru;obtain⟨its,rv,p,z⟩:=I.tuple hq;obtain⟨ps,e1,e2⟩:=ck rv;have ei:OM ps.toArray=its.toArray:=by simp[OM,e1]
 have hT:s.heap.IsTuple a (OM ps.toArray):=by rw[ei];exact p
 have hlen:ps.length=ns.length:=by rw[<-e2];simp
 have hpos:0<ns.length:=JU fun z=>hne (Kv z);have hlt:a<s.heap.objs.size:=by obtain⟨o,e,_⟩:=p;exact Ol e
 have hh:X.A.in1.handled=none:=I.ok.hd hc;have W1:=UH (prog:=X.prog) (w:=X.w) hh s.heap.objs.size a (w_ hlt) (OM ps.toArray);refine call_min_walk (Pj hT ⟨s.heap.objs.size,_,_,_,_,_,_,rfl,W1,?_,fun b hb=>?_,?_,CmpOf.ints_lt (P5 ps.toArray) (fun i v hv=>QE hv),fun v h' tk hv hk=>?_⟩)
 ·refine⟨⟨_,Oo _ rfl,rfl,rfl⟩,?_⟩;obtain⟨o,e,r⟩:=hT;exact⟨o,Oe _ e,r⟩
 ·show b<(s.heap.push _).objs.size;have e:(s.heap.push { cls:=.type "tuple_iterator",data:=.fields #[.ref a,.int 0 0] }).objs.size=s.heap.objs.size+1:=by simp[Q_]
  rcases o_.mp hb with hb|hb
  ·rw[hb];simp[Q_]
  rw[A'.mp hb];exact s_ hlt (by simp[Q_])
 ·simp[OM];lia
 obtain⟨tv,rfl⟩:=QE hv;obtain⟨b1,b2⟩:=argBest_lt (P5 ps.toArray) ((OM ps.toArray).size-1);have es:(OM ps.toArray).size=ns.length:=by simp[OM,hlen]
 have hi:Tx (fun i j=>decide (P5 ps.toArray i<P5 ps.toArray j)) ((OM ps.toArray).size-1)<ns.length:=by rw[es]at b1 ⊢;lia
 obtain⟨f0,f1,f2,f3,f4,f5⟩:=I.xo (b:=s.heap.objs.size) (b_ _) (I.hok.fresh (b_ _));have kk:∀b o,s.heap.get? b=some o->h'.get? b=some o:=fun b o e=>hk b o (fun z=>w_ (Ol e) (A'.mp z)) (Oe _ e);refine⟨.int _,H,I.kept (t':=tk) kk,⟨tv,rfl⟩,q _ ⟨?_,fun x hx=>?_⟩⟩
 ·rw[cL e2 hi];exact Ki hi
 obtain⟨j,hj,rfl⟩:=Ka.mp hx;have:=b2 j (by rw[es];lia);rw[cL e2 hj]at this;exact this
theorem yZ(hc:X.calm=true):bp X (.builtin "max") (fun xs H Q=>∃a ns,xs=[.ref a]/\SqT X.K H a (ns.map V.int)/\ns≠[]/\∀r,iQ ns r->Q (.int r) H):=by
 intro pins s σ H xs us Q I r h;obtain⟨a,ns,rfl,hq,hne,q⟩:=h;obtain⟨u,rfl,ru⟩:=vals1 r;cases ru;obtain⟨its,rv,p,z⟩:=I.tuple hq;obtain⟨ps,e1,e2⟩:=ck rv;have ei:OM ps.toArray=its.toArray:=by simp[OM,e1]
 have hT:s.heap.IsTuple a (OM ps.toArray):=by rw[ei];exact p
 have hlen:ps.length=ns.length:=by rw[<-e2];simp
 have hpos:0<ns.length:=JU fun z=>hne (Kv z);have hlt:a<s.heap.objs.size:=by obtain⟨o,e,_⟩:=p;exact Ol e
 have hh:X.A.in1.handled=none:=I.ok.hd hc;have W1:=UH (prog:=X.prog) (w:=X.w) hh s.heap.objs.size a (w_ hlt) (OM ps.toArray);refine call_max_walk (Pj hT ⟨s.heap.objs.size,_,_,_,_,_,_,rfl,W1,?_,fun b hb=>?_,?_,CmpOf.ints_gt (P5 ps.toArray) (fun i v hv=>QE hv),fun v h' tk hv hk=>?_⟩)
 ·refine⟨⟨_,Oo _ rfl,rfl,rfl⟩,?_⟩;obtain⟨o,e,r⟩:=hT;exact⟨o,Oe _ e,r⟩
 ·show b<(s.heap.push _).objs.size;have e:(s.heap.push { cls:=.type "tuple_iterator",data:=.fields #[.ref a,.int 0 0] }).objs.size=s.heap.objs.size+1:=by simp[Q_]
  rcases o_.mp hb with hb|hb
  ·rw[hb];simp[Q_]
  rw[A'.mp hb];exact s_ hlt (by simp[Q_])
 ·simp[OM];lia
 obtain⟨tv,rfl⟩:=QE hv;obtain⟨b1,b2⟩:=argBest_gt (P5 ps.toArray) ((OM ps.toArray).size-1);have es:(OM ps.toArray).size=ns.length:=by simp[OM,hlen]
 have hi:Tx (fun i j=>decide (P5 ps.toArray i > P5 ps.toArray j)) ((OM ps.toArray).size-1)<ns.length:=by rw[es]at b1 ⊢;lia
 obtain⟨f0,f1,f2,f3,f4,f5⟩:=I.xo (b:=s.heap.objs.size) (b_ _) (I.hok.fresh (b_ _));have kk:∀b o,s.heap.get? b=some o->h'.get? b=some o:=fun b o e=>hk b o (fun z=>w_ (Ol e) (A'.mp z)) (Oe _ e);refine⟨.int _,H,I.kept (t':=tk) kk,⟨tv,rfl⟩,q _ ⟨?_,fun x hx=>?_⟩⟩
 ·rw[cL e2 hi];exact Ki hi
 obtain⟨j,hj,rfl⟩:=Ka.mp hx;have:=b2 j (by rw[es];lia);rw[cL e2 hj]at this;exact this
end
end L2
namespace ZS
open PySem PyProof.Rows
noncomputable def gal:Bool->Keyed->Array Keyed->Nat->Nat->Nat->StateT SortSt Sem (Option Nat):=sortPriv% PySem.Builtin.gallop
noncomputable def mLo:Array Keyed->Array Keyed->StateT SortSt Sem (Array Keyed):=sortPriv% PySem.Builtin.mergeLo
noncomputable def mHi:Array Keyed->Array Keyed->StateT SortSt Sem (Array Keyed):=sortPriv% PySem.Builtin.mergeHi
noncomputable def bey(lf:Bool)(ky:N_)(ar:Array N_)(b0 i:Nat):StateT Oh Sem (Option Bool):=do
 let xx <-OR ar (b0+i)
 if lf then lt' xx ky else return (<-lt' ky xx).map (!·)
noncomputable def jI(lf:Bool)(ky:N_)(ar:Array N_)(b0 n l0 h0:Nat):StateT Oh Sem (Option Nat):=do
 let mut l:=l0
 let mut h:=h0
 for _ in [0:n]do
  if l>=h then break
  let m:=l+(h-l)/2
  let some mo <-bey lf ky ar b0 m | return none
  if mo then l:=m+1 else h:=m
 return some h
noncomputable def EC(lf:Bool)(ky:N_)(ar:Array N_)(b0 n h0:Nat):StateT Oh Sem (Option Nat):=do
 let mut la:=0
 let mut of:=1
 for _ in [0:n]do
  if of>=n-h0 then break
  let some mo <-bey lf ky ar b0 (h0+of) | return none
  if !mo then break
  la:=of
  of:=2*of+1
 jI lf ky ar b0 n (h0+la+1) (h0+min of (n-h0))
noncomputable def xW(lf:Bool)(ky:N_)(ar:Array N_)(b0 n h0:Nat):StateT Oh Sem (Option Nat):=do
 let mut la:=0
 let mut of:=1
 for _ in [0:n]do
  if of>=h0+1 then break
  let some fo <-bey lf ky ar b0 (h0-of) | return none
  if fo then break
  la:=of
  of:=2*of+1
 jI lf ky ar b0 n (h0+1-min of (h0+1)) (h0-la)
theorem G0(lf:Bool)(ky:N_)(ar:Array N_)(b0 n h0:Nat):gal lf ky ar b0 n h0=(do
 let some rt <-bey lf ky ar b0 h0 | return none
 if rt then EC lf ky ar b0 n h0 else xW lf ky ar b0 n h0):=rfl
variable {Q:Option Nat->Oh->Prop}{ar:Array N_}{b0 n:Nat}{ky:N_}{lf:Bool}{st:Oh}
section
variable{M:P_}{A:OB}{E:N5->N9->Prop}{s:N9}
theorem EX{h0:Nat}{bd:Nat->Bool}(hh:h0<n)(hb:∀(i:Nat) (R:Option Bool->Oh->Prop),i<n->R (some (bd i)) st->wpS M A E s (bey lf ky ar b0 i) R st)
  (mono:∀i j,i<=j->j<n->bd j=true->bd i=true) (h:∀k,k<=n->(∀i,i<k->bd i=true)->(∀i,k<=i->i<n->bd i=false)->Q (some k) st):wpS M A E s (gal lf ky ar b0 n h0) Q st:=by
 rw[G0];have last:∀(l hi:Nat),l<=hi->hi<=n->(∀i,i<l->bd i=true)->(∀i,hi<=i->i<n->bd i=false)->wpS M A E s (jI lf ky ar b0 n l hi) Q st:=fun l hi h1 h2 h3 h4=>by
  unfold jI;dsimp only;refine Og (OP (I:=fun x c st'=>st'=st/\∃l hi,c=(none,l,hi)/\l<=hi/\hi<=n/\hi-l<=n-x/\(∀i,i<l->bd i=true)/\(∀i,hi<=i->i<n->bd i=false)) ?_ ?_ ⟨rfl,l,hi,rfl,h1,h2,by lia,h3,h4⟩)
  ·rintro x c st' _ hx ⟨rfl,l,hi,rfl,g1,g2,g3,g4,g5⟩;dsimp only;by_cases z:l>=hi
   ·rw[if_pos z];have e:l=hi:=by lia
    subst e;exact Om (Om (h l g2 g4 g5))
   rw[if_neg z];have m1:l<=l+(hi-l)/2:=KC ..;have m2:l+(hi-l)/2<hi:=by omega
   generalize l+(hi-l)/2=m at m1 m2 ⊢;have m3:=s_ m2 g2;refine Og (hb _ _ m3 ?_);dsimp only;cases e:bd m with
   |true=>
    simp only[if_true];exact Om ⟨rfl,_,_,rfl,m2,g2,by lia,fun i hi'=>mono i _ (LX hi') m3 e,g5⟩
   |false=>
    simp only[Jv,if_false];refine Om ⟨rfl,_,_,rfl,m1,Jy m3,by lia,g4,fun i h1 h2=>?_⟩;cases e2:bd i with
    |false=>rfl
    |true=>rw[mono _ i h1 h2 e2]at e;cases e
  rintro c st' ⟨rfl,l,hi,rfl,g1,g2,g3,g4,g5⟩;have e:l=hi:=by lia
  subst e;exact Om (h l g2 g4 g5)
 have up:∀la of,la<of->h0+la<n->bd (h0+la)=true->(n-h0<=of\/bd (h0+of)=false)->wpS M A E s (jI lf ky ar b0 n (h0+la+1) (h0+min of (n-h0))) Q st:=fun la of g1 g3 g4 g5=>by
  have k1:h0+min of (n-h0)<=n:=by lia
  refine last _ _ (by lia) k1 (fun i hi=>mono i _ (LX hi) g3 g4) (fun i h1 h2=>?_);rcases g5 with g5|g5
  ·rw[Nr g5]at h1;lia
  cases e2:bd i with
  |false=>rfl
  |true=>rw[mono (h0+of) i (by lia) h2 e2]at g5;cases g5
 have dwn:∀la of,la<of->la<=h0->bd (h0-la)=false->(h0+1<=of\/of<=h0/\bd (h0-of)=true)->wpS M A E s (jI lf ky ar b0 n (h0+1-min of (h0+1)) (h0-la)) Q st:=fun la of g1 g3 g4 g5=>by
  refine last _ _ (by omega) (m_ (JQ ..) (Jy hh)) (fun i hi=>?_) (fun i h1 h2=>?_)
  ·rcases g5 with g5|⟨g5,g6⟩
   ·rw[Nr g5,L_]at hi;exact absurd hi (LB _)
   rw[Ny (LY g5)]at hi;exact mono i _ (by lia) (JK (JQ ..) hh) g6
  cases e2:bd i with
  |false=>rfl
  |true=>rw[mono (h0-la) i h1 h2 e2]at g4;cases g4
 refine Og (hb _ _ hh ?_);dsimp only;cases e0:bd h0 with
 |true=>
  simp only[if_true];unfold EC;dsimp only;refine Og (OP (I:=fun x c st'=>st'=st/\∃la of,c=(none,la,of)/\la<of/\x+1<=of/\h0+la<n/\bd (h0+la)=true) ?_ ?_ ⟨rfl,0,1,rfl,Lh,b_ _,hh,e0⟩)
  ·rintro x c st' _ hx ⟨rfl,la,of,rfl,g1,g2,g3,g4⟩;dsimp only;by_cases z:of>=n-h0
   ·rw[if_pos z];exact Om (up la of g1 g3 g4 (.inl z))
   rw[if_neg z];refine Og (hb _ _ (by lia) ?_);dsimp only;cases e:bd (h0+of)with
   |false=>
    simp only[LQ,if_true];exact Om (up la of g1 g3 g4 (.inr e))
   |true=>
    simp only[Mr,Jv,if_false];exact Om ⟨rfl,_,_,rfl,by lia,by lia,by lia,e⟩
  ·rintro c st' ⟨rfl,la,of,rfl,g1,g2,g3,g4⟩;exact up la of g1 g3 g4 (.inl (by lia))
 |false=>
  simp only[Jv,if_false];unfold xW;dsimp only;refine Og (OP (I:=fun x c st'=>st'=st/\∃la of,c=(none,la,of)/\la<of/\x+1<=of/\la<=h0/\bd (h0-la)=false) ?_ ?_ ⟨rfl,0,1,rfl,Lh,b_ _,E_ _,e0⟩)
  ·rintro x c st' _ hx ⟨rfl,la,of,rfl,g1,g2,g3,g4⟩;dsimp only;by_cases z:of>=h0+1
   ·rw[if_pos z];exact Om (dwn la of g1 g3 g4 (.inl z))
   rw[if_neg z];have z:=Nat.lt_succ_iff.mp (MB z);refine Og (hb _ _ (JK (JQ ..) hh) ?_);dsimp only;cases e:bd (h0-of)with
   |true=>
    simp only[if_true];exact Om (dwn la of g1 g3 g4 (.inr ⟨z,e⟩))
   |false=>
    simp only[Jv,if_false];exact Om ⟨rfl,_,_,rfl,by lia,by lia,z,e⟩
  rintro c st' ⟨rfl,la,of,rfl,g1,g2,g3,g4⟩;exact dwn la of g1 g3 g4 (.inl (by lia))
end
def setG(g:Nat):StateT Oh Sem Unit:=modify fun s=>PR (kindOf s) (Ob s) (Ow s) g (OU s)
def dn(a b out:Array N_)(i j:Nat):Array N_:=out++a.extract i a.size++b.extract j b.size
def jQ(a b out:Array N_)(i j:Nat):Array N_:=out++b.extract j b.size++a.extract i a.size
theorem G3(a b:Array N_):mLo a b=(do
 rule "list.sort.merge-lo"
 let mut out:Array N_:=#[<-OR b 0]
 let mut i:=0
 let mut j:=1
 if j == b.size then return dn a b out i j
 if i+1 == a.size then return jQ a b out i j
 let mut mg:=Rx (<-get)
 for _ in [0:a.size+b.size]do
  let mut ca:=0
  let mut cb:=0
  for _ in [0:a.size+b.size]do
   let some bw <-lt' (<-OR b j) (<-OR a i) | return dn a b out i j
   if bw then
    out:=out.push (<-OR b j);j:=j+1;cb:=cb+1;ca:=0
    if j == b.size then return dn a b out i j
    if cb>=mg then break
   else
    out:=out.push (<-OR a i);i:=i+1;ca:=ca+1;cb:=0
    if i+1 == a.size then return jQ a b out i j
    if ca>=mg then break
  rule "list.sort.gallop"
  mg:=mg+1
  for _ in [0:a.size+b.size]do
   if mg > 1 then mg:=mg-1
   setG mg
   let some k <-gal false (<-OR b j) a i (a.size-i) 0 | return dn a b out i j
   ca:=k
   if k > 0 then
    out:=out++a.extract i (i+k);i:=i+k
    if i+1 == a.size then return jQ a b out i j
    if i == a.size then return dn a b out i j
   out:=out.push (<-OR b j);j:=j+1
   if j == b.size then return dn a b out i j
   let some k <-gal true (<-OR a i) b j (b.size-j) 0 | return dn a b out i j
   cb:=k
   if k > 0 then
    out:=out++b.extract j (j+k);j:=j+k
    if j == b.size then return dn a b out i j
   out:=out.push (<-OR a i);i:=i+1
   if i+1 == a.size then return jQ a b out i j
   if ca<7&&cb<7 then break
  mg:=mg+1
  setG mg
 unsupported "internal:list.sort.merge-bound"):=rfl
abbrev GS:=Option (Array N_)×Array N_×Nat×Nat×Nat×Nat×Nat
abbrev FS:=Option (Array N_)×Array N_×Nat×Nat×Nat×Nat
abbrev OS:=Option (Array N_)×Array N_×Nat×Nat×Nat
noncomputable def g3(a b out:Array N_)(i j mg ca cb:Nat):StateT Oh Sem (ForInStep GS):=do
 let y <-OR a i
 if(i+1+1 == a.size)=true then pure (Oi (some (jQ a b (out.push y) (i+1) j),out.push y,i+1,j,mg,ca,cb))
 else if(decide (ca<7)&&decide (cb<7))=true then pure (Oi (none,out.push y,i+1,j,mg,ca,cb))
 else pure (Ox (none,out.push y,i+1,j,mg,ca,cb))
noncomputable def g2(a b out:Array N_)(i j mg ca cb:Nat):StateT Oh Sem (ForInStep GS):=do
 let y <-OR b j
 if(j+1 == b.size)=true then pure (Oi (some (dn a b (out.push y) i (j+1)),out.push y,i,j+1,mg,ca,cb))
 else do
  let z <-OR a i
  let some k <-gal true z b (j+1) (b.size-(j+1)) 0 | pure (Oi (some (dn a b (out.push y) i (j+1)),out.push y,i,j+1,mg,ca,cb))
  if k > 0 then
    if(j+1+k == b.size)=true then pure (Oi (some (dn a b (out.push y++b.extract (j+1) (j+1+k)) i (j+1+k)),out.push y++b.extract (j+1) (j+1+k),i,j+1+k,mg,ca,k))
    else g3 a b (out.push y++b.extract (j+1) (j+1+k)) i (j+1+k) mg ca k
  else g3 a b (out.push y) i (j+1) mg ca k
noncomputable def g1(a b out:Array N_)(i j mg ca cb:Nat):StateT Oh Sem (ForInStep GS):=do
 setG mg
 let y <-OR b j
 let some k <-gal false y a i (a.size-i) 0 | pure (Oi (some (dn a b out i j),out,i,j,mg,ca,cb))
 if k > 0 then
   if(i+k+1 == a.size)=true then pure (Oi (some (jQ a b (out++a.extract i (i+k)) (i+k) j),out++a.extract i (i+k),i+k,j,mg,k,cb))
   else if(i+k == a.size)=true then pure (Oi (some (dn a b (out++a.extract i (i+k)) (i+k) j),out++a.extract i (i+k),i+k,j,mg,k,cb))
   else g2 a b (out++a.extract i (i+k)) (i+k) j mg k cb
 else g2 a b out i j mg k cb
noncomputable def f1(a b out:Array N_)(i j ca cb mg:Nat):StateT Oh Sem (ForInStep FS):=do
 let y <-OR b j
 let z <-OR a i
 let some bw <-lt' y z | pure (Oi (some (dn a b out i j),out,i,j,ca,cb))
 if bw=true then do
   let y <-OR b j
   if(j+1 == b.size)=true then pure (Oi (some (dn a b (out.push y) i (j+1)),out.push y,i,j+1,0,cb+1))
   else if cb+1>=mg then pure (Oi (none,out.push y,i,j+1,0,cb+1))else pure (Ox (none,out.push y,i,j+1,0,cb+1))
 else do
   let z <-OR a i
   if(i+1+1 == a.size)=true then pure (Oi (some (jQ a b (out.push z) (i+1) j),out.push z,i+1,j,ca+1,0))
   else if ca+1>=mg then pure (Oi (none,out.push z,i+1,j,ca+1,0))else pure (Ox (none,out.push z,i+1,j,ca+1,0))
noncomputable def oLo(a b:Array N_)(c:OS):StateT Oh Sem (ForInStep OS):=do
 let r <-forIn [0:a.size+b.size] ((none,c.2.1,c.2.2.1,c.2.2.2.1,0,0):FS) fun _ d=>f1 a b d.2.1 d.2.2.1 d.2.2.2.1 d.2.2.2.2.1 d.2.2.2.2.2 c.2.2.2.2
 match r.1 with
 |some q=>pure (Oi (some q,r.2.1,r.2.2.1,r.2.2.2.1,c.2.2.2.2))
 |none=>do
  liftM (rule "list.sort.gallop")
  let e <-forIn [0:a.size+b.size] ((none,r.2.1,r.2.2.1,r.2.2.2.1,c.2.2.2.2+1,r.2.2.2.2.1,r.2.2.2.2.2):GS) fun _ d=>
   if d.2.2.2.2.1 > 1 then g1 a b d.2.1 d.2.2.1 d.2.2.2.1 (d.2.2.2.2.1-1) d.2.2.2.2.2.1 d.2.2.2.2.2.2 else g1 a b d.2.1 d.2.2.1 d.2.2.2.1 d.2.2.2.2.1 d.2.2.2.2.2.1 d.2.2.2.2.2.2
  match e.1 with
  |some q=>pure (Oi (some q,e.2.1,e.2.2.1,e.2.2.2.1,e.2.2.2.2.1))
  |none=>do
   setG (e.2.2.2.2.1+1)
   pure (Ox (none,e.2.1,e.2.2.1,e.2.2.2.1,e.2.2.2.2.1+1))
set_option maxHeartbeats 2000000 in
theorem Cy(a b:Array N_):mLo a b=(do
  liftM (rule "list.sort.merge-lo")
  let y <-OR b 0
  if(1 == b.size)=true then pure (dn a b #[y] 0 1)
  else if(0+1 == a.size)=true then pure (jQ a b #[y] 0 1)
  else do
   let st <-get
   let r <-forIn [0:a.size+b.size] ((none,#[y],0,1,Rx st):OS) fun _ c=>oLo a b c
   match r.1 with
   |some q=>pure q
   |none=>liftM (unsupported "internal:list.sort.merge-bound":Sem (Array N_))):=by
 rw[G3];unfold oLo;refine congrArg (bind _) (funext fun _=>?_);refine congrArg (bind _) (funext fun y=>?_);refine ite_congr rfl (fun _=>rfl) (fun _=>?_);refine ite_congr rfl (fun _=>rfl) (fun _=>?_);refine congrArg (bind _) (funext fun st=>?_);refine congr (congrArg bind (congrArg (forIn _ _) (funext fun _=>funext fun c=>?_))) ?_
 ·refine congr (congrArg bind (congrArg (forIn _ _) (funext fun _=>funext fun d=>?_))) ?_
  ·unfold f1
   rfl
  funext r;obtain⟨r1,r2⟩:=r;cases r1 with
  |some q=>rfl
  |none=>
   refine congrArg (bind _) (funext fun _=>?_);refine congr (congrArg bind (congrArg (forIn _ _) (funext fun _=>funext fun d=>?_))) ?_
   ·
    unfold g1;refine ite_congr rfl (fun _=>?_) (fun _=>?_)
    all_goals
     refine congrArg (bind _) (funext fun _=>?_);refine congrArg (bind _) (funext fun y=>?_);refine congrArg (bind _) (funext fun r=>?_);cases r with
     |none=>rfl
     |some k=>
      refine ite_congr rfl (fun _=>?_) (fun _=>?_)
      ·refine ite_congr rfl (fun _=>rfl) (fun _=>?_);refine ite_congr rfl (fun _=>rfl) (fun _=>?_);unfold g2
       rfl
      unfold g2
      rfl
   funext e;obtain⟨e1,e2⟩:=e;cases e1 <;> rfl
 funext e;obtain⟨e1,e2⟩:=e;cases e1 <;> rfl
noncomputable def cW(M:P_)(A:OB)(E:N5->N9->Prop)(s:N9)(kd:Pa)(rk:N_->Nat)(S:N_->Prop):Prop:=
 ∀(x y:N_) (st:Oh) (Q:Option Bool->Oh->Prop),S x->S y->kindOf st=kd->Q (some (decide (rk x<rk y))) st->wpS M A E s (lt' x y) Q st
structure Keep (st st':Oh):Prop where
 k:kindOf st'=kindOf st
 a:Ob st'=Ob st
 p:Ow st'=Ow st
 f:OU st'=OU st
theorem Keep.bW :Keep st st:=⟨rfl,rfl,rfl,rfl⟩
theorem Keep.g {st st':Oh}(h:Keep st st')(g:Nat):Keep st (PR (kindOf st') (Ob st') (Ow st') g (OU st')):=⟨h.k,h.a,h.p,h.f⟩
variable {a b:List N_}{i j:Nat}{y:N_}
section
variable{rk:N_->Nat}
abbrev Srt(rk:N_->Nat)(l:List N_):Prop:=l.Pairwise fun x y=>rk x<=rk y
structure MS (rk:N_->Nat) (a b out:List N_) (i j:Nat):Prop where
 perm:out.Perm (a.take i++b.take j)
 srt:Srt rk out
 le:∀x∈out,(∀y∈a.drop i,rk x<=rk y)/\∀y∈b.drop j,rk x<=rk y
def Res(rk:N_->Nat)(a b r:List N_):Prop:=r.Perm (a++b)/\Srt rk r
theorem MS.tO {out:List N_}{k:Nat}(h:MS rk a b out i j)(sa:Srt rk a)(hc:∀y∈(a.drop i).take k,∀z∈b.drop j,rk y<=rk z):MS rk a b (out++(a.drop i).take k) (i+k) j:=by
 have sd:Srt rk (a.drop i):=JG (Lm _ _) sa;have split:a.drop i=(a.drop i).take k++a.drop (i+k):=by rw[<-LR];exact(Jw k (a.drop i)).symm
 refine⟨?_,?_,fun x hx=>?_⟩
 ·rw[Ms];refine(h.perm.append_right _).trans ?_;rw[k_,k_];exact JS _ Km
 ·refine C'.mpr ⟨h.srt,JG (Lj _ _) sd,fun x hx y hy=>(h.le x hx).1 y (JF hy)⟩
 rcases A_.mp hx with hx|hx
 ·refine⟨fun y hy=>(h.le x hx).1 y ?_,(h.le x hx).2⟩;rw[split];exact q_ _ hy
 refine⟨fun y hy=>?_,hc x hx⟩;rw[split]at sd;exact(C'.mp sd).2.2 x hx y hy
theorem MS.t9 {out:List N_}{k:Nat}(h:MS rk a b out i j)(sb:Srt rk b)(hc:∀y∈(b.drop j).take k,∀z∈a.drop i,rk y<=rk z):MS rk a b (out++(b.drop j).take k) i (j+k):=by
 have sd:Srt rk (b.drop j):=JG (Lm _ _) sb;have split:b.drop j=(b.drop j).take k++b.drop (j+k):=by rw[<-LR];exact(Jw k (b.drop j)).symm
 refine⟨?_,?_,fun x hx=>?_⟩
 ·rw[Ms,<-k_];exact h.perm.append_right _
 ·refine C'.mpr ⟨h.srt,JG (Lj _ _) sd,fun x hx y hy=>(h.le x hx).2 y (JF hy)⟩
 rcases A_.mp hx with hx|hx
 ·refine⟨(h.le x hx).1,fun y hy=>(h.le x hx).2 y ?_⟩;rw[split];exact q_ _ hy
 refine⟨hc x hx,fun y hy=>?_⟩;rw[split]at sd;exact(C'.mp sd).2.2 x hx y hy
theorem MS.all {out:List N_}(h:MS rk a b out i j)(h1:a.length<=i)(h2:b.length<=j):Res rk a b out:=by have:=h.perm;rw[Kd h1,Kd h2]at this;exact⟨this,h.srt⟩
theorem lK{l:List N_}(i:Nat):(l.drop i).take l.length=l.drop i:=Kd (by rw[JL];lia)
theorem MS.done {out:List N_}(h:MS rk a b out i j)(sa:Srt rk a)(sb:Srt rk b)(e:a.length<=i\/b.length<=j):Res rk a b (out++a.drop i++b.drop j):=by
 have h1:=h.tO (k:=a.length) sa fun y hy z hz=>by
  rcases e with e|e
  ·rw[Ke e]at hy;simp at hy
  rw[Ke e]at hz;simp at hz
 have h2:=h1.t9 (k:=b.length) sb fun y hy z hz=>by rw[Ke (by lia)]at hz;simp at hz
 rw[lK,lK]at h2;exact h2.all (by lia) (by lia)
theorem MS.last {out:List N_}(h:MS rk a b out i j)(sa:Srt rk a)(sb:Srt rk b)(e:∀y∈b.drop j,∀z∈a.drop i,rk y<=rk z):Res rk a b (out++b.drop j++a.drop i):=by
 have h1:=h.t9 (k:=b.length) sb fun y hy z hz=>e y (JF hy) z hz;have h2:=h1.tO (k:=a.length) sa fun y hy z hz=>by rw[Ke (by lia)]at hz;simp at hz
 rw[lK,lK]at h2;exact h2.all (by lia) (by lia)
theorem oE(a:Array N_)(i:Nat):(a.extract i a.size).toList=a.toList.drop i:=by rw[KS,KU];exact Kd (by rw[JL,h_];exact b_ _)
theorem mh(a:Array N_)(i k:Nat):(a.extract i (i+k)).toList=(a.toList.drop i).take k:=by rw[KS,KU,LV]
theorem drop_one{l:List N_}(h:l[i]?=some y):(l.drop i).take 1=[y]:=by obtain⟨hl,e⟩:=gV.mp h;rw[KW hl,List.take_succ_cons,NH,e]
theorem uT{l:List N_}(h:l[i]?=some y)(s:Srt rk l):∀z∈l.drop i,rk y<=rk z:=by
 obtain⟨hl,e⟩:=gV.mp h;intro z hz;have sd:Srt rk (l.drop i):=JG (Lm _ _) s;rw[KW hl,e]at sd hz;rcases o_.mp hz with rfl|hz
 ·exact b_ _
 exact(Kn.mp sd).1 z hz
theorem oY{l:List N_}(s:Srt rk l){x:N_}(hij:i<=j)(hx:l[i]?=some x)(hy:l[j]?=some y):rk x<=rk y:=by refine uT hx s y ?_;rw[Lr];exact⟨j-i,by rw[Lb,show i+(j-i)=j by lia];exact hy⟩
theorem dJ{l:List N_}{k:Nat}(h:y∈(l.drop i).take k):∃j,j<k/\l[i+j]?=some y:=by
 obtain⟨j,hj⟩:=Lr.mp h;rw[Lc]at hj;split at hj
 ·next hlt=>exact⟨j,hlt,by rw[Lb]at hj;exact hj⟩
 cases hj
theorem jG{l:List N_}(h:y∈l.drop i):∃j,l[i+j]?=some y:=by obtain⟨j,hj⟩:=Lr.mp h;exact⟨j,by rw[Lb]at hj;exact hj⟩
end
variable {p:N_}
section
variable{M:P_}{A:OB}{E:N5->N9->Prop}{s:N9}{kd:Pa}{rk:N_->Nat}{S:N_->Prop}
theorem aV{Q:N_->Oh->Prop}(h:ar[i]?=some p)(q:Q p st):wpS M A E s (OR ar i) Q st:=by rw[elem'_eq,h];exact Om q
theorem FY{Q:Option Bool->Oh->Prop}(L:cW M A E s kd rk S)(hk:kindOf st=kd)(hp:ar[b0+i]?=some p)(Sp:S p)(Sk:S ky)
  (q:Q (some (if lf=true then decide (rk p<rk ky)else !decide (rk ky<rk p))) st):wpS M A E s (bey lf ky ar b0 i) Q st:=by
 unfold bey;refine Og (aV hp ?_);cases lf with
 |true=>exact L p ky st _ Sp Sk hk q
 |false=>exact Og (L ky p st _ Sk Sp hk (Om q))
theorem jy{h0:Nat}(L:cW M A E s kd rk S)(hk:kindOf st=kd)(hh:h0<n)(hsz:b0+n<=ar.size)(Sa:∀(i:Nat) p,ar[i]?=some p->S p)(Sk:S ky)
  (srt:∀(i j:Nat) p q,i<=j->j<n->ar[b0+i]?=some p->ar[b0+j]?=some q->rk p<=rk q)
  (h:∀k,k<=n->(∀(i:Nat) p,i<k->ar[b0+i]?=some p->if lf=true then rk p<rk ky else rk p<=rk ky)->(∀(i:Nat) p,k<=i->i<n->ar[b0+i]?=some p->if lf=true then rk ky<=rk p else rk ky<rk p)->Q (some k) st) :
  wpS M A E s (gal lf ky ar b0 n h0) Q st:=by
 have get:∀i,i<n->ar[b0+i]?=some (ar.getD (b0+i) (OL,OL)):=fun i hi=>by
  rw[G',l_ (by lia)]
  rfl
 refine EX (bd:=fun i=>if lf=true then decide (rk (ar.getD (b0+i) (OL,OL))<rk ky)else !decide (rk ky<rk (ar.getD (b0+i) (OL,OL)))) hh (fun i R hi r=>FY L hk (get i hi) (Sa _ _ (get i hi)) Sk r) ?_ ?_
 ·intro i j hij hj hb;have:=srt i j _ _ hij hj (get i (by lia)) (get j hj);cases lf with
  |true=>
   simp only[if_true,decide_eq_true_eq]at hb ⊢;lia
  |false=>
   simp only[Jv,if_false,Bool.not_eq_true',decide_eq_false_iff_not]at hb ⊢;lia
 intro k hk' h1 h2;refine h k hk' (fun i p hi hp=>?_) (fun i p h3 h4 hp=>?_)
 ·have e:=get i (by lia);rw[hp]at e;cases e;have:=h1 i hi;cases lf with
  |true=>simpa using this
  |false=>simpa using this
 have e:=get i h4;rw[hp]at e;cases e;have:=h2 i h3 h4;cases lf with
 |true=>simpa using this
 |false=>simpa using this
theorem om{g:Nat}{Q:Unit->Oh->Prop}(q:Q () (PR (kindOf st) (Ob st) (Ow st) g (OU st))):wpS M A E s (setG g) Q st:=QS q
end
variable {ca cb lo mg:Nat}{out:Array N_}{st':Oh}
section
variable{M:P_}{A:OB}{E:N5->N9->Prop}{s:N9}{kd:Pa}{rk:N_->Nat}{S:N_->Prop}{a b:Array N_}
structure LoOk (rk:N_->Nat) (S:N_->Prop) (a b:Array N_):Prop where
 sa:Srt rk a.toList
 sb:Srt rk b.toList
 Sa:∀(i:Nat) p,a[i]?=some p->S p
 Sb:∀(i:Nat) p,b[i]?=some p->S p
 pa:0<a.size
 pb:0<b.size
 first:∀p,b[0]?=some p->∀z∈a.toList,rk p<=rk z
 last:∀p,a[a.size-1]?=some p->∀z∈b.toList,rk z<=rk p
theorem LoOk.oy (h:LoOk rk S a b)(m:MS rk a.toList b.toList out.toList i j)(e:i+1=a.size):Res rk a.toList b.toList (jQ a b out i j).toList:=by
 unfold jQ;rw[Jx,Jx,oE,oE];refine m.last h.sa h.sb fun y hy z hz=>?_;obtain⟨k,hk⟩:=jG hz;have hk':i+k<a.toList.length:=(gV.mp hk).1;rw[h_]at hk';have k0:k=0:=by lia
 subst k0;refine h.last z ?_ y (KR hy);rw[<-f_,show a.size-1=i+0 by lia];exact hk
theorem LoOk.mL (h:LoOk rk S a b)(m:MS rk a.toList b.toList out.toList i j)(e:a.size<=i\/b.size<=j):Res rk a.toList b.toList (dn a b out i j).toList:=by unfold dn;rw[Jx,Jx,oE,oE];exact m.done h.sa h.sb (by rw[h_,h_];exact e)
structure LI (rk:N_->Nat) (a b out:Array N_) (i j:Nat):Prop where
 m:MS rk a.toList b.toList out.toList i j
 i:i+1<a.size
 j:j<b.size
theorem MS.mZ (m:MS rk a.toList b.toList out.toList i j)(H:LoOk rk S a b)(hy:b[j]?=some y)(hc:∀z∈a.toList.drop i,rk y<=rk z):MS rk a.toList b.toList (out.push y).toList i (j+1):=by
 have hy':b.toList[j]?=some y:=by rw[f_];exact hy
 have:=m.t9 (k:=1) H.sb (by rw[drop_one hy'];intro w hw;rw[A'.mp hw];exact hc);rw[drop_one hy']at this;rw[KO];exact this
theorem MS.nr (m:MS rk a.toList b.toList out.toList i j)(H:LoOk rk S a b)(hy:a[i]?=some y)(hc:∀z∈b.toList.drop j,rk y<=rk z):MS rk a.toList b.toList (out.push y).toList (i+1) j:=by
 have hy':a.toList[i]?=some y:=by rw[f_];exact hy
 have:=m.tO (k:=1) H.sa (by rw[drop_one hy'];intro w hw;rw[A'.mp hw];exact hc);rw[drop_one hy']at this;rw[KO];exact this
theorem mH{l:Array N_}(srt:Srt rk l.toList)(hy:l[i]?=some y):∀z∈l.toList.drop i,rk y<=rk z:=uT (by rw[f_];exact hy) srt
noncomputable def i8(rk:N_->Nat)(a b:Array N_)(lo:Nat)(st:Oh)(r:Option (Array N_))(out:Array N_)(i j:Nat)(st':Oh):Prop:=
 Keep st st'/\match r with
 |some q=>Res rk a.toList b.toList q.toList
 |none=>LI rk a b out i j/\lo<i+j
theorem Il{Q:ForInStep FS->Oh->Prop}(L:cW M A E s kd rk S)(H:LoOk rk S a b)(hk:kindOf st=kd)(K:Keep st st')(I:LI rk a b out i j)
  (h:∀(d:Bool) (c:FS),i8 rk a b (i+j) st c.1 c.2.1 c.2.2.1 c.2.2.2.1 st'->(d=false->c.1=none)->Q (if d=true then Oi c else Ox c) st'):wpS M A E s (f1 a b out i j ca cb mg) Q st':=by
 have hi:i<a.size:=by have:=I.i;lia
 obtain⟨y,hy⟩:∃y,b[j]?=some y:=⟨_,l_ I.j⟩;obtain⟨z,hz⟩:∃z,a[i]?=some z:=⟨_,l_ hi⟩;unfold f1;refine Og (aV hy (Og (aV hz (Og (L y z st' _ (H.Sb _ _ hy) (H.Sa _ _ hz) (K.k.trans hk) ?_)))));dsimp only;by_cases w:rk y<rk z
 ·rw[decide_eq_true w,if_pos rfl];have m:=I.m.mZ H hy fun u hu=>m_ (Jy w) (mH H.sa hz u hu);refine Og (aV hy ?_);by_cases e:j+1=b.size
  ·rw[if_pos (by rw[e];exact beq_self_eq_true _)];exact Om (h true _ ⟨K,H.mL m (.inr (by lia))⟩ (fun z=>nomatch z))
  rw[if_neg (by simpa using e)];have I2:LI rk a b (out.push y) i (j+1):=⟨m,I.i,by have:=I.j;lia⟩;split
  ·exact Om (h true _ ⟨K,I2,by dsimp only;lia⟩ (fun z=>nomatch z))
  exact Om (h false _ ⟨K,I2,by dsimp only;lia⟩ (fun _=>rfl))
 rw[decide_eq_false w,if_neg (by simp)];have m:=I.m.nr H hz fun u hu=>m_ (by lia) (mH H.sb hy u hu)
 refine Og (aV hz ?_);by_cases e:i+1+1=a.size
 ·rw[if_pos (by rw[e];exact beq_self_eq_true _)];exact Om (h true _ ⟨K,H.oy m e⟩ (fun z=>nomatch z))
 rw[if_neg (by simpa using e)];have I2:LI rk a b (out.push z) (i+1) j:=⟨m,by have:=I.i;lia,I.j⟩;split
 ·exact Om (h true _ ⟨K,I2,by dsimp only;lia⟩ (fun z=>nomatch z))
 exact Om (h false _ ⟨K,I2,by dsimp only;lia⟩ (fun _=>rfl))
theorem Ez{Q:ForInStep GS->Oh->Prop}(H:LoOk rk S a b)(K:Keep st st')(I:LI rk a b out i j)(hc:∀z,a[i]?=some z->∀u∈b.toList.drop j,rk z<=rk u)(hl:lo<=i+j)
  (h:∀(d:Bool) (c:GS),i8 rk a b lo st c.1 c.2.1 c.2.2.1 c.2.2.2.1 st'->(d=false->c.1=none)->Q (if d=true then Oi c else Ox c) st'):wpS M A E s (g3 a b out i j mg ca cb) Q st':=by
 have hi:i<a.size:=by have:=I.i;lia
 obtain⟨z,hz⟩:∃z,a[i]?=some z:=⟨_,l_ hi⟩;unfold g3;have m:=I.m.nr H hz (hc z hz);refine Og (aV hz ?_);by_cases e:i+1+1=a.size
 ·rw[if_pos (by rw[e];exact beq_self_eq_true _)];exact Om (h true _ ⟨K,H.oy m e⟩ (fun z=>nomatch z))
 rw[if_neg (by simpa using e)];have I2:LI rk a b (out.push z) (i+1) j:=⟨m,by have:=I.i;lia,I.j⟩;split
 ·exact Om (h true _ ⟨K,I2,by dsimp only;lia⟩ (fun z=>nomatch z))
 exact Om (h false _ ⟨K,I2,by dsimp only;lia⟩ (fun _=>rfl))
theorem Eg{Q:ForInStep GS->Oh->Prop}(L:cW M A E s kd rk S)(H:LoOk rk S a b)(hk:kindOf st=kd)(K:Keep st st')(I:LI rk a b out i j)(hc:∀y,b[j]?=some y->∀u∈a.toList.drop i,rk y<=rk u)(hl:lo<=i+j)
  (h:∀(d:Bool) (c:GS),i8 rk a b lo st c.1 c.2.1 c.2.2.1 c.2.2.2.1 st'->(d=false->c.1=none)->Q (if d=true then Oi c else Ox c) st'):wpS M A E s (g2 a b out i j mg ca cb) Q st':=by
 have hi:i<a.size:=by have:=I.i;lia
 obtain⟨y,hy⟩:∃y,b[j]?=some y:=⟨_,l_ I.j⟩;obtain⟨z,hz⟩:∃z,a[i]?=some z:=⟨_,l_ hi⟩;unfold g2;have m:=I.m.mZ H hy (hc y hy);refine Og (aV hy ?_);by_cases e:j+1=b.size
 ·rw[if_pos (by rw[e];exact beq_self_eq_true _)];exact Om (h true _ ⟨K,H.mL m (.inr (by lia))⟩ (fun z=>nomatch z))
 rw[if_neg (by simpa using e)];have hj:j+1<b.size:=by have:=I.j;lia
 refine Og (aV hz (Og (jy L (K.k.trans hk) (by lia) (by lia) H.Sb (H.Sa _ _ hz) (fun p q x w h1 h2 h3 h4=>oY H.sb (i:=j+1+p) (j:=j+1+q) (by(clear h4 h3 h2 hj e m hz hy hi h hl hc I K hk H L;lia)) (by rw[f_];exact h3) (by rw[f_];exact h4)) fun k k1 k2 k3=>?_)));dsimp only;have after:∀u∈b.toList.drop (j+1+k),rk z<=rk u:=fun u hu=>by obtain⟨p,hp⟩:=jG hu;rw[f_]at hp;have hlt:j+1+k+p<b.size:=(Lx.mp hp).1;have:=k3 (k+p) u (by lia) (by(clear hp hu k3 k2 k1 hj e m hz hy hi h hl hc I K hk H L;lia)) (by rw[show j+1+(k+p)=j+1+k+p by(clear hlt hp hu k3 k2 k1 hj e m hz hy hi h hl hc I K hk H L;lia)];exact hp);simpa using this
 by_cases pk:k > 0
 ·rw[if_pos pk];have m2:MS rk a.toList b.toList (out.push y++b.extract (j+1) (j+1+k)).toList i (j+1+k):=by rw[Jx,mh];refine m.t9 H.sb fun u hu w hw=>?_;obtain⟨p,hp1,hp⟩:=dJ hu;rw[f_]at hp;have:=k2 p u hp1 hp;simp only[if_true]at this;exact m_ (Jy this) (mH H.sa hz w hw)
  by_cases e2:j+1+k=b.size
  ·rw[if_pos (by rw[e2];exact beq_self_eq_true _)];exact Om (h true _ ⟨K,H.mL m2 (.inr (by(clear m2 pk after k3 k2 k1 hj e m hz hy hi h hl hc I K hk H L;lia)))⟩ (fun z=>nomatch z))
  rw[if_neg (by simpa using e2)];refine Ez H K ⟨m2,I.i,by(clear m2 after k3 k2 hj e m hz hy hi h hl hc I K hk H L;lia)⟩ (fun z' hz'=>?_) (by(clear e2 m2 pk after k3 k2 k1 hj e m hz hy hi h hc I K hk H L;lia)) h;rw[hz]at hz';cases hz';exact after
 rw[if_neg pk];have k0:k=0:=by lia
 subst k0;refine Ez H K ⟨m,I.i,by(clear pk after k3 k2 k1 e m hz hy hi h hl hc I K hk H L;omega)⟩ (fun z' hz'=>?_) (by lia) h;rw[hz]at hz';cases hz';exact after
theorem Ii{Q:ForInStep GS->Oh->Prop}(L:cW M A E s kd rk S)(H:LoOk rk S a b)(hk:kindOf st=kd)(K:Keep st st')(I:LI rk a b out i j)
  (h:∀(d:Bool) (c:GS) (st2:Oh),i8 rk a b (i+j) st c.1 c.2.1 c.2.2.1 c.2.2.2.1 st2->(d=false->c.1=none)->Q (if d=true then Oi c else Ox c) st2):wpS M A E s (g1 a b out i j mg ca cb) Q st':=by
 have hi:i<a.size:=by have:=I.i;lia
 obtain⟨y,hy⟩:∃y,b[j]?=some y:=⟨_,l_ I.j⟩;unfold g1;refine Og (om (Og (aV hy ?_)));have K2:=K.g mg;revert K2;generalize PR (kindOf st') (Ob st') (Ow st') mg (OU st')=st2;intro K2;refine Og (jy L (K2.k.trans hk) (by lia) (by lia) H.Sa (H.Sb _ _ hy) (fun p q x w h1 h2 h3 h4=>oY H.sa (i:=i+p) (j:=i+q) (by lia) (by rw[f_];exact h3) (by rw[f_];exact h4)) fun k k1 k2 k3=>?_);dsimp only;have after:∀u∈a.toList.drop (i+k),rk y<=rk u:=fun u hu=>by obtain⟨p,hp⟩:=jG hu;rw[f_]at hp;have hlt:i+k+p<a.size:=(Lx.mp hp).1;have:=k3 (k+p) u (by lia) (by lia) (by rw[show i+(k+p)=i+k+p by lia];exact hp);simp at this;lia
 by_cases pk:k > 0
 ·rw[if_pos pk];have m2:MS rk a.toList b.toList (out++a.extract i (i+k)).toList (i+k) j:=by rw[Jx,mh];refine I.m.tO H.sa fun u hu w hw=>?_;obtain⟨p,hp1,hp⟩:=dJ hu;rw[f_]at hp;have:=k2 p u hp1 hp;simp at this;exact m_ this (mH H.sb hy w hw)
  by_cases e1:i+k+1=a.size
  ·rw[if_pos (by rw[e1];exact beq_self_eq_true _)];exact Om (h true _ _ ⟨K2,H.oy m2 e1⟩ (fun z=>nomatch z))
  rw[if_neg (by simpa using e1)];by_cases e2:i+k=a.size
  ·rw[if_pos (by rw[e2];exact beq_self_eq_true _)];exact Om (h true _ _ ⟨K2,H.mL m2 (.inl (by lia))⟩ (fun z=>nomatch z))
  rw[if_neg (by simpa using e2)];refine Eg L H hk K2 ⟨m2,by(clear m2 after k3 k2 K2 hy hi h I K hk H L;lia),I.j⟩ (fun y' hy'=>?_) (by lia) fun d c x1 x2=>h d c _ x1 x2
  rw[hy]at hy';cases hy';exact after
 rw[if_neg pk];have k0:k=0:=by lia
 subst k0;refine Eg L H hk K2 I (fun y' hy'=>?_) (b_ _) fun d c x1 x2=>h d c _ x1 x2;rw[hy]at hy';cases hy';exact after
theorem G1{Q:Array N_->Oh->Prop}(L:cW M A E s kd rk S)(H:LoOk rk S a b)(hk:kindOf st=kd)(h:∀r st',Keep st st'->Res rk a.toList b.toList r.toList->Q r st')(hr:∀x,Of M A (rule x) (fun _ s'=>s'=s) E s):wpS M A E s (mLo a b) Q st:=by
 rw[Cy];obtain⟨y,hy⟩:∃y,b[0]?=some y:=⟨_,l_ H.pb⟩;have rl:∀{x:String}{R:Unit->Oh->Prop}{st':Oh},R () st'->wpS M A E s (liftM (rule x):StateT Oh Sem Unit) R st':=fun{x R st'} q=>Ry (OG (hr x) (fun _ _ z=>⟨z,q⟩) fun _ _ z=>z);refine Og (rl (Og (aV hy ?_)));have m0:MS rk a.toList b.toList (#[]:Array N_).toList 0 0:=⟨by simp,Lk,fun x hx=>by simp at hx⟩;have m1:MS rk a.toList b.toList (#[y]:Array N_).toList 0 1:=m0.mZ H hy fun z hz=>H.first y hy z (by simpa using hz)
 by_cases e1:1=b.size
 ·rw[if_pos (by rw[<-e1];rfl)];exact Om (h _ _ .bW (H.mL m1 (.inr (by lia))))
 rw[if_neg (by simpa using e1)];by_cases e2:0+1=a.size
 ·rw[if_pos (by rw[<-e2];rfl)];exact Om (h _ _ .bW (H.oy m1 e2))
 rw[if_neg (by simpa using e2)];refine Og (Qk ?_);have pa:=H.pa;have pb:=H.pb;refine Og (O7 (OP (I:=fun x (c:OS) st'=>c.1=none/\Keep st st'/\LI rk a b c.2.1 c.2.2.1 c.2.2.2.1/\x<c.2.2.1+c.2.2.2.1) (Q:=fun(c:OS) st'=>∃q,c.1=some q/\Keep st st'/\Res rk a.toList b.toList q.toList) ?_ ?_ ⟨rfl,.bW,⟨m1,by dsimp only;lia,by dsimp only;lia⟩,by show 0<0+1;lia⟩) ?_)
 ·rintro x ⟨c1,out,i,j,mg⟩ st1 _ hx ⟨rfl,K1,I1,px⟩;unfold oLo;dsimp only at I1 px ⊢;refine Og (O7 (OP (I:=fun x (c:FS) st'=>c.1=none/\Keep st st'/\LI rk a b c.2.1 c.2.2.1 c.2.2.2.1/\i+j+x<=c.2.2.1+c.2.2.2.1) (Q:=fun(c:FS) st'=>i8 rk a b (i+j) st c.1 c.2.1 c.2.2.1 c.2.2.2.1 st') ?_ ?_ ⟨rfl,K1,I1,b_ _⟩) ?_)
  ·rintro x2 ⟨d1,out2,i2,j2,ca,cb⟩ st2 _ hx2 ⟨rfl,K2,I2,p2⟩;dsimp only at I2 p2 ⊢;refine Il L H hk K2 I2 fun d c hs hn=>?_;cases d with
   |true=>
    show i8 _ _ _ _ _ _ _ _ _ _;refine⟨hs.1,?_⟩;have h2:=hs.2;cases e:c.1 with
    |some q=>rw[e]at h2;exact h2
    |none=>rw[e]at h2;exact⟨h2.1,by have:=h2.2;(clear e h2 hn hs I2 K2 hx2 px I1 K1 hx pb pa e2 e1 m1 m0 rl hy hr h hk H L;lia)⟩
   |false=>
    have h2:=hs.2;rw[hn rfl]at h2;exact⟨hn rfl,hs.1,h2.1,by have:=h2.2;(clear h2 hn hs I2 K2 hx2 px I1 K1 hx pb pa e2 e1 m1 m0 rl hy hr h hk H L;lia)⟩
  ·rintro⟨c1,out2,i2,j2,ca,cb⟩ st2 ⟨rfl,K2,I2,p2⟩;dsimp only at I2 p2 ⊢;have:=I2.i;have:=I2.j
   (clear I2 K2 px I1 K1 hx pb pa e2 e1 m1 m0 rl hy hr h hk H L;lia)
  rintro⟨c1,out2,i2,j2,ca,cb⟩ st2 ⟨K2,h2⟩;cases c1 with
  |some q=>exact Om ⟨q,rfl,K2,h2⟩
  |none=>
   obtain⟨I2,p2⟩:=h2;dsimp only at I2 p2 ⊢;refine Og (rl ?_);refine Og (O7 (OP (I:=fun _ (c:GS) st'=>c.1=none/\Keep st st'/\LI rk a b c.2.1 c.2.2.1 c.2.2.2.1/\i+j<c.2.2.1+c.2.2.2.1) (Q:=fun(c:GS) st'=>i8 rk a b (i+j) st c.1 c.2.1 c.2.2.1 c.2.2.2.1 st') ?_ ?_ ⟨rfl,K2,I2,p2⟩) ?_)
   ·rintro x3 ⟨d1,out3,i3,j3,mg3,ca3,cb3⟩ st3 _ hx3 ⟨rfl,K3,I3,p3⟩;dsimp only at I3 p3 ⊢;have go:∀mg',wpS M A E s (g1 a b out3 i3 j3 mg' ca3 cb3) (fun r st'=>match r with | .done c'=>i8 rk a b (i+j) st c'.1 c'.2.1 c'.2.2.1 c'.2.2.2.1 st' | .yield c'=>c'.1=none/\Keep st st'/\LI rk a b c'.2.1 c'.2.2.1 c'.2.2.2.1/\i+j<c'.2.2.1+c'.2.2.2.1) st3:=fun mg'=>by
     refine Ii L H hk K3 I3 fun d c st4 hs hn=>?_;cases d with
     |true=>
      show i8 _ _ _ _ _ _ _ _ _ _;refine⟨hs.1,?_⟩;have h2:=hs.2;cases e:c.1 with
      |some q=>rw[e]at h2;exact h2
      |none=>rw[e]at h2;exact⟨h2.1,by have:=h2.2;(clear e h2 hn hs I3 K3 hx3 p2 I2 K2 px I1 K1 hx pb pa e2 e1 m1 m0 rl hy hr h hk H L;lia)⟩
     |false=>
      have h2:=hs.2;rw[hn rfl]at h2;exact⟨hn rfl,hs.1,h2.1,by have:=h2.2;(clear h2 hn hs I3 K3 hx3 p2 I2 K2 px I1 K1 hx pb pa e2 e1 m1 m0 rl hy hr h hk H L;lia)⟩
    split
    ·exact O7 (go _) fun r st' h=>by cases r <;> exact h
    exact O7 (go _) fun r st' h=>by cases r <;> exact h
   ·rintro⟨c1,out3,i3,j3,mg3,ca3,cb3⟩ st3 ⟨rfl,K3,I3,p3⟩;exact⟨K3,I3,p3⟩
   rintro⟨c1,out3,i3,j3,mg3,ca3,cb3⟩ st3 ⟨K3,h3⟩;cases c1 with
   |some q=>exact Om ⟨q,rfl,K3,h3⟩
   |none=>
    obtain⟨I3,p3⟩:=h3;refine Og (om (Om ⟨rfl,K3.g _,I3,?_⟩));dsimp only at p3 ⊢;lia
 ·rintro⟨c1,out,i,j,mg⟩ st1 ⟨rfl,K1,I1,px⟩;have h1:=I1.i;have h2:=I1.j;dsimp only at h1 h2 px
  (clear I1 K1 pb pa e2 e1 m1 m0 rl hy hr h hk H L;lia)
 rintro⟨c1,out,i,j,mg⟩ st1 ⟨q,e,K1,r⟩;dsimp only at e;subst e;exact Om (h q st1 K1 r)
end
def dnH(a b out:Array N_)(i j:Nat):Array N_:=a.extract 0 i++b.extract 0 j++out.reverse
def fI(a b out:Array N_)(i j:Nat):Array N_:=b.extract 0 j++a.extract 0 i++out.reverse
theorem Fb(a b:Array N_):mHi a b=(do
 rule "list.sort.merge-hi"
 let mut i:=a.size-1
 let mut j:=b.size
 let mut out:Array N_:=#[<-OR a i]
 if i == 0 then return dnH a b out i j
 if j == 1 then return fI a b out i j
 let mut mg:=Rx (<-get)
 for _ in [0:a.size+b.size]do
  let mut ca:=0
  let mut cb:=0
  for _ in [0:a.size+b.size]do
   let some aw <-lt' (<-OR b (j-1)) (<-OR a (i-1)) | return dnH a b out i j
   if aw then
    i:=i-1;out:=out.push (<-OR a i);ca:=ca+1;cb:=0
    if i == 0 then return dnH a b out i j
    if ca>=mg then break
   else
    j:=j-1;out:=out.push (<-OR b j);cb:=cb+1;ca:=0
    if j == 1 then return fI a b out i j
    if cb>=mg then break
  rule "list.sort.gallop"
  mg:=mg+1
  for _ in [0:a.size+b.size]do
   if mg > 1 then mg:=mg-1
   setG mg
   let some at' <-gal false (<-OR b (j-1)) a 0 i (i-1) | return dnH a b out i j
   let k:=i-at'
   ca:=k
   if k > 0 then
    out:=out++(a.extract at' i).reverse;i:=at'
    if i == 0 then return dnH a b out i j
   j:=j-1;out:=out.push (<-OR b j)
   if j == 1 then return fI a b out i j
   let some at' <-gal true (<-OR a (i-1)) b 0 j (j-1) | return dnH a b out i j
   let k:=j-at'
   cb:=k
   if k > 0 then
    out:=out++(b.extract at' j).reverse;j:=at'
    if j == 1 then return fI a b out i j
    if j == 0 then return dnH a b out i j
   i:=i-1;out:=out.push (<-OR a i)
   if i == 0 then return dnH a b out i j
   if ca<7&&cb<7 then break
  mg:=mg+1
  setG mg
 unsupported "internal:list.sort.merge-bound"):=rfl
abbrev GT:=Option (Array N_)×Nat×Nat×Array N_×Nat×Nat×Nat
abbrev FT:=Option (Array N_)×Nat×Nat×Array N_×Nat×Nat
abbrev OT:=Option (Array N_)×Nat×Nat×Array N_×Nat
noncomputable def k3(a b out:Array N_)(i j mg ca cb:Nat):StateT Oh Sem (ForInStep GT):=do
 let y <-OR a (i-1)
 if(i-1 == 0)=true then pure (Oi (some (dnH a b (out.push y) (i-1) j),i-1,j,out.push y,mg,ca,cb))
 else if(decide (ca<7)&&decide (cb<7))=true then pure (Oi (none,i-1,j,out.push y,mg,ca,cb))
 else pure (Ox (none,i-1,j,out.push y,mg,ca,cb))
noncomputable def k2(a b out:Array N_)(i j mg ca cb:Nat):StateT Oh Sem (ForInStep GT):=do
 let y <-OR b (j-1)
 if(j-1 == 1)=true then pure (Oi (some (fI a b (out.push y) i (j-1)),i,j-1,out.push y,mg,ca,cb))
 else do
  let z <-OR a (i-1)
  let some at' <-gal true z b 0 (j-1) (j-1-1) | pure (Oi (some (dnH a b (out.push y) i (j-1)),i,j-1,out.push y,mg,ca,cb))
  if j-1-at' > 0 then
    if(at' == 1)=true then pure (Oi (some (fI a b (out.push y++(b.extract at' (j-1)).reverse) i at'),i,at',out.push y++(b.extract at' (j-1)).reverse,mg,ca,j-1-at'))
    else if(at' == 0)=true then pure (Oi (some (dnH a b (out.push y++(b.extract at' (j-1)).reverse) i at'),i,at',out.push y++(b.extract at' (j-1)).reverse,mg,ca,j-1-at'))
    else k3 a b (out.push y++(b.extract at' (j-1)).reverse) i at' mg ca (j-1-at')
  else k3 a b (out.push y) i (j-1) mg ca (j-1-at')
noncomputable def k1(a b out:Array N_)(i j mg ca cb:Nat):StateT Oh Sem (ForInStep GT):=do
 setG mg
 let y <-OR b (j-1)
 let some at' <-gal false y a 0 i (i-1) | pure (Oi (some (dnH a b out i j),i,j,out,mg,ca,cb))
 if i-at' > 0 then
   if(at' == 0)=true then pure (Oi (some (dnH a b (out++(a.extract at' i).reverse) at' j),at',j,out++(a.extract at' i).reverse,mg,i-at',cb))
   else k2 a b (out++(a.extract at' i).reverse) at' j mg (i-at') cb
 else k2 a b out i j mg (i-at') cb
noncomputable def e1(a b out:Array N_)(i j ca cb mg:Nat):StateT Oh Sem (ForInStep FT):=do
 let y <-OR b (j-1)
 let z <-OR a (i-1)
 let some aw <-lt' y z | pure (Oi (some (dnH a b out i j),i,j,out,ca,cb))
 if aw=true then do
   let z <-OR a (i-1)
   if(i-1 == 0)=true then pure (Oi (some (dnH a b (out.push z) (i-1) j),i-1,j,out.push z,ca+1,0))
   else if ca+1>=mg then pure (Oi (none,i-1,j,out.push z,ca+1,0))else pure (Ox (none,i-1,j,out.push z,ca+1,0))
 else do
   let y <-OR b (j-1)
   if(j-1 == 1)=true then pure (Oi (some (fI a b (out.push y) i (j-1)),i,j-1,out.push y,0,cb+1))
   else if cb+1>=mg then pure (Oi (none,i,j-1,out.push y,0,cb+1))else pure (Ox (none,i,j-1,out.push y,0,cb+1))
noncomputable def oHi(a b:Array N_)(c:OT):StateT Oh Sem (ForInStep OT):=do
 let r <-forIn [0:a.size+b.size] ((none,c.2.1,c.2.2.1,c.2.2.2.1,0,0):FT) fun _ d=>e1 a b d.2.2.2.1 d.2.1 d.2.2.1 d.2.2.2.2.1 d.2.2.2.2.2 c.2.2.2.2
 match r.1 with
 |some q=>pure (Oi (some q,r.2.1,r.2.2.1,r.2.2.2.1,c.2.2.2.2))
 |none=>do
  liftM (rule "list.sort.gallop")
  let e <-forIn [0:a.size+b.size] ((none,r.2.1,r.2.2.1,r.2.2.2.1,c.2.2.2.2+1,r.2.2.2.2.1,r.2.2.2.2.2):GT) fun _ d=>
   if d.2.2.2.2.1 > 1 then k1 a b d.2.2.2.1 d.2.1 d.2.2.1 (d.2.2.2.2.1-1) d.2.2.2.2.2.1 d.2.2.2.2.2.2 else k1 a b d.2.2.2.1 d.2.1 d.2.2.1 d.2.2.2.2.1 d.2.2.2.2.2.1 d.2.2.2.2.2.2
  match e.1 with
  |some q=>pure (Oi (some q,e.2.1,e.2.2.1,e.2.2.2.1,e.2.2.2.2.1))
  |none=>do
   setG (e.2.2.2.2.1+1)
   pure (Ox (none,e.2.1,e.2.2.1,e.2.2.2.1,e.2.2.2.2.1+1))
set_option maxHeartbeats 2000000 in
theorem DQ(a b:Array N_):mHi a b=(do
  liftM (rule "list.sort.merge-hi")
  let y <-OR a (a.size-1)
  if(a.size-1 == 0)=true then pure (dnH a b #[y] (a.size-1) b.size)
  else if(b.size == 1)=true then pure (fI a b #[y] (a.size-1) b.size)
  else do
   let st <-get
   let r <-forIn [0:a.size+b.size] ((none,a.size-1,b.size,#[y],Rx st):OT) fun _ c=>oHi a b c
   match r.1 with
   |some q=>pure q
   |none=>liftM (unsupported "internal:list.sort.merge-bound":Sem (Array N_))):=by
 rw[Fb];unfold oHi;refine congrArg (bind _) (funext fun _=>?_);refine congrArg (bind _) (funext fun y=>?_);refine ite_congr rfl (fun _=>rfl) (fun _=>?_);refine ite_congr rfl (fun _=>rfl) (fun _=>?_);refine congrArg (bind _) (funext fun st=>?_);refine congr (congrArg bind (congrArg (forIn _ _) (funext fun _=>funext fun c=>?_))) ?_
 ·refine congr (congrArg bind (congrArg (forIn _ _) (funext fun _=>funext fun d=>?_))) ?_
  ·unfold e1
   rfl
  funext r;obtain⟨r1,r2⟩:=r;cases r1 with
  |some q=>rfl
  |none=>
   refine congrArg (bind _) (funext fun _=>?_);refine congr (congrArg bind (congrArg (forIn _ _) (funext fun _=>funext fun d=>?_))) ?_
   ·unfold k1;refine ite_congr rfl (fun _=>?_) (fun _=>?_)
    all_goals
     refine congrArg (bind _) (funext fun _=>?_);refine congrArg (bind _) (funext fun y=>?_);refine congrArg (bind _) (funext fun r=>?_);cases r with
     |none=>rfl
     |some k=>
      refine ite_congr rfl (fun _=>?_) (fun _=>?_)
      ·refine ite_congr rfl (fun _=>rfl) (fun _=>?_);unfold k2
       rfl
      unfold k2
      rfl
   funext e;obtain⟨e1,e2⟩:=e;cases e1 <;> rfl
 funext e;obtain⟨e1,e2⟩:=e;cases e1 <;> rfl
variable {o:List N_}{t:Nat}
section
variable{rk:N_->Nat}
structure MH (rk:N_->Nat) (a b o:List N_) (i j:Nat):Prop where
 perm:o.Perm (a.drop i++b.drop j)
 srt:Srt rk o
 le:∀x∈o,(∀y∈a.take i,rk y<=rk x)/\∀y∈b.take j,rk y<=rk x
theorem vK{l:List N_}(h:t<=i):l.drop t=(l.take i).drop t++l.drop i:=by
 by_cases hi:i<=l.length
 ·have e:=Jw i l;have h2:(l.take i++l.drop i).drop t=(l.take i).drop t++l.drop i:=Me (by rw[G_];lia);rw[e]at h2;exact h2
 rw[Kd (by lia),Ke (by lia:l.length<=i),D_]
theorem lN{l:List N_}(h:t<=i):l.take i=l.take t++(l.take i).drop t:=by have:=Jw t (l.take i);rw[List.take_take,Ny h]at this;exact this.symm
theorem MH.tO (h:MH rk a b o i j)(sa:Srt rk a)(ht:t<=i)(hc:∀y∈(a.take i).drop t,∀z∈b.take j,rk z<=rk y):MH rk a b ((a.take i).drop t++o) t j:=by
 have st:Srt rk (a.take i):=JG (Lj _ _) sa;refine⟨?_,?_,fun x hx=>?_⟩
 ·rw[vK (l:=a) ht,k_];exact JS _ h.perm
 ·exact C'.mpr ⟨JG (Lm _ _) st,h.srt,fun x hx y hy=>(h.le y hy).1 x (KR hx)⟩
 rcases A_.mp hx with hx|hx
 ·refine⟨fun y hy=>?_,hc x hx⟩;rw[lN ht]at st;exact(C'.mp st).2.2 y hy x hx
 refine⟨fun y hy=>(h.le x hx).1 y ?_,(h.le x hx).2⟩;rw[lN ht];exact H_ _ hy
theorem MH.t9 (h:MH rk a b o i j)(sb:Srt rk b)(ht:t<=j)(hc:∀y∈(b.take j).drop t,∀z∈a.take i,rk z<=rk y):MH rk a b ((b.take j).drop t++o) i t:=by
 have st:Srt rk (b.take j):=JG (Lj _ _) sb;refine⟨?_,?_,fun x hx=>?_⟩
 ·rw[vK (l:=b) ht];refine(JS _ h.perm).trans ?_;rw[<-k_,<-k_];exact MT _ Km
 ·exact C'.mpr ⟨JG (Lm _ _) st,h.srt,fun x hx y hy=>(h.le y hy).2 x (KR hx)⟩
 rcases A_.mp hx with hx|hx
 ·refine⟨hc x hx,fun y hy=>?_⟩;rw[lN ht]at st;exact(C'.mp st).2.2 y hy x hx
 refine⟨(h.le x hx).1,fun y hy=>(h.le x hx).2 y ?_⟩;rw[lN ht];exact H_ _ hy
theorem MH.done (h:MH rk a b o i j)(sa:Srt rk a)(sb:Srt rk b)(e:i=0\/j=0):Res rk a b (a.take i++b.take j++o):=by
 have h1:=h.t9 (t:=0) sb (E_ _) fun y hy z hz=>by
  rcases e with e|e
  ·rw[e]at hz;simp at hz
  rw[e]at hy;simp at hy
 have h2:=h1.tO (t:=0) sa (E_ _) fun y hy z hz=>by simp at hz
 have p:=h2.perm;have q:=h2.srt;simp only[LU]at p q;rw[k_];exact⟨p,q⟩
theorem MH.first (h:MH rk a b o i j)(sa:Srt rk a)(sb:Srt rk b)(e:∀y∈a.take i,∀z∈b.take j,rk z<=rk y):Res rk a b (b.take j++a.take i++o):=by
 have h1:=h.tO (t:=0) sa (E_ _) fun y hy z hz=>e y (by rw[LU]at hy;exact hy) z hz
 have h2:=h1.t9 (t:=0) sb (E_ _) fun y hy z hz=>by simp at hz
 have p:=h2.perm;have q:=h2.srt;simp only[LU]at p q;rw[k_];exact⟨p,q⟩
theorem oh(a:Array N_)(i:Nat):(a.extract 0 i).toList=a.toList.take i:=by rw[KS,KU,LU,Nat.sub_zero]
theorem yt(a:Array N_)(t i:Nat):(a.extract t i).toList=(a.toList.take i).drop t:=by rw[KS,KU,List.drop_take]
theorem take_one{l:List N_}(h0:0<i)(h:l[i-1]?=some y):(l.take i).drop (i-1)=[y]:=by
 obtain⟨hl,e⟩:=gV.mp h;have:l.take i=l.take (i-1)++[y]:=by
  conv=>lhs;rw[show i=i-1+1 by lia,JR,h]
  rfl
 rw[this,Me (by rw[G_];omega),Ke (by rw[G_];omega)]
 rfl
theorem jB{l:List N_}(h:y∈l.take i):∃j,j<i/\l[j]?=some y:=by
 obtain⟨j,hj⟩:=Lr.mp h;rw[Lc]at hj;split at hj
 ·next hlt=>exact⟨j,hlt,hj⟩
 cases hj
theorem vE{l:List N_}(h:y∈(l.take i).drop t):∃j,t<=j/\j<i/\l[j]?=some y:=by
 obtain⟨j,hj⟩:=jG h;rw[Lc]at hj;split at hj
 ·next hlt=>exact⟨t+j,by lia,hlt,hj⟩
 cases hj
end
section
variable{M:P_}{A:OB}{E:N5->N9->Prop}{s:N9}{kd:Pa}{rk:N_->Nat}{S:N_->Prop}{a b:Array N_}
abbrev MHo(rk:N_->Nat)(a b out:Array N_)(i j:Nat):Prop:=MH rk a.toList b.toList out.toList.reverse i j
theorem LoOk.uR (h:LoOk rk S a b)(m:MHo rk a b out i j)(e:i=0\/j=0):Res rk a.toList b.toList (dnH a b out i j).toList:=by unfold dnH;rw[Jx,Jx,oh,oh,Lv];exact m.done h.sa h.sb e
theorem LoOk.tq (h:LoOk rk S a b)(m:MHo rk a b out i j)(e:j=1):Res rk a.toList b.toList (fI a b out i j).toList:=by
 unfold fI;rw[Jx,Jx,oh,oh,Lv];refine m.first h.sa h.sb fun y hy z hz=>?_;subst e;obtain⟨k,hk,hz'⟩:=jB hz;have k0:k=0:=by lia
 subst k0;exact h.first z (by rw[<-f_];exact hz') y (JF hy)
structure HI (rk:N_->Nat) (a b out:Array N_) (i j:Nat):Prop where
 m:MHo rk a b out i j
 i0:0<i
 j1:1<j
 ia:i<=a.size
 jb:j<=b.size
theorem MH.nr (m:MHo rk a b out i j)(H:LoOk rk S a b)(h0:0<i)(hy:a[i-1]?=some y)(hc:∀z∈b.toList.take j,rk z<=rk y):MHo rk a b (out.push y) (i-1) j:=by
 have hy':a.toList[i-1]?=some y:=by rw[f_];exact hy
 have:=m.tO (t:=i-1) H.sa (by lia) (by rw[take_one h0 hy'];intro w hw;rw[A'.mp hw];exact hc);rw[take_one h0 hy']at this;show MH _ _ _ (out.push y).toList.reverse _ _;rw[KO,K9];exact this
theorem MH.mZ (m:MHo rk a b out i j)(H:LoOk rk S a b)(h0:0<j)(hy:b[j-1]?=some y)(hc:∀z∈a.toList.take i,rk z<=rk y):MHo rk a b (out.push y) i (j-1):=by
 have hy':b.toList[j-1]?=some y:=by rw[f_];exact hy
 have:=m.t9 (t:=j-1) H.sb (by lia) (by rw[take_one h0 hy'];intro w hw;rw[A'.mp hw];exact hc);rw[take_one h0 hy']at this;show MH _ _ _ (out.push y).toList.reverse _ _;rw[KO,K9];exact this
theorem lR{l:Array N_}(srt:Srt rk l.toList)(hy:l[i-1]?=some y):∀z∈l.toList.take i,rk z<=rk y:=fun z hz=>by obtain⟨k,hk,hz'⟩:=jB hz;exact oY srt (i:=k) (j:=i-1) (by lia) hz' (by rw[f_];exact hy)
noncomputable def m8(rk:N_->Nat)(a b:Array N_)(lo:Nat)(st:Oh)(r:Option (Array N_))(out:Array N_)(i j:Nat)(st':Oh):Prop:=
 Keep st st'/\match r with
 |some q=>Res rk a.toList b.toList q.toList
 |none=>HI rk a b out i j/\i+j<lo
theorem HI.get (I:HI rk a b out i j):(∃y,b[j-1]?=some y)/\∃z,a[i-1]?=some z:=
 ⟨⟨_,l_ (s_ (Mx (Lq Lh I.j1) Lh) I.jb)⟩,⟨_,l_ (s_ (Mx I.i0 Lh) I.ia)⟩⟩
theorem IJ{Q:ForInStep FT->Oh->Prop}(L:cW M A E s kd rk S)(H:LoOk rk S a b)(hk:kindOf st=kd)(K:Keep st st')(I:HI rk a b out i j)
  (h:∀(d:Bool) (c:FT),m8 rk a b (i+j) st c.1 c.2.2.2.1 c.2.1 c.2.2.1 st'->(d=false->c.1=none)->Q (if d=true then Oi c else Ox c) st'):wpS M A E s (e1 a b out i j ca cb mg) Q st':=by
 obtain⟨⟨y,hy⟩,⟨z,hz⟩⟩:=I.get;have i0:=I.i0;have j1:=I.j1;have ia:=I.ia;have jb:=I.jb;unfold e1;refine Og (aV hy (Og (aV hz (Og (L y z st' _ (H.Sb _ _ hy) (H.Sa _ _ hz) (K.k.trans hk) ?_)))));dsimp only;by_cases w:rk y<rk z
 ·rw[decide_eq_true w,if_pos rfl];have m:=I.m.nr H i0 hz fun u hu=>m_ (lR H.sb hy u hu) (Jy w);refine Og (aV hz ?_);by_cases e:i-1=0
  ·rw[if_pos (by rw[e];rfl)];exact Om (h true _ ⟨K,H.uR m (.inl e)⟩ (fun z=>nomatch z))
  rw[if_neg (by simpa using e)];have I2:HI rk a b (out.push z) (i-1) j:=⟨m,JU e,j1,m_ (JQ ..) ia,jb⟩;split
  ·exact Om (h true _ ⟨K,I2,by dsimp only;lia⟩ (fun z=>nomatch z))
  exact Om (h false _ ⟨K,I2,by dsimp only;lia⟩ (fun _=>rfl))
 rw[decide_eq_false w,if_neg (by simp)];have m:=I.m.mZ H (by lia) hy fun u hu=>m_ (lR H.sa hz u hu) (by lia)
 refine Og (aV hy ?_);by_cases e:j-1=1
 ·rw[if_pos (by rw[e];rfl)];exact Om (h true _ ⟨K,H.tq m e⟩ (fun z=>nomatch z))
 rw[if_neg (by simpa using e)];have I2:HI rk a b (out.push y) i (j-1):=⟨m,i0,by lia,ia,m_ (JQ ..) jb⟩;split
 ·exact Om (h true _ ⟨K,I2,by dsimp only;lia⟩ (fun z=>nomatch z))
 exact Om (h false _ ⟨K,I2,by dsimp only;lia⟩ (fun _=>rfl))
theorem EE{Q:ForInStep GT->Oh->Prop}(H:LoOk rk S a b)(K:Keep st st')(I:HI rk a b out i j)(hc:∀z,a[i-1]?=some z->∀u∈b.toList.take j,rk u<=rk z)(hl:i+j<=lo)
  (h:∀(d:Bool) (c:GT),m8 rk a b lo st c.1 c.2.2.2.1 c.2.1 c.2.2.1 st'->(d=false->c.1=none)->Q (if d=true then Oi c else Ox c) st'):wpS M A E s (k3 a b out i j mg ca cb) Q st':=by
 obtain⟨⟨y,hy⟩,⟨z,hz⟩⟩:=I.get;have i0:=I.i0;have j1:=I.j1;have ia:=I.ia;have jb:=I.jb;unfold k3;have m:=I.m.nr H i0 hz (hc z hz);refine Og (aV hz ?_);by_cases e:i-1=0
 ·rw[if_pos (by rw[e];rfl)];exact Om (h true _ ⟨K,H.uR m (.inl e)⟩ (fun z=>nomatch z))
 rw[if_neg (by simpa using e)];have I2:HI rk a b (out.push z) (i-1) j:=⟨m,JU e,j1,m_ (JQ ..) ia,jb⟩;split
 ·exact Om (h true _ ⟨K,I2,by dsimp only;lia⟩ (fun z=>nomatch z))
 exact Om (h false _ ⟨K,I2,by dsimp only;lia⟩ (fun _=>rfl))
theorem MHo.block (m:MHo rk a b out i j)(H:LoOk rk S a b)(ht:t<=j)(hc:∀y∈(b.toList.take j).drop t,∀z∈a.toList.take i,rk z<=rk y):MHo rk a b (out++(b.extract t j).reverse) i t:=by have:=m.t9 H.sb ht hc;show MH _ _ _ (out++(b.extract t j).reverse).toList.reverse _ _;rw[Jx,K9,Lv,M4,yt];exact this
theorem MHo.G4 (m:MHo rk a b out i j)(H:LoOk rk S a b)(ht:t<=i)(hc:∀y∈(a.toList.take i).drop t,∀z∈b.toList.take j,rk z<=rk y):MHo rk a b (out++(a.extract t i).reverse) t j:=by have:=m.tO H.sa ht hc;show MH _ _ _ (out++(a.extract t i).reverse).toList.reverse _ _;rw[Jx,K9,Lv,M4,yt];exact this
theorem Ei{Q:ForInStep GT->Oh->Prop}(L:cW M A E s kd rk S)(H:LoOk rk S a b)(hk:kindOf st=kd)(K:Keep st st')(I:HI rk a b out i j)(hc:∀y,b[j-1]?=some y->∀u∈a.toList.take i,rk u<=rk y)(hl:i+j<=lo)
  (h:∀(d:Bool) (c:GT),m8 rk a b lo st c.1 c.2.2.2.1 c.2.1 c.2.2.1 st'->(d=false->c.1=none)->Q (if d=true then Oi c else Ox c) st'):wpS M A E s (k2 a b out i j mg ca cb) Q st':=by
 obtain⟨⟨y,hy⟩,⟨z,hz⟩⟩:=I.get;have i0:=I.i0;have j1:=I.j1;have ia:=I.ia;have jb:=I.jb;unfold k2;have m:=I.m.mZ H (by lia) hy (hc y hy);refine Og (aV hy ?_);by_cases e:j-1=1
 ·rw[if_pos (by rw[e];rfl)];exact Om (h true _ ⟨K,H.tq m e⟩ (fun z=>nomatch z))
 rw[if_neg (by simpa using e)];refine Og (aV hz (Og (jy L (K.k.trans hk) (by lia) (by lia) H.Sb (H.Sa _ _ hz) (fun p q x w h1 h2 h3 h4=>oY H.sb (i:=0+p) (j:=0+q) (by lia) (by rw[f_];exact h3) (by rw[f_];exact h4)) fun t t1 t2 t3=>?_)));dsimp only;have before:∀u∈b.toList.take t,rk u<=rk z:=fun u hu=>by obtain⟨p,hp1,hp⟩:=jB hu;rw[f_]at hp;have:=t2 p u hp1 (by rw[Kq];exact hp);simp at this;lia
 by_cases pk:j-1-t > 0
 ·rw[if_pos pk];have m2:MHo rk a b (out.push y++(b.extract t (j-1)).reverse) i t:=by
   refine MHo.block m H (by omega) fun u hu w hw=>?_
   obtain⟨p,hp0,hp1,hp⟩:=vE hu;rw[f_]at hp;have:=t3 p u hp0 hp1 (by rw[Kq];exact hp);simp at this;exact m_ (lR H.sa hz w hw) this
  by_cases e1:t=1
  ·rw[if_pos (by rw[e1];rfl)];exact Om (h true _ ⟨K,H.tq m2 e1⟩ (fun z=>nomatch z))
  rw[if_neg (by simpa using e1)];by_cases e2:t=0
  ·rw[if_pos (by rw[e2];rfl)];exact Om (h true _ ⟨K,H.uR m2 (.inr e2)⟩ (fun z=>nomatch z))
  rw[if_neg (by simpa using e2)];refine EE H K ⟨m2,i0,Ld (JU e2) (Qs e1),ia,m_ t1 (m_ (JQ ..) jb)⟩ (fun z' hz'=>?_) (by lia) h;rw[hz]at hz';cases hz';exact before
 rw[if_neg pk];have k0:t=j-1:=by lia
 refine EE H K ⟨m,i0,by lia,ia,m_ (JQ ..) jb⟩ (fun z' hz'=>?_) (by lia) h;rw[hz]at hz';cases hz';rw[k0]at before;exact before
theorem Iz{Q:ForInStep GT->Oh->Prop}(L:cW M A E s kd rk S)(H:LoOk rk S a b)(hk:kindOf st=kd)(K:Keep st st')(I:HI rk a b out i j)
  (h:∀(d:Bool) (c:GT) (st2:Oh),m8 rk a b (i+j) st c.1 c.2.2.2.1 c.2.1 c.2.2.1 st2->(d=false->c.1=none)->Q (if d=true then Oi c else Ox c) st2):wpS M A E s (k1 a b out i j mg ca cb) Q st':=by
 obtain⟨⟨y,hy⟩,⟨z,hz⟩⟩:=I.get;have i0:=I.i0;have j1:=I.j1;have ia:=I.ia;have jb:=I.jb;unfold k1;refine Og (om (Og (aV hy ?_)));have K2:=K.g mg;revert K2;generalize PR (kindOf st') (Ob st') (Ow st') mg (OU st')=st2;intro K2;refine Og (jy L (K2.k.trans hk) (by lia) (by lia) H.Sa (H.Sb _ _ hy) (fun p q x w h1 h2 h3 h4=>oY H.sa (i:=0+p) (j:=0+q) (by lia) (by rw[f_];exact h3) (by rw[f_];exact h4)) fun t t1 t2 t3=>?_);dsimp only;have before:∀u∈a.toList.take t,rk u<=rk y:=fun u hu=>by obtain⟨p,hp1,hp⟩:=jB hu;rw[f_]at hp;have:=t2 p u hp1 (by rw[Kq];exact hp);simpa using this
 by_cases pk:i-t > 0
 ·rw[if_pos pk];have m2:MHo rk a b (out++(a.extract t i).reverse) t j:=by
   refine MHo.G4 I.m H (by omega) fun u hu w hw=>?_
   obtain⟨p,hp0,hp1,hp⟩:=vE hu;rw[f_]at hp;have:=t3 p u hp0 hp1 (by rw[Kq];exact hp);simp at this;exact m_ (lR H.sb hy w hw) (Jy this)
  by_cases e2:t=0
  ·rw[if_pos (by rw[e2];rfl)];exact Om (h true _ _ ⟨K2,H.uR m2 (.inl e2)⟩ (fun z=>nomatch z))
  rw[if_neg (by simpa using e2)];refine Ei L H hk K2 ⟨m2,by lia,j1,by lia,jb⟩ (fun y' hy'=>?_) (by lia) fun d c x1 x2=>h d c _ x1 x2
  rw[hy]at hy';cases hy';exact before
 rw[if_neg pk];have k0:t=i:=by lia
 rw[k0]at before;refine Ei L H hk K2 I (fun y' hy'=>?_) (b_ _) fun d c x1 x2=>h d c _ x1 x2;rw[hy]at hy';cases hy';exact before
theorem GD{Q:Array N_->Oh->Prop}(L:cW M A E s kd rk S)(H:LoOk rk S a b)(hk:kindOf st=kd)(h:∀r st',Keep st st'->Res rk a.toList b.toList r.toList->Q r st')(hr:∀x,Of M A (rule x) (fun _ s'=>s'=s) E s):wpS M A E s (mHi a b) Q st:=by
 rw[DQ];have pa:=H.pa;have pb:=H.pb;obtain⟨y,hy⟩:∃y,a[a.size-1]?=some y:=⟨_,l_ (by lia)⟩;have rl:∀{x:String}{R:Unit->Oh->Prop}{st':Oh},R () st'->wpS M A E s (liftM (rule x):StateT Oh Sem Unit) R st':=fun{x R st'} q=>Ry (OG (hr x) (fun _ _ z=>⟨z,q⟩) fun _ _ z=>z);refine Og (rl (Og (aV hy ?_)));have m0:MHo rk a b #[] a.size b.size:=⟨by simp,Lk,fun x hx=>by simp at hx⟩;have m1:MHo rk a b #[y] (a.size-1) b.size:=m0.nr H pa hy fun z hz=>H.last y hy z (JF hz);by_cases e1:a.size-1=0
 ·rw[if_pos (by rw[e1];rfl)];exact Om (h _ _ .bW (H.uR m1 (.inl e1)))
 rw[if_neg (by simpa using e1)];by_cases e2:b.size=1
 ·rw[if_pos (by rw[e2];rfl)];exact Om (h _ _ .bW (H.tq m1 e2))
 rw[if_neg (by simpa using e2)];refine Og (Qk ?_);refine Og (O7 (OP (I:=fun x (c:OT) st'=>c.1=none/\Keep st st'/\HI rk a b c.2.2.2.1 c.2.1 c.2.2.1/\c.2.1+c.2.2.1+x<a.size+b.size) (Q:=fun(c:OT) st'=>∃q,c.1=some q/\Keep st st'/\Res rk a.toList b.toList q.toList) ?_ ?_ ⟨rfl,.bW,⟨m1,by dsimp only;lia,by dsimp only;lia,by dsimp only;lia,by dsimp only;lia⟩,by dsimp only;lia⟩) ?_)
 ·rintro x ⟨c1,i,j,out,mg⟩ st1 _ hx ⟨rfl,K1,I1,px⟩;unfold oHi;dsimp only at I1 px ⊢;refine Og (O7 (OP (I:=fun x (c:FT) st'=>c.1=none/\Keep st st'/\HI rk a b c.2.2.2.1 c.2.1 c.2.2.1/\c.2.1+c.2.2.1+x<=i+j) (Q:=fun(c:FT) st'=>m8 rk a b (i+j) st c.1 c.2.2.2.1 c.2.1 c.2.2.1 st') ?_ ?_ ⟨rfl,K1,I1,b_ _⟩) ?_)
  ·rintro x2 ⟨d1,i2,j2,out2,ca,cb⟩ st2 _ hx2 ⟨rfl,K2,I2,p2⟩;dsimp only at I2 p2 ⊢;refine IJ L H hk K2 I2 fun d c hs hn=>?_;cases d with
   |true=>
    show m8 _ _ _ _ _ _ _ _ _ _;refine⟨hs.1,?_⟩;have h2:=hs.2;cases e:c.1 with
    |some q=>rw[e]at h2;exact h2
    |none=>rw[e]at h2;exact⟨h2.1,by have:=h2.2;lia⟩
   |false=>
    have h2:=hs.2;rw[hn rfl]at h2;exact⟨hn rfl,hs.1,h2.1,by have:=h2.2;lia⟩
  ·rintro⟨c1,i2,j2,out2,ca,cb⟩ st2 ⟨rfl,K2,I2,p2⟩;dsimp only at I2 p2 ⊢;have:=I2.i0;have:=I2.j1;lia
  rintro⟨c1,i2,j2,out2,ca,cb⟩ st2 ⟨K2,h2⟩;cases c1 with
  |some q=>exact Om ⟨q,rfl,K2,h2⟩
  |none=>
   obtain⟨I2,p2⟩:=h2;dsimp only at I2 p2 ⊢;refine Og (rl ?_);refine Og (O7 (OP (I:=fun _ (c:GT) st'=>c.1=none/\Keep st st'/\HI rk a b c.2.2.2.1 c.2.1 c.2.2.1/\c.2.1+c.2.2.1<i+j) (Q:=fun(c:GT) st'=>m8 rk a b (i+j) st c.1 c.2.2.2.1 c.2.1 c.2.2.1 st') ?_ ?_ ⟨rfl,K2,I2,p2⟩) ?_)
   ·rintro x3 ⟨d1,i3,j3,out3,mg3,ca3,cb3⟩ st3 _ hx3 ⟨rfl,K3,I3,p3⟩;dsimp only at I3 p3 ⊢;have go:∀mg',wpS M A E s (k1 a b out3 i3 j3 mg' ca3 cb3) (fun r st'=>match r with | .done c'=>m8 rk a b (i+j) st c'.1 c'.2.2.2.1 c'.2.1 c'.2.2.1 st' | .yield c'=>c'.1=none/\Keep st st'/\HI rk a b c'.2.2.2.1 c'.2.1 c'.2.2.1/\c'.2.1+c'.2.2.1<i+j) st3:=fun mg'=>by
     refine Iz L H hk K3 I3 fun d c st4 hs hn=>?_;cases d with
     |true=>
      show m8 _ _ _ _ _ _ _ _ _ _;refine⟨hs.1,?_⟩;have h2:=hs.2;cases e:c.1 with
      |some q=>rw[e]at h2;exact h2
      |none=>rw[e]at h2;exact⟨h2.1,by have:=h2.2;lia⟩
     |false=>
      have h2:=hs.2;rw[hn rfl]at h2;exact⟨hn rfl,hs.1,h2.1,by have:=h2.2;lia⟩
    split
    ·exact O7 (go _) fun r st' h=>by cases r <;> exact h
    exact O7 (go _) fun r st' h=>by cases r <;> exact h
   ·rintro⟨c1,i3,j3,out3,mg3,ca3,cb3⟩ st3 ⟨rfl,K3,I3,p3⟩;exact⟨K3,I3,p3⟩
   rintro⟨c1,i3,j3,out3,mg3,ca3,cb3⟩ st3 ⟨K3,h3⟩;cases c1 with
   |some q=>exact Om ⟨q,rfl,K3,h3⟩
   |none=>
    obtain⟨I3,p3⟩:=h3;refine Og (om (Om ⟨rfl,K3.g _,I3,?_⟩));dsimp only at p3 ⊢;lia
 ·rintro⟨c1,i,j,out,mg⟩ st1 ⟨rfl,K1,I1,px⟩;dsimp only at px;lia
 rintro⟨c1,i,j,out,mg⟩ st1 ⟨q,e,K1,r⟩;dsimp only at e;subst e;exact Om (h q st1 K1 r)
end
def R(rk:N_->Nat)(xs:Array N_)(i:Nat):Nat:=match xs[i]? with
 |some p=>rk p
 |none=>0
structure Kp2 (st st':Oh):Prop where
 k:kindOf st'=kindOf st
 p:Ow st'=Ow st
 f:OU st'=OU st
 a:(Ob st').Perm (Ob st)
theorem Kp2.bW :Kp2 st st:=⟨rfl,rfl,rfl,MP _⟩
theorem Kp2.trans {s1 s2 s3:Oh}(h:Kp2 s1 s2)(g:Kp2 s2 s3):Kp2 s1 s3:=⟨g.k.trans h.k,g.p.trans h.p,g.f.trans h.f,g.a.trans h.a⟩
theorem Kp2.size (h:Kp2 st st'):(Ob st').size=(Ob st).size:=h.a.size_eq
variable {xs ys:Array N_}
section
variable{rk:N_->Nat}
theorem dZ(h:xs[i]?=ys[j]?):R rk xs i=R rk ys j:=by unfold R;rw[h]
theorem BK(hj:j<=xs.size)(k:Nat):R rk (mirror xs i j ((j-i)/2)) k=if i<=k/\k<j then R rk xs (i+j-1-k)else R rk xs k:=by
 have:=Si (i:=i) hj k;split at this <;> rename_i h
 ·rw[if_pos h];exact dZ this
 rw[if_neg h];exact dZ this
theorem C6{src d:Nat}(hs:src<xs.size)(hd:d<=src)(k:Nat):R rk (Tf xs src d) k=if k=src-d then R rk xs src else if src-d<k/\k<=src then R rk xs (k-1)else R rk xs k:=by
 have:=Tg hs d hd k;split at this
 ·rename_i h;rw[if_pos h];exact dZ this
 rename_i h;rw[if_neg h];split at this
 ·rename_i h2;rw[if_pos h2];exact dZ this
 rename_i h2;rw[if_neg h2];exact dZ this
noncomputable def cp(rk:N_->Nat)(xs:Array N_)(lo n:Nat):Prop:=∀i j,i<=j->j<n->R rk xs (lo+i)<=R rk xs (lo+j)
noncomputable def vz(rk:N_->Nat)(xs:Array N_)(lo n:Nat):Prop:=∀i j,i<=j->j<n->R rk xs (lo+j)<=R rk xs (lo+i)
end
structure Within (st st':Oh) (lo n:Nat):Prop where
 kp:Kp2 st st'
 out:∀k,(k<lo\/lo+n<=k)->(Ob st')[k]?=(Ob st)[k]?
theorem Within.bW :Within st st lo n:=⟨.bW,fun _ _=>rfl⟩
theorem Within.trans {s1 s2 s3:Oh}(h:Within s1 s2 lo n)(g:Within s2 s3 lo n):Within s1 s3 lo n:=⟨h.kp.trans g.kp,fun k hk=>(g.out k hk).trans (h.out k hk)⟩
section
variable{M:P_}{A:OB}{E:N5->N9->Prop}{s:N9}{kd:Pa}{rk:N_->Nat}{S:N_->Prop}
def mW(S:N_->Prop)(st:Oh):Prop:=∀p∈(Ob st).toList,S p
theorem mW.at {st:Oh}(h:mW S st){i:Nat}{p:N_}(e:(Ob st)[i]?=some p):S p:=h p (by rw[<-f_]at e;exact F' e)
theorem mW.kp (h:mW S st)(k:Kp2 st st'):mW S st':=fun p hp=>h p ((KN.mp k.a).mem_iff.mp hp)
theorem jE{Q:Option Bool->Oh->Prop}(L:cW M A E s kd rk S)(hk:kindOf st=kd)(hS:mW S st)(hi:i<(Ob st).size)(hj:j<(Ob st).size)(q:Q (some (decide (R rk (Ob st) i<R rk (Ob st) j))) st):wpS M A E s (Ti i j) Q st:=by rw[ltAt'_eq];refine Og (Qk ?_);have e1:(Ob st)[i]?=some (Ob st)[i]:=l_ hi;have e2:(Ob st)[j]?=some (Ob st)[j]:=l_ hj;refine Og (aV e1 (Og (aV e2 (L _ _ st _ (hS.at e1) (hS.at e2) hk ?_))));unfold R at q;rw[e1,e2]at q;exact q
theorem Ag{Q:Unit->Oh->Prop}(hl:lo<=i)(hj:j<=lo+n)(hsz:j<=(Ob st).size)(h:∀st',Within st st' lo n->(∀k,R rk (Ob st') k=if i<=k/\k<j then R rk (Ob st) (i+j-1-k)else R rk (Ob st) k)->Q () st'):wpS M A E s (Qg i j) Q st:=by rw[reverseSlice'_eq];refine QS (h _ ⟨⟨rfl,rfl,rfl,mirror_perm _ _ _ _⟩,fun k hk=>?_⟩ fun k=>BK hsz k);show(mirror (Ob st) i j ((j-i)/2))[k]?=_;rw[Si hsz,if_neg (by lia)]
theorem Dm{ok:Nat}{Q:Bool->Oh->Prop}(L:cW M A E s kd rk S)(hk:kindOf st=kd)(hS:mW S st)(hn:lo+n<=(Ob st).size)(hok:ok<=n)(hs:cp rk (Ob st) lo ok)
  (h:∀st',Within st st' lo n->cp rk (Ob st') lo n->Q true st'):wpS M A E s (UI lo n ok) Q st:=by
 rw[binarySort'_eq];refine Og (O7 (OP (I:=fun k c st'=>c=(none,())/\Within st st' lo n/\cp rk (Ob st') lo k) (Q:=fun c st'=>c=(none,())/\Within st st' lo n/\cp rk (Ob st') lo (max (max ok 1) n)) ?_ (fun c st' z=>z) ⟨rfl,.bW,fun i j h1 h2=>?_⟩) ?_)
 ·rintro k c st1 hk1 hk2 ⟨rfl,W,s1⟩;have sz1:=W.kp.size;have hS1:=hS.kp W.kp;refine Og (O7 (OP (I:=fun x c st'=>st'=st1/\∃l r,c=(none,l,r)/\l<=r/\r<=k/\r-l<=k-x/\(∀i,i<l->R rk (Ob st1) (lo+i)<=R rk (Ob st1) (lo+k))/\(∀i,r<=i->i<k->R rk (Ob st1) (lo+k)<R rk (Ob st1) (lo+i)))
   (Q:=fun c st'=>st'=st1/\∃l,c=(none,l,l)/\l<=k/\(∀i,i<l->R rk (Ob st1) (lo+i)<=R rk (Ob st1) (lo+k))/\(∀i,l<=i->i<k->R rk (Ob st1) (lo+k)<R rk (Ob st1) (lo+i))) ?_ ?_ ⟨rfl,0,k,rfl,E_ _,b_ _,by lia,fun i hi=>by lia,fun i h1 h2=>by lia⟩) ?_)
  ·rintro x c st2 _ hx ⟨rfl,l,r,rfl,g1,g2,g3,g4,g5⟩;dsimp only;by_cases z:l>=r
   ·rw[if_pos z];have e:l=r:=by lia
    subst e;exact Om ⟨rfl,l,rfl,g2,g4,g5⟩
   rw[if_neg z];have m1:l<=(l+r)/2:=by omega
   have m2:(l+r)/2<r:=by omega
   generalize (l+r)/2=m at m1 m2 ⊢;have m3:=s_ m2 g2;have sz:∀{y},y<=k->lo+y<(Ob st2).size:=fun h=>by lia
   refine Og (jE L (W.kp.k.trans hk) hS1 (sz (b_ _)) (sz (Jy m3)) ?_);dsimp only;by_cases w:R rk (Ob st2) (lo+k)<R rk (Ob st2) (lo+m)
   ·rw[decide_eq_true w,if_pos rfl];exact Om ⟨rfl,l,m,rfl,m1,Jy m3,by lia,g4,fun i h1 h2=>s_ w (s1 m i h1 h2)⟩
   rw[decide_eq_false w,if_neg (by simp)];exact Om ⟨rfl,m+1,r,rfl,m2,g2,by lia,fun i hi=>m_ (s1 i m (LX hi) m3) (JC w),g5⟩
  ·rintro c st2 ⟨rfl,l,r,rfl,g1,g2,g3,g4,g5⟩;have e:l=r:=by lia
   subst e;exact⟨rfl,l,rfl,g2,g4,g5⟩
  rintro c st2 ⟨rfl,l,rfl,g2,g4,g5⟩;dsimp only;rw[moveDown'_eq];have hk1:lo+k<(Ob st2).size:=by lia
  have e0:lo+k-(lo+k-(lo+l))=lo+l:=Nat.sub_sub_self (Kx g2 lo);have hb:∀j,R rk (Tf (Ob st2) (lo+k) (lo+k-(lo+l))) (lo+j)=if j=l then R rk (Ob st2) (lo+k)else if l<j/\j<=k then R rk (Ob st2) (lo+(j-1))else R rk (Ob st2) (lo+j):=fun j=>by
   rw[C6 hk1 (JQ ..),e0];by_cases c1:j=l
   ·rw[if_pos c1,if_pos (congrArg (lo+·) c1)]
   rw[if_neg c1,if_neg (fun z=>c1 (Nat.add_left_cancel z))];by_cases c2:l<j/\j<=k
   ·rw[if_pos c2,if_pos ⟨Mf c2.1 lo,Kx c2.2 lo⟩,Nh (Nat.one_le_of_lt c2.1)]
   rw[if_neg c2,if_neg (fun z=>c2 ⟨Nat.lt_of_add_lt_add_left z.1,Nat.le_of_add_le_add_left z.2⟩)]
  refine Og (QS (Om ⟨rfl,W.trans ⟨⟨rfl,rfl,rfl,bubble_perm _ _ _⟩,fun j hj=>?_⟩,fun i j hij hj=>?_⟩))
  ·show(Tf (Ob st2) (lo+k) (lo+k-(lo+l)))[j]?=_;rw[Tg hk1 _ (JQ ..),e0,if_neg (by lia),if_neg (by lia)]
  show R rk (Tf (Ob st2) (lo+k) (lo+k-(lo+l))) (lo+i)<=R rk (Tf (Ob st2) (lo+k) (lo+k-(lo+l))) (lo+j);rw[hb,hb];have ss:∀p q,p<=q->q<k->R rk (Ob st2) (lo+p)<=R rk (Ob st2) (lo+q):=s1;have hj:j<=k:=LX hj;have dn:∀{x},l<x->x<=k->x-1<k:=fun a b=>s_ (Nat.sub_one_lt_of_lt a) b;by_cases i1:i<l
  ·rw[if_neg (w_ i1),if_neg (fun z=>Nat.lt_asymm z.1 i1)];by_cases j2:j=l
   ·rw[if_pos j2];exact g4 i i1
   rw[if_neg j2];by_cases j1:l<j
   ·rw[if_pos ⟨j1,hj⟩];exact ss i (j-1) (Ma (Lq i1 j1)) (dn j1 hj)
   rw[if_neg (fun z=>j1 z.1)];exact ss i j hij (s_ (Ld (JC j1) j2) g2)
  by_cases i2:i=l
  ·rw[if_pos i2];by_cases j2:j=l
   ·rw[if_pos j2];exact b_ _
   have j1:l<j:=Ld (i2▸hij) (fun z=>j2 z.symm);rw[if_neg j2,if_pos ⟨j1,hj⟩];exact Jy (g5 (j-1) (Ma j1) (dn j1 hj))
  have i3:l<i:=Ld (JC i1) (fun z=>i2 z.symm);have j1:=s_ i3 hij;rw[if_neg i2,if_pos ⟨i3,m_ hij hj⟩,if_neg (fun z=>Kg _ (z▸j1)),if_pos ⟨j1,hj⟩];exact ss (i-1) (j-1) (M5 hij 1) (dn j1 hj)
 ·by_cases z:1<=ok
  ·rw[Nat.max_eq_left z]at h2;exact hs i j h1 h2
  have:i=j:=by lia
  subst this;exact b_ _
 rintro c st1 ⟨rfl,W,s1⟩;exact Om (h st1 W fun i j h1 h2=>s1 i j h1 (by lia))
end
theorem zt{l x:Nat}(h:1<=x):l+(x-1)=l+x-1:=(Nh h l).symm
theorem EW{l k:Nat}(h:l<=k):l+(k-l)=k:=Lz h
theorem HS{l a:Nat}(h:i<a):l+(l+a)-1-(l+i)=l+(a-1-i):=by lia
theorem ET{l x k:Nat}(h0:l<=k)(h:k<l+x):k-l<x:=LC h0 h
noncomputable def BL(l0 a0 q0:Nat):StateT Oh Sem (Option Nat):=do
 let mut n:=a0
 for _ in [a0:q0]do
  let some sm <-Ti (l0+n) (l0+n-1) | return none
  if sm then break
  n:=n+1
 return some n
def tK(l0 a0 q0:Nat):StateT Oh Sem (Option Nat):=do
 Qg l0 (l0+a0)
 BL l0 a0 q0
noncomputable def sU(l0 a0 q0:Nat):StateT Oh Sem (Option Nat):=do
 rule "list.sort.descending-run"
 let mut n:=a0+1
 let mut eq:=0
 for _ in [n:q0]do
  let some sm <-Ti (l0+n) (l0+n-1) | return none
  if sm then
   if eq > 0 then Qg (l0+n-(eq+1)) (l0+n)
   eq:=0
  else
   let some la <-Ti (l0+n-1) (l0+n) | return none
   if la then break
   eq:=eq+1
  n:=n+1
 if eq > 0 then
  Qg (l0+n-(eq+1)) (l0+n)
  tK l0 n q0
 else tK l0 n q0
theorem Ie(l0 q0:Nat):TN l0 q0=(do
 let mut n:=1
 for _ in [1:q0]do
  let some sm <-Ti (l0+n) (l0+n-1) | return none
  if sm then break
  n:=n+1
 if n == q0 then return some n
 if n > 1 then
  let some ro <-Ti l0 (l0+n-1) | return none
  if ro then return some n
  Qg l0 (l0+n)
  sU l0 n q0
 else sU l0 n q0):=rfl
variable {a0 l0 q0:Nat}
section
variable{M:P_}{A:OB}{E:N5->N9->Prop}{s:N9}{kd:Pa}{rk:N_->Nat}{S:N_->Prop}
theorem cp.snoc (h:cp rk xs lo n)(h1:1<=n)(k:R rk xs (lo+n-1)<=R rk xs (lo+n)):cp rk xs lo (n+1):=fun i j hij hj=>by
 by_cases z:j<n
 ·exact h i j hij z
 have e:j=n:=by lia
 subst e;by_cases w:i=j
 ·subst w;exact b_ _
 have:=h i (j-1) (by lia) (by lia);rw[zt h1]at this;exact m_ this k
theorem A6(L:cW M A E s kd rk S)(hk:kindOf st=kd)(hS:mW S st)(hsz:l0+q0<=(Ob st).size)(h1:1<=a0)(h2:a0<=q0)(hs:cp rk (Ob st) l0 a0)
  (h:∀n,a0<=n->n<=q0->cp rk (Ob st) l0 n->Q (some n) st):wpS M A E s (BL l0 a0 q0) Q st:=by
 unfold BL;dsimp only;refine Og (O7 (OP (I:=fun x c st'=>st'=st/\c=(none,x)/\cp rk (Ob st) l0 x) (Q:=fun c st'=>st'=st/\∃n,c=(none,n)/\a0<=n/\n<=q0/\cp rk (Ob st) l0 n) ?_ ?_ ⟨rfl,rfl,hs⟩) ?_)
 ·rintro x c st1 hx1 hx2 ⟨rfl,rfl,s1⟩;dsimp only;refine Og (jE L hk hS (by lia) (by lia) ?_);dsimp only;by_cases w:R rk (Ob st1) (l0+x)<R rk (Ob st1) (l0+x-1)
  ·rw[decide_eq_true w,if_pos rfl];exact Om ⟨rfl,x,rfl,hx1,by lia,s1⟩
  rw[decide_eq_false w,if_neg (by simp)];exact Om ⟨rfl,rfl,s1.snoc (by lia) (by lia)⟩
 ·rintro c st1 ⟨rfl,rfl,s1⟩;rw[MC h2]at s1 ⊢;exact⟨rfl,q0,rfl,h2,b_ _,s1⟩
 rintro c st1 ⟨rfl,n,rfl,g1,g2,g3⟩;exact Om (h n g1 g2 g3)
theorem rb(L:cW M A E s kd rk S)(hk:kindOf st=kd)(hS:mW S st)(hsz:l0+q0<=(Ob st).size)(h1:1<=a0)(h2:a0<=q0)(hs:vz rk (Ob st) l0 a0)
  (h:∀n st',a0<=n->n<=q0->Within st st' l0 q0->cp rk (Ob st') l0 n->Q (some n) st'):wpS M A E s (tK l0 a0 q0) Q st:=by
 unfold tK;refine Og (Ag (rk:=rk) (lo:=l0) (n:=q0) (b_ _) (by lia) (by lia) fun st1 W1 r1=>?_);refine A6 L (W1.kp.k.trans hk) (hS.kp W1.kp) (by rw[W1.kp.size];exact hsz) h1 h2 (fun i j hij hj=>?_) fun n g1 g2 g3=>h n st1 g1 g2 W1 g3
 have hi:=JK hij hj;rw[r1,r1,if_pos ⟨KC ..,Mf hi l0⟩,if_pos ⟨KC ..,Mf hj l0⟩,HS hi,HS hj];exact hs (a0-1-j) (a0-1-i) (Nat.sub_le_sub_left hij _) (JK (JQ _ _) (Mx h1 Lh))
theorem pG{Q:Unit->Oh->Prop}(hl:lo<=i)(hj:j<=lo+n)(hsz:j<=(Ob st).size)(heq:∀k,i<=k->k<j->R rk (Ob st) k=R rk (Ob st) (j-1))(h:∀st',Within st st' lo n->(∀k,R rk (Ob st') k=R rk (Ob st) k)->Q () st'):wpS M A E s (Qg i j) Q st:=by
 refine Ag (rk:=rk) hl hj hsz fun st1 W r1=>h st1 W fun k=>?_;rw[r1];split
 ·rename_i z;rw[heq k z.1 z.2,heq (i+j-1-k) (by(clear r1 W h heq hsz hj hl;lia)) (by(clear r1 W h heq hsz hj hl;lia))]
 rfl
theorem vz.snoc (h:vz rk xs lo n)(h1:1<=n)(k:R rk xs (lo+n)<=R rk xs (lo+n-1)):vz rk xs lo (n+1):=fun i j hij hj=>by
 by_cases z:j<n
 ·exact h i j hij z
 have e:j=n:=by lia
 subst e;by_cases w:i=j
 ·subst w;exact b_ _
 have:=h i (j-1) (by lia) (by lia);rw[show lo+(j-1)=lo+j-1 by lia]at this;exact m_ k this
theorem rV(L:cW M A E s kd rk S)(hk:kindOf st=kd)(hS:mW S st)(hsz:l0+q0<=(Ob st).size)(h2:a0+1<=q0)(hs:vz rk (Ob st) l0 (a0+1))(hr:∀x,Of M A (rule x) (fun _ s'=>s'=s) E s)
  (h:∀n st',1<=n->n<=q0->Within st st' l0 q0->cp rk (Ob st') l0 n->Q (some n) st'):wpS M A E s (sU l0 a0 q0) Q st:=by
 unfold sU;refine Og (Ry (OG (hr _) (fun _ _ z=>⟨z,?_⟩) fun _ _ z=>z));dsimp only;refine Og (O7 (OP (I:=fun x c st'=>∃eq,c=(none,x,eq)/\Within st st' l0 q0/\vz rk (Ob st') l0 x/\eq+1<=x/\∀k,x-1-eq<=k->k<x->R rk (Ob st') (l0+k)=R rk (Ob st') (l0+(x-1)))
  (Q:=fun c st'=>∃n eq,c=(none,n,eq)/\a0+1<=n/\n<=q0/\Within st st' l0 q0/\vz rk (Ob st') l0 n/\eq+1<=n/\∀k,n-1-eq<=k->k<n->R rk (Ob st') (l0+k)=R rk (Ob st') (l0+(n-1))) ?_ ?_ ⟨0,rfl,.bW,hs,by lia,fun k h1 h2=>by rw[show k=a0+1-1 by lia]⟩) ?_)
 ·rintro x c st1 hx1 hx2 ⟨eq,rfl,W,d1,e1,ev⟩;dsimp only;have hk1:=W.kp.k.trans hk;have hS1:=hS.kp W.kp;have sz1:=W.kp.size;have x1:1<=x:=m_ (Nz 1 eq) e1;have b1:l0+x<(Ob st1).size:=by lia
  have b2:l0+x-1<(Ob st1).size:=JK (JQ ..) b1;refine Og (jE L hk1 hS1 b1 b2 ?_);dsimp only;by_cases w:R rk (Ob st1) (l0+x)<R rk (Ob st1) (l0+x-1)
  ·rw[decide_eq_true w,if_pos rfl];have fin:∀st2,Within st st2 l0 q0->(∀k,R rk (Ob st2) k=R rk (Ob st1) k)->∃eq',((none,x+1,0):Option (Option Nat)×Nat×Nat)=(none,x+1,eq')/\Within st st2 l0 q0/\vz rk (Ob st2) l0 (x+1)/\eq'+1<=x+1/\∀k,x+1-1-eq'<=k->k<x+1->R rk (Ob st2) (l0+k)=R rk (Ob st2) (l0+(x+1-1)):=fun st2 W2 r2=>by refine⟨0,rfl,W2,fun i j hij hj=>?_,by lia,fun k h1 h2=>by rw[show k=x+1-1 by lia]⟩;rw[r2,r2];exact d1.snoc x1 (Jy w) i j hij hj
   by_cases z:eq > 0
   ·rw[if_pos z];refine Og (pG (rk:=rk) (lo:=l0) (n:=q0) (by lia) (by lia) (by lia) (fun k h1 h2=>?_) fun st2 W2 r2=>Om (fin st2 (W.trans W2) r2));have k0:l0<=k:=by lia
    have:=ev (k-l0) (by lia) (ET k0 h2);rw[EW k0,zt x1]at this;exact this
   rw[if_neg z];exact Om (fin st1 W fun _=>rfl)
  rw[decide_eq_false w,if_neg (by simp)];refine Og (jE L hk1 hS1 b2 b1 ?_);dsimp only;by_cases v:R rk (Ob st1) (l0+x-1)<R rk (Ob st1) (l0+x)
  ·rw[decide_eq_true v,if_pos rfl];exact Om ⟨x,eq,rfl,hx1,by lia,W,d1,e1,ev⟩
  rw[decide_eq_false v,if_neg (by simp)];have ee:R rk (Ob st1) (l0+x)=R rk (Ob st1) (l0+x-1):=NA (JC v) (JC w);refine Om ⟨eq+1,rfl,W,d1.snoc x1 (Mz ee),by lia,fun k h1 h2=>?_⟩;rw[show l0+(x+1-1)=l0+x by lia];by_cases y:k=x
  ·rw[y]
  have:=ev k (by lia) (by lia);rw[zt x1]at this;exact this.trans ee.symm
 ·rintro c st1 ⟨eq,rfl,W,d1,e1,ev⟩;rw[MC h2]at d1 e1 ev ⊢;exact⟨q0,eq,rfl,h2,b_ _,W,d1,e1,ev⟩
 rintro c st1 ⟨n,eq,rfl,g1,g2,W,d1,e1,ev⟩;have sz1:=W.kp.size;dsimp only;by_cases z:eq > 0
 ·rw[if_pos z];refine Og (pG (rk:=rk) (lo:=l0) (n:=q0) (by lia) (by lia) (by lia) (fun k h1 h2=>?_) fun st2 W2 r2=>?_)
  ·have k0:l0<=k:=by lia
   have:=ev (k-l0) (by lia) (ET k0 h2);rw[EW k0,zt (m_ (Nz 1 eq) e1)]at this;exact this
  refine rb L ((W.trans W2).kp.k.trans hk) (hS.kp (W.trans W2).kp) (by rw[(W.trans W2).kp.size];exact hsz) (by lia) g2 (fun i j hij hj=>by rw[r2,r2];exact d1 i j hij hj) fun m st3 k1 k2 W3 s3=>h m st3 (by lia) k2 ((W.trans W2).trans W3) s3
 rw[if_neg z];exact rb L (W.kp.k.trans hk) (hS.kp W.kp) (by rw[sz1];exact hsz) (by lia) g2 d1 fun m st3 k1 k2 W3 s3=>h m st3 (by lia) k2 (W.trans W3) s3
theorem vB(L:cW M A E s kd rk S)(hk:kindOf st=kd)(hS:mW S st)(hsz:l0+q0<=(Ob st).size)(h1:1<=q0)(hr:∀x,Of M A (rule x) (fun _ s'=>s'=s) E s)
  (h:∀n st',1<=n->n<=q0->Within st st' l0 q0->cp rk (Ob st') l0 n->Q (some n) st'):wpS M A E s (TN l0 q0) Q st:=by
 rw[Ie];dsimp only;refine Og (O7 (OP (I:=fun x c st'=>st'=st/\c=(none,x)/\cp rk (Ob st) l0 x) (Q:=fun c st'=>st'=st/\∃n,c=(none,n)/\1<=n/\n<=q0/\cp rk (Ob st) l0 n/\(n=q0\/R rk (Ob st) (l0+n)<R rk (Ob st) (l0+n-1))) ?_ ?_ ⟨rfl,rfl,fun i j h1 h2=>by rw[show i=j by lia];exact b_ _⟩) ?_)
 ·rintro x c st1 hx1 hx2 ⟨rfl,rfl,s1⟩;dsimp only;refine Og (jE L hk hS (by lia) (by lia) ?_);dsimp only;by_cases w:R rk (Ob st1) (l0+x)<R rk (Ob st1) (l0+x-1)
  ·rw[decide_eq_true w,if_pos rfl];exact Om ⟨rfl,x,rfl,hx1,by lia,s1,.inr w⟩
  rw[decide_eq_false w,if_neg (by simp)];exact Om ⟨rfl,rfl,s1.snoc (by(clear w s1 h hsz hS hk hx2 hr h1 L;omega)) (by lia)⟩
 ·rintro c st1 ⟨rfl,rfl,s1⟩;rw[MC h1]at s1 ⊢;exact⟨rfl,q0,rfl,h1,b_ _,s1,.inl rfl⟩
 rintro c st1 ⟨rfl,n,rfl,g1,g2,g3,g4⟩;dsimp only;by_cases e:n=q0
 ·rw[if_pos (by rw[e];exact beq_self_eq_true _)];exact Om (h n st1 g1 g2 .bW g3)
 rw[if_neg (by simpa using e)];have lt:=g4.resolve_left e;by_cases z:n > 1
 ·rw[if_pos z];refine Og (jE L hk hS (by lia) (by(clear lt e g4 g3 g1 h hS hk hr h1 L;lia)) ?_);dsimp only;by_cases w:R rk (Ob st1) l0<R rk (Ob st1) (l0+n-1)
  ·rw[decide_eq_true w,if_pos rfl];exact Om (h n st1 g1 g2 .bW g3)
  rw[decide_eq_false w,if_neg (by simp)];have all:∀k,l0<=k->k<l0+n->R rk (Ob st1) k=R rk (Ob st1) (l0+n-1):=fun k h1 h2=>by have kn:=ET h1 h2;have a:=g3 0 (k-l0) (E_ _) kn;have b:=g3 (k-l0) (n-1) (Ma kn) (Mx g1 Lh);rw[EW h1]at a b;rw[zt g1]at b;rw[LH]at a;exact NA b (m_ (JC w) a)
  refine Og (pG (rk:=rk) (lo:=l0) (n:=q0) (b_ _) (by(clear all w z lt e g4 g3 g1 h hsz hS hk hr h1 L;lia)) (by(clear all w z lt e g4 g3 g1 h hS hk hr h1 L;lia)) all fun st2 W2 r2=>?_);refine rV L (W2.kp.k.trans hk) (hS.kp W2.kp) (by rw[W2.kp.size];exact hsz) (by lia) (fun i j hij hj=>?_) hr fun m st3 k1 k2 W3 s3=>h m st3 k1 k2 (W2.trans W3) s3
  rw[r2,r2];by_cases y:j<n
  ·rw[all (l0+i) (by lia) (by lia),all (l0+j) (by lia) (by(clear hj hij r2 W2 all w z lt e g4 g3 g2 g1 h hsz hS hk hr h1 L;lia))];exact b_ _
  rw[show j=n by lia];by_cases y2:i<n
  ·rw[all (l0+i) (by lia) (by(clear y hj hij r2 W2 all w z lt e g4 g3 g2 g1 h hsz hS hk hr h1 L;lia))];exact Jy lt
  rw[show i=n by(clear y r2 W2 all w z lt e g4 g3 g2 g1 h hsz hS hk hr h1 L;lia)];exact b_ _
 rw[if_neg z];have n1:n=1:=by lia
 subst n1;refine rV L hk hS hsz (by lia) (fun i j hij hj=>?_) hr fun m st3 k1 k2 W3 s3=>h m st3 k1 k2 W3 s3
 by_cases y:i=j
 ·rw[y];exact b_ _
 rw[show i=0 by lia,show j=1 by lia];exact Jy lt
end
noncomputable def wrote(xs:Array N_)(q:Nat)(ys:Array N_):Array N_:=ys.toList.zipIdx.foldl (fun u (p,j)=>u.setIfInBounds (q+j) p) xs
theorem FK(i:Nat):R' i=(do
 let st <-get
 let (some (s1,n1,pw),some (s2,n2,_)):=((Ow st)[i]?,(Ow st)[i+1]?) | unsupported "internal:list.sort.pending"
 set (PR (kindOf st) (Ob st) (((Ow st).setIfInBounds i (s1,n1+n2,pw)).eraseIdxIfInBounds (i+1)) (Rx st) (OU st))
 let some k <-gal false (<-OR (Ob st) s2) (Ob st) s1 n1 0 | return false
 let (s1,n1):=(s1+k,n1-k)
 if n1 == 0 then return true
 let some n2 <-gal true (<-OR (Ob st) (s1+n1-1)) (Ob st) s2 n2 (n2-1) | return false
 if n2 == 0 then return true
 let x:=(Ob st).extract s1 s2
 let y:=(Ob st).extract s2 (s2+n2)
 let mm <-if n1<=n2 then mLo x y else mHi x y
 modify fun z=>setArr z (wrote (Ob z) s1 mm)
 return (OU (<-get)).isNone):=rfl
theorem rn(q:Nat):∀(l:List N_) (n:Nat) (xs:Array N_),q+n+l.length<=xs.size->((l.zipIdx n).foldl (fun u (p,j)=>u.setIfInBounds (q+j) p) xs).toList=xs.toList.take (q+n)++(l++xs.toList.drop (q+n+l.length))
 | [],n,xs,_=>by simp
 |p::t,n,xs,h=>by
  rw[d_]at h;rw[MA,MQ,rn q t (n+1) _ (by rw[LJ];lia),Mt];have hl:q+n<xs.toList.length:=by rw[h_];lia
  rw[show q+(n+1)=q+n+1 by lia,JR,List.take_set_of_le (b_ _),LZ hl,List.drop_set_of_lt (by lia),d_,show q+n+1+t.length=q+n+(t.length+1) by lia];simp
theorem wk{q:Nat}(h:q+ys.size<=xs.size):(wrote xs q ys).toList=xs.toList.take q++(ys.toList++xs.toList.drop (q+ys.size)):=by have:=rn q ys.toList 0 xs (by rw[h_];exact h);rw[h_]at this;exact this
theorem Bk{c:List N_}(h:a.length=b.length)(hi:a.length<=i):(a++c)[i]?=(b++c)[i]?:=by rw[Kh hi,Kh (by lia),h]
section
variable{rk:N_->Nat}
theorem yB(h:xs.toList[i]?=some p):R rk xs i=rk p:=by unfold R;rw[<-f_,h]
theorem jv(h:cp rk xs lo n):Srt rk ((xs.toList.drop lo).take n):=by
 refine KY.mpr fun i j hi hj hij=>?_;have hj':j<n:=by rw[G_]at hj;lia
 have ei:=c_ hi;have ej:=c_ hj;rw[Lc,if_pos (by lia),Lb]at ei ej;have:=h i j (by lia) hj';rw[yB ei,yB ej]at this;exact this
theorem uk{l k:Nat}(h:k<=n):l+k+(n-k)=l+n:=by rw[La,Lz h]
theorem AM(hn:lo+n<=xs.size)(h:Srt rk ((xs.toList.drop lo).take n)):cp rk xs lo n:=by
 intro i j hij hj;by_cases e:i=j
 ·rw[e];exact b_ _
 have len:((xs.toList.drop lo).take n).length=n:=by rw[G_,JL,h_];lia
 have hi':i<((xs.toList.drop lo).take n).length:=by lia
 have hj':j<((xs.toList.drop lo).take n).length:=by lia
 have:=KY.mp h i j hi' hj' (by lia);have ei:=c_ hi';have ej:=c_ hj';rw[Lc,if_pos (by lia),Lb]at ei ej;rw[yB ei,yB ej];exact this
theorem vP{m:Nat}(h1:cp rk xs lo n)(h2:cp rk xs (lo+n) m)(h:∀i j,i<n->j<m->R rk xs (lo+i)<=R rk xs (lo+n+j)):cp rk xs lo (n+m):=by
 intro i j hij hj;by_cases z:j<n
 ·exact h1 i j hij z
 by_cases w:i<n
 ·have:=h i (j-n) w (LC (JC z) hj);rw[uk (JC z)]at this;exact this
 have:=h2 (i-n) (j-n) (M5 hij n) (LC (JC z) hj);rw[uk (JC z),uk (JC w)]at this;exact this
theorem mG{T:List N_}{k:Nat}(h:k<=n):(T.drop lo).take n=(T.drop lo).take k++(T.drop (lo+k)).take (n-k):=by
 conv=>lhs;rw[show n=k+(n-k)from(Lz h).symm,Ms,LR]
theorem Ge{r:Array N_}{k m c:Nat}(hk:k<=n)(hc:c<=m)(hsz:lo+n+m<=xs.size)(o1:cp rk xs lo n)(o2:cp rk xs (lo+n) m)
  (a1:∀p∈(xs.toList.drop lo).take k,∀q∈(xs.toList.drop (lo+n)).take m,rk p<=rk q) (a2:∀p∈(xs.toList.drop lo).take n,∀q∈(xs.toList.drop (lo+n+c)).take (m-c),rk p<=rk q)
  (hr:Res rk ((xs.toList.drop (lo+k)).take (n-k)) ((xs.toList.drop (lo+n)).take c) r.toList) :
  (wrote xs (lo+k) r).Perm xs/\(∀i,(i<lo\/lo+n+m<=i)->(wrote xs (lo+k) r)[i]?=xs[i]?)/\cp rk (wrote xs (lo+k) r) lo (n+m):=by
 have lr:r.size=n-k+c:=by have:=hr.1.length_eq;rw[g_,G_,G_,JL,JL,h_,h_]at this;lia
 have wl:(wrote xs (lo+k) r).toList=xs.toList.take lo++((xs.toList.drop lo).take k++(r.toList++((xs.toList.drop (lo+n+c)).take (m-c)++xs.toList.drop (lo+n+m)))):=by rw[wk (by lia),Ms,k_,lr,<-La,uk hk];congr 3;have:=(Jw (m-c) (xs.toList.drop (lo+n+c))).symm;rw[LR,uk hc]at this;exact this
 have xl:xs.toList=xs.toList.take lo++((xs.toList.drop lo).take k++((xs.toList.drop (lo+k)).take (n-k)++(xs.toList.drop (lo+n)).take c++((xs.toList.drop (lo+n+c)).take (m-c)++xs.toList.drop (lo+n+m)))):=by have e1:=(Jw lo xs.toList).symm;have e2:=(Jw k (xs.toList.drop lo)).symm;have e3:=(Jw (n-k) (xs.toList.drop (lo+k))).symm;have e4:=(Jw c (xs.toList.drop (lo+n))).symm;have e5:=(Jw (m-c) (xs.toList.drop (lo+n+c))).symm;rw[LR]at e2 e3 e4 e5;rw[uk hk]at e3;rw[uk hc]at e5;rw[k_,<-e5,<-e4,<-e3,<-e2,<-e1]
 have sz:(wrote xs (lo+k) r).size=xs.size:=by have:=congrArg Mh wl;have h2:=congrArg Mh xl;have h3:=hr.1.length_eq;simp only[g_]at this h2 h3;have e1:=@h_ _ (wrote xs (lo+k) r);have e2:=@h_ _ xs;lia
 have X:(xs.toList.drop lo).take n=(xs.toList.drop lo).take k++(xs.toList.drop (lo+k)).take (n-k):=mG hk;have Y:(xs.toList.drop (lo+n)).take m=(xs.toList.drop (lo+n)).take c++(xs.toList.drop (lo+n+c)).take (m-c):=mG hc;have sX:=jv o1;have sY:=jv o2;rw[X]at sX;rw[Y]at sY;obtain⟨sx1,sx2,sx⟩:=C'.mp sX;obtain⟨sy1,sy2,sy⟩:=C'.mp sY;refine⟨KN.mpr ?_,fun i hi=>?_,AM (by lia) ?_⟩
 ·rw[wl]
  conv=>rhs;rw[xl]
  exact JS _ (JS _ (MT _ hr.1))
 ·rw[<-f_,<-f_,wl]
  conv=>rhs;rw[xl]
  have hl1:(xs.toList.take lo).length=lo:=by rw[G_,h_];lia
  rcases hi with hi|hi
  ·rw[KQ (by lia),KQ (by lia)]
  have hl2:((xs.toList.drop lo).take k).length=k:=by rw[G_,JL,h_];lia
  have hl3:r.toList.length=n-k+c:=by rw[h_];exact lr
  have hl4:=hr.1.length_eq;rw[<-k_,<-k_]
  conv=>rhs;rw[<-k_,<-k_]
  refine Bk ?_ ?_
  ·rw[g_,g_,g_,g_,hl4]
  rw[g_,g_,hl1,hl2,hl3];lia
 have hl1:(xs.toList.take lo).length=lo:=by rw[G_,h_];lia
 have e:((wrote xs (lo+k) r).toList.drop lo).take (n+m)=(xs.toList.drop lo).take k++(r.toList++(xs.toList.drop (lo+n+c)).take (m-c)):=by rw[wl,List.drop_left' hl1,<-k_,<-k_,List.take_left',k_];rw[g_,g_,G_,G_,JL,JL,h_,h_];lia
 rw[e];have mr:∀q∈r.toList,q∈(xs.toList.drop (lo+k)).take (n-k)\/q∈(xs.toList.drop (lo+n)).take c:=fun q hq=>A_.mp (hr.1.mem_iff.mp hq);refine C'.mpr ⟨sx1,C'.mpr ⟨hr.2,sy2,fun p hp q hq=>?_⟩,fun p hp q hq=>?_⟩
 ·rcases mr p hp with hp|hp
  ·exact a2 p (by rw[X];exact q_ _ hp) q hq
  exact sy p hp q hq
 rcases A_.mp hq with hq|hq
 ·rcases mr q hq with hq|hq
  ·exact sx p hp q hq
  exact a1 p hp q (by rw[Y];exact H_ _ hq)
 exact a1 p hp q (by rw[Y];exact q_ _ hq)
end
theorem CW{α:Type}{ps:Array α}{pre post:List α}{x y:α}(h:ps.toList=pre++x::y::post):ps[pre.length]?=some x/\ps[pre.length+1]?=some y:=by
 rw[<-f_,<-f_,h];constructor
 ·rw[Kh (b_ _),L_];rfl
 rw[Kh (by lia),LV];rfl
theorem zq{α:Type}{ps:Array α}{pre post:List α}{x y z:α}(h:ps.toList=pre++x::y::post):((ps.setIfInBounds pre.length z).eraseIdxIfInBounds (pre.length+1)).toList=pre++z::post:=by
 have hs:ps.size=pre.length+(post.length+2):=by rw[<-h_,h,g_];rfl
 have hb:pre.length+1<(ps.setIfInBounds pre.length z).size:=by rw[LJ];lia
 unfold Array.eraseIdxIfInBounds;rw[dif_pos hb,Array.toList_eraseIdx,Mt,h];rw[MZ _ _ (b_ _),L_,Nb,List.eraseIdx_append_of_length_le (by lia),LV]
 rfl
section
variable{M:P_}{A:OB}{E:N5->N9->Prop}{s:N9}{kd:Pa}{rk:N_->Nat}{S:N_->Prop}
theorem FI{σ:Type}{v st:σ}{Q:PUnit->σ->Prop}(q:Q ⟨⟩ v):wpS M A E s (set v:StateT σ Sem PUnit) Q st:=by unfold wpS;rw[StateT.run_set];exact Oa ⟨rfl,q⟩
structure Mgd (rk:N_->Nat) (st st':Oh) (lo n:Nat) (ps:List (Nat×Nat×Nat)):Prop where
 k:kindOf st'=kindOf st
 f:OU st'=none
 p:(Ow st').toList=ps
 a:(Ob st').Perm (Ob st)
 out:∀i,(i<lo\/lo+n<=i)->(Ob st')[i]?=(Ob st)[i]?
 srt:cp rk (Ob st') lo n
theorem F0{pre post:List (Nat×Nat×Nat)}{s1 n1 pw n2 p2:Nat}{Q:Bool->Oh->Prop}(L:cW M A E s kd rk S)(hk:kindOf st=kd)(hS:mW S st)(hf:OU st=none)(hr:∀x,Of M A (rule x) (fun _ s'=>s'=s) E s)
  (hp:(Ow st).toList=pre++(s1,n1,pw)::(s1+n1,n2,p2)::post) (h1:1<=n1) (h2:1<=n2) (hsz:s1+n1+n2<=(Ob st).size) (o1:cp rk (Ob st) s1 n1) (o2:cp rk (Ob st) (s1+n1) n2)
  (h:∀st',Mgd rk st st' s1 (n1+n2) (pre++(s1,n1+n2,pw)::post)->Q true st'):wpS M A E s (R' pre.length) Q st:=by
 rw[FK];refine Og (Qk ?_);dsimp only;obtain⟨e1,e2⟩:=CW hp;rw[e1,e2];dsimp only;refine Og (FI ?_);generalize hst1:PR (kindOf st) (Ob st) (((Ow st).setIfInBounds pre.length (s1,n1+n2,pw)).eraseIdxIfInBounds (pre.length+1)) (Rx st) (OU st)=st1;have k1:kindOf st1=kd:=by rw[<-hst1];exact hk
 have a1:Ob st1=Ob st:=by rw[<-hst1]
 have f1:OU st1=none:=by rw[<-hst1];exact hf
 have p1:(Ow st1).toList=pre++(s1,n1+n2,pw)::post:=by rw[<-hst1];exact zq hp
 have SA:∀(i:Nat) p,(Ob st)[i]?=some p->S p:=fun i p e=>hS.at e;have gt:∀i,i<(Ob st).size->∃p,(Ob st)[i]?=some p:=fun i hi=>⟨_,l_ hi⟩;have RR:∀{i:Nat}{p:N_},(Ob st)[i]?=some p->R rk (Ob st) i=rk p:=fun{i p} e=>by unfold R;rw[e]
 obtain⟨ky,hky⟩:=gt (s1+n1) (by lia);have o6:cp rk (Ob st) s1 (n1+n2)->Q true st1:=fun z=>h st1 ⟨k1.trans hk.symm,f1,p1,by rw[a1],fun i _=>by rw[a1],by rw[a1];exact z⟩
 refine Og (aV hky (Og (jy L k1 (by lia) (by lia) SA (SA _ _ hky) (fun i j p q hij hj hp hq=>?_) fun k hk1 g1 g2=>?_)))
 ·have:=o1 i j hij hj;rw[RR hp,RR hq]at this;exact this
 dsimp only;have below:∀i,i<k->∀j,j<n2->R rk (Ob st) (s1+i)<=R rk (Ob st) (s1+n1+j):=fun i hi j hj=>by obtain⟨p,hp⟩:=gt (s1+i) (by lia);have a:=g1 i p hi hp;rw[if_neg (by simp)]at a;have b:=o2 0 j (E_ _) hj;rw[LH,RR hky]at b;rw[RR hp];exact m_ a b
 by_cases z:n1-k=0
 ·rw[if_pos (by rw[z];rfl)];exact Om (o6 (vP o1 o2 fun i j hi hj=>below i (by lia) j hj))
 rw[if_neg (by simpa using z)];obtain⟨la,hla⟩:=gt (s1+n1-1) (by lia);rw[uk hk1];refine Og (aV hla (Og (jy L k1 (by lia) (by omega) SA (SA _ _ hla) (fun i j p q hij hj hp hq=>?_) fun c hc1 d1 d2=>?_)))
 ·have:=o2 i j hij hj;rw[RR hp,RR hq]at this;exact this
 dsimp only;have above:∀i,i<n1->∀j,c<=j->j<n2->R rk (Ob st) (s1+i)<=R rk (Ob st) (s1+n1+j):=fun i hi j hj hj2=>by
  obtain⟨p,hp⟩:=gt (s1+n1+j) (by lia);have a:=d2 j p hj hj2 hp;rw[if_pos rfl]at a;have hn1:1<=n1:=by lia
  have b:=o1 i (n1-1) (by lia) (Mx hn1 Lh);rw[zt hn1,RR hla]at b;rw[RR hp];exact m_ b a
 by_cases w:c=0
 ·rw[if_pos (by rw[w];rfl)];exact Om (o6 (vP o1 o2 fun i j hi hj=>above i hi j (by lia) hj))
 rw[if_neg (by simpa using w)];have ex:((Ob st).extract (s1+k) (s1+n1)).toList=((Ob st).toList.drop (s1+k)).take (n1-k):=by have:=mh (Ob st) (s1+k) (n1-k);rw[uk hk1]at this;exact this
 have ey:=mh (Ob st) (s1+n1) c;have zx:((Ob st).extract (s1+k) (s1+n1)).size=n1-k:=by rw[LK];lia
 have zy:((Ob st).extract (s1+n1) (s1+n1+c)).size=c:=by rw[LK];lia
 have T2:∀{i:Nat}{p:N_},(Ob st).toList[i]?=some p->(Ob st)[i]?=some p:=fun{i p} e=>by rw[f_]at e;exact e
 have sX:=jv o1;have sY:=jv o2;rw[mG hk1]at sX;rw[mG hc1]at sY;have H:LoOk rk S ((Ob st).extract (s1+k) (s1+n1)) ((Ob st).extract (s1+n1) (s1+n1+c)):=by
  refine⟨by rw[ex];exact(C'.mp sX).2.1,by rw[ey];exact(C'.mp sY).1,fun i p e=>?_,fun i p e=>?_,by lia,by lia,fun p e u hu=>?_,fun p e u hu=>?_⟩
  ·rw[Li]at e;split at e
   ·exact SA _ _ e
   cases e
  ·rw[Li]at e;split at e
   ·exact SA _ _ e
   cases e
  ·rw[Li,if_pos (by lia),LH,hky]at e;cases e;rw[ex]at hu;obtain⟨j,hj,ej⟩:=dJ hu;have:=g2 (k+j) u (by lia) (by lia) (by rw[<-La];exact T2 ej);rw[if_neg (by simp)]at this;exact Jy this
  rw[zx,Li,if_pos (by lia),show s1+k+(n1-k-1)=s1+n1-1 by lia,hla]at e;cases e;rw[ey]at hu;obtain⟨j,hj,ej⟩:=dJ hu;have:=d1 j u hj (T2 ej);rw[if_pos rfl]at this;exact Jy this
 have fin:∀r st2,Keep st1 st2->Res rk ((Ob st).extract (s1+k) (s1+n1)).toList ((Ob st).extract (s1+n1) (s1+n1+c)).toList r.toList->wpS M A E s (do
   modify fun z=>setArr z (wrote (Ob z) (s1+k) r)
   let g <-get
   pure (OU g).isNone:StateT Oh Sem Bool) Q st2:=fun r st2 K hres=>by
  rw[ex,ey]at hres;refine Og (QS (Og (Qk (Om ?_))));have hf2:OU st2=none:=K.f.trans f1;have aa:Ob st2=Ob st:=K.a.trans a1;have q1:∀p∈((Ob st).toList.drop s1).take k,∀q∈((Ob st).toList.drop (s1+n1)).take n2,rk p<=rk q:=fun p hp q hq=>by obtain⟨i,hi,ei⟩:=dJ hp;obtain⟨j,hj,ej⟩:=dJ hq;have:=below i hi j hj;rw[RR (T2 ei),RR (T2 ej)]at this;exact this
  have q2:∀p∈((Ob st).toList.drop s1).take n1,∀q∈((Ob st).toList.drop (s1+n1+c)).take (n2-c),rk p<=rk q:=fun p hp q hq=>by obtain⟨i,hi,ei⟩:=dJ hp;obtain⟨j,hj,ej⟩:=dJ hq;have:=above i hi (c+j) (by lia) (by lia);rw[<-La,RR (T2 ei),RR (T2 ej)]at this;exact this
  obtain⟨m1,m2,m3⟩:=Ge (rk:=rk) (xs:=Ob st) (r:=r) (lo:=s1) (k:=k) (n:=n1) (m:=n2) (c:=c) hk1 hc1 (by omega) o1 o2 q1 q2 hres;rw[show(OU (setArr st2 (wrote (Ob st2) (s1+k) r))).isNone=true by show(OU st2).isNone=true;rw[hf2];rfl];refine h _ ⟨K.k.trans (k1.trans hk.symm),hf2,?_,?_,fun i hi=>?_,?_⟩
  ·show(Ow st2).toList=_;rw[K.p];exact p1
  ·show(wrote (Ob st2) (s1+k) r).Perm _;rw[aa];exact m1
  ·show(wrote (Ob st2) (s1+k) r)[i]?=_;rw[aa];exact m2 i (by lia)
  show cp rk (wrote (Ob st2) (s1+k) r) _ _;rw[aa];exact m3
 by_cases v:n1-k<=c
 ·rw[if_pos v];exact Og (G1 L H k1 fin hr)
 rw[if_neg v];exact Og (GD L H k1 fin hr)
end
abbrev CS:=Option Unit×Unit
abbrev LS:=Option Unit×Nat
noncomputable def ox(w0:Nat):StateT Oh Sem (ForInStep CS):=do
 let g <-get
 match(if(Ow g).size > 1 then(Ow g)[(Ow g).size-2]? else none)with
 |some (_,_,old)=>
  if old<=w0 then pure (Oi (none,()))
  else do
   let b <-R' ((Ow g).size-2)
   if(!b)=true then pure (Oi (some (),()))else pure (Ox (none,()))
 | _=>pure (Oi (none,()))
noncomputable def tJ(q0 n:Nat):StateT Oh Sem (ForInStep LS):=do
 modify fun z=>setPending z ((Ow z).push (q0,n,0))
 pure (Ox (none,q0+n))
noncomputable def tl(sz q0 n:Nat):StateT Oh Sem (ForInStep LS):=do
 let g <-get
 match(Ow g).back? with
 |some (s1,n1,_)=>do
  let c <-forIn [0:sz] ((none,()):CS) fun _ _=>ox (power' sz (2*s1+n1) (2*s1+n1+n1+n) sz)
  match c.1 with
  |some r=>pure (Oi (some r,q0))
  |none=>do
   modify fun z=>setPending z ((Ow z).modify ((Ow z).size-1) fun x=>(x.1,x.2.1,power' sz (2*s1+n1) (2*s1+n1+n1+n) sz))
   tJ q0 n
 | _=>tJ q0 n
noncomputable def mB(sz q0:Nat):StateT Oh Sem (ForInStep LS):=
 if q0>=sz then pure (Oi (none,q0))else do
  let f <-TN q0 (sz-q0)
  match f with
  |some n=>
   if n<Sw sz sz 0 then do
    rule "list.sort.binary-insertion"
    let b <-UI q0 (min (sz-q0) (Sw sz sz 0)) n
    if(!b)=true then pure (Oi (some (),q0))else tl sz q0 (min (sz-q0) (Sw sz sz 0))
   else tl sz q0 n
  | _=>pure (Oi (some (),q0))
noncomputable def pick(ps:Array (Nat×Nat×Nat)):Nat:=
 if N3 (fun x=>decide (x<ps[ps.size-2+1]?.elim 0 fun y=>y.2.1)) (if ps.size-2 > 0 then N4 (fun y=>y.2.1) ps[ps.size-2-1]? else none)=true then ps.size-2-1 else ps.size-2
noncomputable def xu:StateT Oh Sem (ForInStep CS):=do
 let g <-get
 if(Ow g).size<=1 then pure (Oi (none,()))
 else do
  let b <-R' (pick (Ow g))
  if(!b)=true then pure (Oi (some (),()))else pure (Ox (none,()))
theorem HZ:sortRuns'=(do
 let g <-get
 let c <-forIn [0:(Ob g).size] ((none,0):LS) fun _ c=>mB (Ob g).size c.2
 match c.1 with
 |some r=>pure r
 |none=>do
  let d <-forIn [0:(Ob g).size] ((none,()):CS) fun _ _=>xu
  match d.1 with
  |some r=>pure r
  |none=>pure ()):=by
 rw[sortRuns'_eq];dsimp only;refine congrArg (bind get) (funext fun g=>?_);refine congr (congrArg bind ?_) (funext fun c=>?_)
 ·refine congrArg (forIn _ _) (funext fun _=>funext fun c=>?_);unfold mB;refine ite_congr rfl (fun _=>rfl) (fun _=>?_);refine congrArg (bind _) (funext fun f=>?_);cases f with
  |none=>rfl
  |some n=>
   dsimp only;refine ite_congr rfl (fun _=>congrArg (bind _) (funext fun _=>congrArg (bind _) (funext fun b=>ite_congr rfl (fun _=>rfl) (fun _=>?_)))) (fun _=>?_)
   all_goals
    unfold tl;refine congrArg (bind _) (funext fun g=>?_);generalize (Ow g).back?=bk;rcases bk with _|⟨s1,n1,z⟩
    ·rfl
    dsimp only;refine congr (congrArg bind ?_) (funext fun c=>?_)
    ·refine congrArg (forIn _ _) (funext fun _=>funext fun c=>?_);unfold ox;refine congrArg (bind _) (funext fun g=>?_);generalize (if(Ow g).size > 1 then(Ow g)[(Ow g).size-2]? else none)=o;rcases o with _|⟨_,_,_⟩ <;> rfl
    rcases c with⟨_ | _,_⟩ <;> rfl
 rcases c with⟨_ | _,_⟩
 ·dsimp only;refine congr (congrArg bind ?_) (funext fun c=>?_)
  ·rfl
  rcases c with⟨_ | _,_⟩ <;> rfl
 rfl
noncomputable def Pd(rk:N_->Nat)(xs:Array N_):List (Nat×Nat×Nat)->Nat->Nat->Prop
 | [],a,b=>a=b
 | (c,n,_)::t,a,b=>c=a/\1<=n/\cp rk xs c n/\Pd rk xs t (a+n) b
section
variable{rk:N_->Nat}
theorem Pd.le :∀{l:List (Nat×Nat×Nat)}{a b:Nat},Pd rk xs l a b->a+l.length<=b
 | [],_,_,h=>Mz h
 | (c,n,_)::t,a,b,h=>by have:=h.2.2.2.le;have:=h.2.1;rw[d_];lia
theorem Pd.congr :∀{l:List (Nat×Nat×Nat)}{a b:Nat},Pd rk xs l a b->(∀i,a<=i->i<b->R rk ys i=R rk xs i)->Pd rk ys l a b
 | [],_,_,h,_=>h
 | (c,n,_)::t,a,b,h,e=>by have le:=h.2.2.2.le;have ca:=h.1;refine⟨h.1,h.2.1,fun i j hij hj=>?_,h.2.2.2.congr fun i h1 h2=>e i (by lia) h2⟩;rw[e _ (by lia) (by lia),e _ (by lia) (by lia)];exact h.2.2.1 i j hij hj
theorem fR{xs:Array N_}:∀{l m:List (Nat×Nat×Nat)}{a b:Nat},Pd rk xs (l++m) a b↔∃c,Pd rk xs l a c/\Pd rk xs m c b
 | [],m,a,b=>⟨fun h=>⟨a,rfl,h⟩,fun⟨c,e,h⟩=>by cases (show a=c from e);exact h⟩
 | (c,n,_)::t,m,a,b=>⟨fun h=>by obtain⟨d,h1,h2⟩:=fR.mp h.2.2.2;exact⟨d,⟨h.1,h.2.1,h.2.2.1,h1⟩,h2⟩,fun⟨d,h,h2⟩=>⟨h.1,h.2.1,h.2.2.1,fR.mpr ⟨d,h.2.2.2,h2⟩⟩⟩
theorem Pd.modify {w0:Nat}:∀{l:List (Nat×Nat×Nat)}{i a b:Nat},Pd rk xs l a b->Pd rk xs (l.modify i fun x=>(x.1,x.2.1,w0)) a b
 | [],i,_,_,h=>by cases i <;> exact h
 | (c,n,_)::t,0,a,b,h=>⟨h.1,h.2.1,h.2.2.1,h.2.2.2⟩
 | (c,n,_)::t,i+1,a,b,h=>⟨h.1,h.2.1,h.2.2.1,h.2.2.2.modify⟩
theorem ug{α:Type}:∀{l:List α}{i:Nat},i+1<l.length->∃pre x y post,l=pre++x::y::post/\pre.length=i
 |x::y::t,0,_=>⟨[],x,y,t,rfl,rfl⟩
 | [_],0,h=>absurd h (by simp)
 |x::t,i+1,h=>by obtain⟨p,a,b,q,e,f⟩:=ug (l:=t) (i:=i) (by rw[d_]at h;lia);exact⟨x::p,a,b,q,by rw[e];rfl,by rw[d_,f]⟩
 | [],_,h=>absurd h (by simp)
end
section
variable{M:P_}{A:OB}{E:N5->N9->Prop}{s:N9}{kd:Pa}{rk:N_->Nat}{S:N_->Prop}{a0:Array N_}
structure Iv (kd:Pa) (rk:N_->Nat) (a0:Array N_) (q0:Nat) (st:Oh):Prop where
 k:kindOf st=kd
 f:OU st=none
 a:(Ob st).Perm a0
 pd:Pd rk (Ob st) (Ow st).toList 0 q0
theorem Iv.all (h:Iv kd rk a0 q0 st)(hS:∀p∈a0.toList,S p):mW S st:=fun p hp=>hS p ((KN.mp h.a).mem_iff.mp hp)
theorem v5{Q:Bool->Oh->Prop}(L:cW M A E s kd rk S)(hS:∀p∈a0.toList,S p)(hr:∀x,Of M A (rule x) (fun _ s'=>s'=s) E s)(I:Iv kd rk a0 q0 st)(hq:q0<=a0.size)(hi:i+1<(Ow st).size)
  (h:∀st',Iv kd rk a0 q0 st'->(Ow st').size+1=(Ow st).size->(∀j,q0<=j->(Ob st')[j]?=(Ob st)[j]?)->Q true st'):wpS M A E s (R' i) Q st:=by
 obtain⟨pre,⟨s1,n1,pw⟩,⟨s2,n2,p2⟩,post,e,el⟩:=ug (l:=(Ow st).toList) (i:=i) (by rw[h_];exact hi);subst el;have P:=I.pd;rw[e]at P;obtain⟨c,P1,e1,k1,o1,e2,k2,o2,P3⟩:=fR.mp P;subst e1;subst e2;have le:=P3.le;have sz:=I.a.size_eq;refine F0 L I.k (I.all hS) I.f hr e k1 k2 (by lia) o1 o2 fun st' m=>?_
 have same:∀j,(j<s1\/s1+n1+n2<=j)->R rk (Ob st') j=R rk (Ob st) j:=fun j hj=>dZ (m.out j (by lia))
 refine h st' ⟨m.k.trans I.k,m.f,m.a.trans I.a,?_⟩ ?_ fun j hj=>m.out j (by lia)
 ·rw[m.p];refine fR.mpr ⟨s1,P1.congr fun j _ hj=>same j (by lia),rfl,by lia,m.srt,?_⟩;rw[<-La];exact P3.congr fun j hj _=>same j (by lia)
 rw[<-h_,<-h_,m.p,e];simp only[g_,d_];lia
theorem xn{w0:Nat}{Q:ForInStep CS->Oh->Prop}(L:cW M A E s kd rk S)(hS:∀p∈a0.toList,S p)(hr:∀x,Of M A (rule x) (fun _ s'=>s'=s) E s)(I:Iv kd rk a0 q0 st)(hq:q0<=a0.size)
  (h:∀st' (d:Bool),Iv kd rk a0 q0 st'->(∀j,q0<=j->(Ob st')[j]?=(Ob st)[j]?)->Q (if d=true then Oi (none,())else Ox (none,())) st'):wpS M A E s (ox w0) Q st:=by
 unfold ox;refine Og (Qk ?_);generalize ho:(if(Ow st).size > 1 then(Ow st)[(Ow st).size-2]? else none)=o;rcases o with _|⟨x,y,old⟩
 ·exact Om (h st true I fun _ _=>rfl)
 dsimp only;have h1:(Ow st).size > 1:=by
  by_cases z:(Ow st).size > 1
  ·exact z
  rw[if_neg z]at ho;cases ho
 by_cases w:old<=w0
 ·rw[if_pos w];exact Om (h st true I fun _ _=>rfl)
 rw[if_neg w];refine Og (v5 L hS hr I hq (by lia) fun st' I' _ e=>?_);rw[if_neg (by simp)];exact Om (h st' false I' e)
theorem qW{Q:ForInStep LS->Oh->Prop}(I:Iv kd rk a0 q0 st)(hn:1<=n)(o:cp rk (Ob st) q0 n)(h:∀st',Iv kd rk a0 (q0+n) st'->Q (Ox (none,q0+n)) st'):wpS M A E s (tJ q0 n) Q st:=by unfold tJ;refine Og (QS (Om (h _ ⟨I.k,I.f,I.a,?_⟩)));show Pd rk (Ob st) ((Ow st).push (q0,n,0)).toList 0 (q0+n);rw[KO];exact fR.mpr ⟨q0,I.pd,rfl,hn,o,rfl⟩
theorem EI{Q:ForInStep LS->Oh->Prop}(L:cW M A E s kd rk S)(hS:∀p∈a0.toList,S p)(hr:∀x,Of M A (rule x) (fun _ s'=>s'=s) E s)(I:Iv kd rk a0 q0 st)(hq:q0<=a0.size)(hn:1<=n)(o:cp rk (Ob st) q0 n)
  (h:∀st',Iv kd rk a0 (q0+n) st'->Q (Ox (none,q0+n)) st'):wpS M A E s (tl a0.size q0 n) Q st:=by
 unfold tl;refine Og (Qk ?_);generalize (Ow st).back?=bk;rcases bk with _|⟨s1,n1,z⟩
 ·exact qW I hn o h
 dsimp only;generalize power' a0.size (2*s1+n1) (2*s1+n1+n1+n) a0.size=w0;refine Og (O7 (OP (I:=fun _ c st'=>c=(none,())/\Iv kd rk a0 q0 st'/\∀j,q0<=j->(Ob st')[j]?=(Ob st)[j]?) (Q:=fun c st'=>c=(none,())/\Iv kd rk a0 q0 st'/\∀j,q0<=j->(Ob st')[j]?=(Ob st)[j]?) ?_ (fun _ _ z=>z) ⟨rfl,I,fun _ _=>rfl⟩) ?_)
 ·rintro x c st1 _ _ ⟨rfl,I1,e1⟩;refine xn L hS hr I1 hq fun st2 d I2 e2=>?_;cases d
  ·exact⟨rfl,I2,fun j hj=>(e2 j hj).trans (e1 j hj)⟩
  exact⟨rfl,I2,fun j hj=>(e2 j hj).trans (e1 j hj)⟩
 rintro c st1 ⟨rfl,I1,e1⟩;dsimp only;refine Og (QS ?_);refine qW ⟨I1.k,I1.f,I1.a,?_⟩ hn (fun i j hij hj=>?_) h
 ·show Pd rk (Ob st1) ((Ow st1).modify ((Ow st1).size-1) fun x=>(x.1,x.2.1,w0)).toList 0 q0;rw[Array.toList_modify];exact I1.pd.modify
 show R rk (Ob st1) (q0+i)<=R rk (Ob st1) (q0+j);rw[dZ (rk:=rk) (e1 (q0+i) (by lia)),dZ (rk:=rk) (e1 (q0+j) (by lia))];exact o i j hij hj
theorem Iv.within (I:Iv kd rk a0 q0 st)(W:Within st st' q0 n):Iv kd rk a0 q0 st':=⟨W.kp.k.trans I.k,W.kp.f.trans I.f,W.kp.a.trans I.a,by rw[W.kp.p];exact I.pd.congr fun i _ hi=>dZ (W.out i (.inl hi))⟩
theorem vn{Q:ForInStep LS->Oh->Prop}(L:cW M A E s kd rk S)(hS:∀p∈a0.toList,S p)(hr:∀x,Of M A (rule x) (fun _ s'=>s'=s) E s)(I:Iv kd rk a0 q0 st)(hq:q0<=a0.size)
  (h1:q0=a0.size->Q (Oi (none,q0)) st) (h2:∀n st',1<=n->q0+n<=a0.size->Iv kd rk a0 (q0+n) st'->Q (Ox (none,q0+n)) st'):wpS M A E s (mB a0.size q0) Q st:=by
 unfold mB;by_cases z:q0>=a0.size
 ·rw[if_pos z];exact Om (h1 (by lia))
 rw[if_neg z];have qz:=Jy (MB z);have sz:=I.a.size_eq;refine Og (vB L I.k (I.all hS) (by lia) (by lia) hr fun n st1 g1 g2 W1 o1=>?_);dsimp only;have I1:=I.within W1;by_cases w:n<Sw a0.size a0.size 0
 ·rw[if_pos w];generalize Sw a0.size a0.size 0=mr at w ⊢;refine Og (Ry (OG (hr _) (fun _ _ z=>⟨z,?_⟩) fun _ _ z=>z));have sz1:=I1.a.size_eq;have f1:n<=min (a0.size-q0) mr:=Nat.le_min.mpr ⟨g2,Jy w⟩;have f4:q0+min (a0.size-q0) mr<=a0.size:=m_ (Kx (Nat.min_le_left ..) q0) (Mz (Lz qz));have f5:=m_ g1 f1;generalize min (a0.size-q0) mr=fr at f1 f4 f5 ⊢;refine Og (Dm L I1.k (I1.all hS) (by rw[sz1];exact f4) f1 o1 fun st2 W2 o2=>?_);rw[if_neg (by simp)];exact EI L hS hr (I1.within W2) hq f5 o2 fun st3 I3=>h2 _ st3 f5 f4 I3
 rw[if_neg w];exact EI L hS hr I1 hq g1 o1 fun st3 I3=>h2 _ st3 g1 (by lia) I3
theorem D8{ps:Array (Nat×Nat×Nat)}(h:1<ps.size):pick ps+1<ps.size:=by
 unfold pick;generalize N3 (fun x=>decide (x<ps[ps.size-2+1]?.elim 0 fun y=>y.2.1)) (if ps.size-2 > 0 then N4 (fun y=>y.2.1) ps[ps.size-2-1]? else none)=b;cases b
 ·rw[if_neg (by simp)];lia
 rw[if_pos rfl];lia
theorem vN{Q:Unit->Oh->Prop}(L:cW M A E s kd rk S)(hS:∀p∈(Ob st).toList,S p)(hr:∀x,Of M A (rule x) (fun _ s'=>s'=s) E s)(hk:kindOf st=kd)(hf:OU st=none)(hp:Ow st=#[])
  (h:∀st',(Ob st').Perm (Ob st)->OU st'=none->Srt rk (Ob st').toList->Q () st'):wpS M A E s sortRuns' Q st:=by
 rw[HZ];refine Og (Qk ?_);have I0:Iv kd rk (Ob st) 0 st:=⟨hk,hf,MP _,by rw[hp];exact rfl⟩;revert I0 hS h;generalize Ob st=a0;intro hS h I0;refine Og (O7 (OP (I:=fun x c st'=>∃q0,c=(none,q0)/\x<=q0/\q0<=a0.size/\Iv kd rk a0 q0 st') (Q:=fun c st'=>c=(none,a0.size)/\Iv kd rk a0 a0.size st') ?_ ?_ ⟨0,rfl,b_ _,E_ _,I0⟩) ?_)
 ·rintro x c st1 _ _ ⟨q0,rfl,g1,g2,I⟩;exact vn L hS hr I g2 (fun e=>by subst e;exact⟨rfl,I⟩) fun n st2 k1 k2 I2=>⟨q0+n,rfl,by lia,k2,I2⟩
 ·rintro c st1 ⟨q0,rfl,g1,g2,I⟩;have e:q0=a0.size:=by lia
  subst e;exact⟨rfl,I⟩
 rintro c st1 ⟨rfl,I1⟩;dsimp only;refine Og (O7 (OP (I:=fun x c st'=>c=(none,())/\Iv kd rk a0 a0.size st'/\((Ow st').size<=1\/(Ow st').size+x<=a0.size)) (Q:=fun c st'=>c=(none,())/\Iv kd rk a0 a0.size st'/\(Ow st').size<=1) ?_ ?_ ⟨rfl,I1,.inr ?_⟩) ?_)
 ·rintro x c st2 _ _ ⟨rfl,I2,g⟩;unfold xu;refine Og (Qk ?_);by_cases z:(Ow st2).size<=1
  ·rw[if_pos z];exact Om ⟨rfl,I2,z⟩
  rw[if_neg z];refine Og (v5 L hS hr I2 (b_ _) (D8 (by lia)) fun st3 I3 e _=>?_);rw[if_neg (by simp)];exact Om ⟨rfl,I3,.inr (by lia)⟩
 ·rintro c st2 ⟨rfl,I2,g⟩;exact⟨rfl,I2,by lia⟩
 ·have:=I1.pd.le;rw[h_]at this;lia
 rintro c st2 ⟨rfl,I2,g⟩;refine Om (h st2 I2.a I2.f ?_);have P:=I2.pd;have sz:=I2.a.size_eq;have lp:(Ow st2).toList.length<=1:=by rw[h_];exact g
 have o:cp rk (Ob st2) 0 a0.size:=by
  generalize (Ow st2).toList=l at P lp
  match l,P,lp with
  | [],P,_=>
   have e:0=a0.size:=P;intro i j _ hj;lia
  | [(c,n,_)],P,_=>
   obtain⟨e1,_,o,e2⟩:=P;have e2:0+n=a0.size:=e2;subst e1;rw[<-e2,Kq];exact o
  | _::_::_,_,lp=>simp at lp
 have:=jv o;rw[LU,Kd (by rw[h_];lia)]at this;exact this
end
section
variable{κ:Type}{lt:κ->κ->Bool}
def rnk(lt:κ->κ->Bool)(ks:List κ)(k:κ):Nat:=ks.countP fun y=>lt y k
theorem count_le{p q:κ->Bool}:∀{l:List κ},(∀x∈l,p x=true->q x=true)->l.countP p<=l.countP q
 | [],_=>b_ _
 |x::t,h=>by
  have ih:=count_le (l:=t) fun y hy=>h y (.tail _ hy);have hx:=h x (.head _);rw[L7,L7];cases e:p x
  ·rw[if_neg (by simp)];lia
  rw[hx e,if_pos rfl];lia
theorem uu{p q:κ->Bool}:∀{l:List κ}{z:κ},(∀x∈l,p x=true->q x=true)->z∈l->p z=false->q z=true->l.countP p<l.countP q
 |x::t,z,h,hz,h1,h2=>by
  have ih:=count_le (l:=t) fun y hy=>h y (.tail _ hy);have hx:=h x (.head _);rw[L7,L7];rcases o_.mp hz with e|e
  ·subst e;rw[h1,h2,if_neg (by simp),if_pos rfl];lia
  have:=uu (l:=t) (fun y hy=>h y (.tail _ hy)) e h1 h2;cases e:p x
  ·rw[if_neg (by simp)];lia
  rw[hx e,if_pos rfl];lia
structure Tot (lt:κ->κ->Bool):Prop where
 irr:∀a,lt a a=false
 tr:∀a b c,lt a b=true->lt b c=true->lt a c=true
 tot:∀a b,lt a b=false->lt b a=false->a=b
theorem Gw(T:Tot lt){ks:List κ}{a b:κ}(h:lt b a=false):rnk lt ks a<=rnk lt ks b:=by
 refine count_le fun y _ hy=>?_;cases e:lt a b
 ·rw[<-T.tot a b e h];exact hy
 exact T.tr _ _ _ hy e
theorem u6(T:Tot lt){ks:List κ}{a b:κ}(ha:a∈ks)(h:lt a b=true):rnk lt ks a<rnk lt ks b:=uu (fun y _ hy=>T.tr _ _ _ hy h) ha (T.irr a) h
theorem xR(T:Tot lt){ks:List κ}{a b:κ}(ha:a∈ks):decide (rnk lt ks a<rnk lt ks b)=lt a b:=by
 cases e:lt a b
 ·exact decide_eq_false (My.mpr (Gw T e))
 exact decide_eq_true (u6 T ha e)
end
noncomputable def ltL:List Int->List Int->Bool
 | _,[]=>false
 | [],_::_=>true
 |a::x,b::y=>if a=b then ltL x y else decide (a<b)
theorem xN:∀x,ltL x x=false
 | []=>rfl
 |a::x=>by rw[ltL,if_pos rfl];exact xN x
theorem Ca:∀a b c,ltL a b=true->ltL b c=true->ltL a c=true
 | _,[],_,h,_=>by simp[ltL]at h
 | _,_::_,[],_,h=>by simp[ltL]at h
 | [],_::_,_::_,_,_=>rfl
 |a::x,b::y,c::z,h,g=>by
  rw[ltL]at h g ⊢;by_cases e1:a=b
  ·subst e1;rw[if_pos rfl]at h;by_cases e2:a=c
   ·subst e2;rw[if_pos rfl]at g ⊢;exact Ca x y z h g
   rw[if_neg e2]at g ⊢;exact g
  rw[if_neg e1]at h;have h:=of_decide_eq_true h;by_cases e2:b=c
  ·subst e2;rw[if_neg e1];exact decide_eq_true h
  rw[if_neg e2]at g;have g:=of_decide_eq_true g;rw[if_neg (by lia)];exact decide_eq_true (by lia)
theorem yI:∀a b,ltL a b=false->ltL b a=false->a=b
 | [],[],_,_=>rfl
 | [],_::_,h,_=>by simp[ltL]at h
 | _::_,[],_,h=>by simp[ltL]at h
 |a::x,b::y,h,g=>by
  rw[ltL]at h g;by_cases e:a=b
  ·subst e;rw[if_pos rfl]at h g;rw[yI x y h g]
  rw[if_neg e]at h;rw[if_neg (fun z=>e z.symm)]at g;have h:=of_decide_eq_false h;have g:=of_decide_eq_false g;lia
theorem uw:Tot ltL:=⟨xN,Ca,yI⟩
def fH:N5->Int
 | .int i _=>i
 | _=>0
noncomputable def iV(h:Ou):N5->List Int
 | .ref a=>match h.get? a with
  |some o=>match o.data with
   | .seq xs _=>xs.toList.map fH
   | _=>[]
  |none=>[]
 | _=>[]
def AllInt(l:List N5):Prop:=∀v∈l,∃i t,v=.int i t
noncomputable def E2(h:Ou)(v:N5):Prop:=∃a o xs n,v=.ref a/\h.get? a=some o/\o.cls=.type "tuple"/\o.data=.seq xs n/\AllInt xs.toList/\0<xs.size
theorem tj{h:Ou}{a:N8}{o:Obj}{xs:Array N5}(e:h.get? a=some o)(d:o.data=.seq xs n):iV h (.ref a)=xs.toList.map fH:=by unfold iV;dsimp only;rw[e];dsimp only;rw[d]
variable {S:N_->Prop}{rk:N_->Nat}{vs:List N5}
section
variable{prog:Oj}{w:Ot}{A:OB}{E:N5->N9->Prop}{s:N9}
theorem xT{Q:Bool->N9->Prop}{fin:Bool}:∀(xs ys:List N5) (i:Nat),AllInt xs->AllInt ys->fin=decide (xs.length<ys.length)->Q (ltL (xs.map fH) (ys.map fH)) s->PySem.W.KatLex prog w A true fin Q (xs.zip ys) i s
 | [],[],i,_,_,e,q=>by subst e;exact RJ q
 | [],b::y,i,_,_,e,q=>by subst e;exact RJ q
 |a::x,[],i,_,_,e,q=>by subst e;exact RJ q
 |a::x,b::y,i,ha,hb,e,q=>by
  obtain⟨n,t,rfl⟩:=ha a (.head _);obtain⟨m,u,rfl⟩:=hb b (.head _);rw[f',f',ltL]at q;refine PySem.W.kat_cons (SM ?_);by_cases z:n=m
  ·have q:Q (ltL (x.map fH) (y.map fH)) s:=by rw[if_pos (show fH (.int n t)=fH (.int m u)from z)]at q;exact q
   rw[show(n == m)=true by simpa using z];refine PySem.W.kat_yes (xT x y (i+1) (fun v hv=>ha v (.tail _ hv)) (fun v hv=>hb v (.tail _ hv)) ?_ q);rw[e,d_,d_];exact decide_eq_decide.mpr (by lia)
  have q:Q (decide (n<m)) s:=by rw[if_neg (show ¬fH (.int n t)=fH (.int m u)from z)]at q;exact q
  rw[show(n == m)=false by simpa using z];refine PySem.W.kat_no ?_;cases (true&&i == 0)
  ·exact PySem.W.kat_one _ _ (lt_int q)
  exact oneLt_int q
theorem uF{h0:Ou}{ks:List (List Int)}(hS:∀x,S x->E2 h0 x.1/\iV h0 x.1∈ks)(hk:∀b o,h0.get? b=some o->(∃x n,o.cls=.type "tuple"/\o.data=.seq x n)->s.heap.get? b=some o) :
  cW (Oq prog w) A E s (TB true) (fun x=>rnk ltL ks (iV h0 x.1)) S:=by
 intro x y st Q sx sy kd q;obtain⟨⟨a,oa,xs,na,ea,ga,ca,da,ia,_⟩,ma⟩:=hS x sx;obtain⟨⟨b,ob,ys,nb,eb,gb,cb,db,ib,_⟩,mb⟩:=hS y sy;rw[lt'_eq];refine Og (Qk ?_);rw[kd,ea,eb];refine Og (Ry (PN (PySem.W.kat_lt (hk _ _ ga ⟨_,_,ca,da⟩) da (hk _ _ gb ⟨_,_,cb,db⟩) db (xT _ _ 0 ia ib (by rw[h_,h_]) ⟨rfl,?_⟩))));refine Om ?_;dsimp only at q;rw[xR uw ma,ea,eb,tj ga da,tj gb db]at q;exact q
theorem vo{M:P_}{h0:Ou}{Q:Pa->N9->Prop}(hv:∀v∈vs,E2 h0 v)(hk:∀b o,h0.get? b=some o->(∃x n,o.cls=.type "tuple"/\o.data=.seq x n)->s.heap.get? b=some o)(hne:vs≠[])(q:Q (TB true) s):Of M A (RA vs.toArray) Q E s:=by
 have mk:∀(l:List N5),(∀v∈l,E2 h0 v)->∃fs,PySem.W.KatTups s.heap l fs/\AllInt fs/\fs.length=l.length:=by
  intro l;induction l with
  |nil=>exact fun _=>⟨[],U0,fun v hv=>(nomatch hv),rfl⟩
  |cons v r ih=>
   intro hl;obtain⟨fs,k1,k2,k3⟩:=ih fun v hv=>hl v (.tail _ hv);obtain⟨a,o,xs,n,rfl,g,c,d,i,z⟩:=hl v (.head _);obtain⟨f,hf⟩:∃f,xs[0]?=some f:=⟨_,l_ z⟩;refine⟨f::fs,US (hk _ _ g ⟨_,_,c,d⟩) c d hf k1,fun v hv=>?_,by rw[d_,d_,k3]⟩;rcases o_.mp hv with e|e
   ·subst e;rw[<-f_]at hf;exact i _ (F' hf)
   exact k2 v e
 obtain⟨fs,k1,k2,k3⟩:=mk vs hv;refine PySem.W.kat_kind (T:=.type "int") k1 ?_ (fun v hv=>?_) rfl q
 ·rw[k3];exact M9.mpr hne
 obtain⟨i,t,rfl⟩:=k2 v hv;exact .now
theorem qq(vs:List N5):(vs.toArray.zip vs.toArray).toList=vs.map fun v=>(v,v):=by
 rw[Array.toList_zip];induction vs with
 |nil=>rfl
 |cons v r ih=>exact congrArg ((v,v)::·) ih
theorem rQ{a:N8}{kd:Pa}{P:PySem.Fin->N9->Prop}(ho:s.heap.get? a=some (OZ "list" vs.toArray n))(hz:vs.length<=sizeLine)(hS:∀v∈vs,S (v,v))
  (kind:∀h',(∀b o,b≠a->s.heap.get? b=some o->h'.get? b=some o)->∀{Q:Pa->N9->Prop},vs≠[]->Q kd {s with heap:=h'}->Of (Oq prog w) A (RA vs.toArray) Q E {s with heap:=h'})
  (lt:∀h',(∀b o,b≠a->s.heap.get? b=some o->h'.get? b=some o)->cW (Oq prog w) A E {s with heap:=h'} kd rk S)
  (h:∀(o:List N5) c h',o.Perm vs->o.Pairwise (fun x y=>rk (x,x)<=rk (y,y))->(∀b u,b≠a->s.heap.get? b=some u->h'.get? b=some u)->h'.get? a=some (OZ "list" o.toArray c)->P (.done (.ret .none)) {s with heap:=h'}) :
  Of (Oq prog w) A (Qj.«list.sort» ⟨[.ref a],[]⟩) P E s:=by
 rw[list_sort_plain];have ha:a<s.heap.objs.size:=Ol ho;refine N6 (listItems_at ho rfl ?_);refine N6 (T8 ho rfl ?_ (by rw[p_];exact hz) (E_ _));obtain⟨e1,ho1⟩:∃e1,(s.heap.update a (O0 fun _=>(#[]:Array N5))).get? a=some (OZ "list" #[] e1):=⟨_,Tj ho fun _=>#[]⟩;refine N6 (UJ ho1 rfl ?_);refine N6 (Tu ?_ hz);refine N6 (QI ?_ (E_ _));refine OH ?_;have k2:∀b u,(s.heap.update a (O0 fun _=>(#[]:Array N5))).get? b=some u->(((s.heap.update a (O0 fun _=>(#[]:Array N5))).push (OZ "tuple" vs.toArray 0)).push (OZ "list" #[] 0)).get? b=some u:=fun b u e=>Oe _ (Oe _ e);have k3:∀b u,b≠a->s.heap.get? b=some u->(((s.heap.update a (O0 fun _=>(#[]:Array N5))).push (OZ "tuple" vs.toArray 0)).push (OZ "list" #[] 0)).get? b=some u:=fun b u hb e=>k2 b u (by rw[QX _ _ _ _ hb];exact e)
 have ho6:=k2 _ _ ho1;show Of (Oq prog w) A _ P E {s with heap:=((s.heap.update a (O0 fun _=>(#[]:Array N5))).push (OZ "tuple" vs.toArray 0)).push (OZ "list" #[] 0) };generalize ((s.heap.update a (O0 fun _=>(#[]:Array N5))).push (OZ "tuple" vs.toArray 0)).push (OZ "list" #[] 0)=h1 at k3 ho6 ⊢;dsimp only;have fin:∀st':Oh,(Ob st').Perm (vs.toArray.zip vs.toArray)->Srt rk (Ob st').toList->OU st'=none->Of (Oq prog w) A (do
   let touched:=(<-seqEpoch a) != e1
   Uu (.ref a) fun _=>(Ob st').map (·.2)
   if let some e:=OU st' then rule "list.sort.comparison-raised";throw e
   if touched then rule "list.sort.modified";raiseError "ValueError" "list modified during sort"
   ret .none) P E {s with heap:=h1}:=fun st' hp hs hf=>by
  have lp:(Ob st').toList.Perm (vs.map fun v=>(v,v)):=by have:=KN.mp hp;rw[qq]at this;exact this
  have op:((Ob st').toList.map (·.2)).Perm vs:=by have:=lp.map (·.2);rw[F_,show((fun x:N_=>x.2) ∘ fun v:N5=>(v,v))=id from rfl,Nk]at this;exact this
  have tw:∀p∈(Ob st').toList,p=(p.2,p.2):=fun p hp=>by obtain⟨v,_,e⟩:=t_.mp (lp.mem_iff.mp hp);rw[<-e]
  have osr:((Ob st').toList.map (·.2)).Pairwise (fun x y=>rk (x,x)<=rk (y,y)):=by rw[JX];refine Kr (fun{p q} hp hq hr=>?_) hs;rw[<-tw p hp,<-tw q hq];exact hr
  have os:((Ob st').map (·.2)).size<=sizeLine+1:=by rw[<-h_,Nt,op.length_eq];lia
  refine N6 (UJ ho6 rfl ?_);refine N6 (T8 ho6 rfl ?_ (E_ _) os);rw[hf];simp only[bne_self_eq_false,Jv,if_false];obtain⟨c,hc⟩:∃c,(h1.update a (O0 fun _=>(Ob st').map (·.2))).get? a=some (OZ "list" ((Ob st').toList.map (·.2)).toArray c):=by have:=Tj ho6 fun _=>(Ob st').map (·.2);rw[show((Ob st').toList.map (·.2)).toArray=(Ob st').map (·.2) by rw[<-Nt]];exact⟨_,this⟩
  refine Oa (h _ c _ op osr (fun b u hb e=>?_) hc);rw[QX _ _ _ _ hb];exact k3 b u hb e
 by_cases h2:vs.toArray.size<2
 ·rw[if_pos h2,if_pos h2];refine N6 (Oa ?_);rw[StateT.run_pure];refine N6 (Oa ?_);refine fin (PR general' (vs.toArray.zip vs.toArray) #[] 7 none) (MP _) ?_ rfl;show Srt rk (vs.toArray.zip vs.toArray).toList;rw[qq];have h3:vs.length<2:=h2;clear fin h lt kind hS ho
  match vs,h3 with
  | [],_=>exact .nil
  | [v],_=>exact MM _ _
  | _::_::_,h3=>exact absurd h3 (by rw[d_,d_];lia)
 rw[if_neg h2,if_neg h2];refine N6 (kind h1 k3 (fun z=>by rw[z]at h2;simp at h2) ?_);refine N6 (OG (vN (st:=PR kd (vs.toArray.zip vs.toArray) #[] 7 none) (Q:=fun _ st'=>(Ob st').Perm (vs.toArray.zip vs.toArray)/\OU st'=none/\Srt rk (Ob st').toList) (lt h1 k3) (fun p hp=>?_) (fun x=>Rm rfl) rfl rfl rfl fun st' a1 a2 a3=>⟨a1,a2,a3⟩) ?_ fun _ _ e=>e)
 ·rw[show(Ob (PR kd (vs.toArray.zip vs.toArray) #[] 7 none))=vs.toArray.zip vs.toArray from rfl,qq]at hp;obtain⟨v,hv,e⟩:=t_.mp hp;rw[<-e];exact hS v hv
 rintro⟨⟨⟩,st'⟩ s' ⟨rfl,hp,hf,hs⟩;exact fin st' hp hs hf
theorem oT{l:N8}{kd:Pa}{Q:N5->N9->Prop}(hl:s.heap.IsList l vs.toArray)(hz:vs.length<=sizeLine)(hS:∀v∈vs,S (v,v))
  (kind:∀h',(∀b o,s.heap.get? b=some o->h'.get? b=some o)->∀{Q:Pa->N9->Prop}{E:N5->N9->Prop},vs≠[]->Q kd {s with heap:=h'}->Of (Oq prog w) A.in1.in1 (RA vs.toArray) Q E {s with heap:=h'})
  (lt:∀h' E,(∀b o,s.heap.get? b=some o->h'.get? b=some o)->cW (Oq prog w) A.in1.in1 E {s with heap:=h'} kd rk S)
  (h:∀(o:List N5) a c h',o.Perm vs->o.Pairwise (fun x y=>rk (x,x)<=rk (y,y))->s.heap.objs.size<=a->(∀b u,s.heap.get? b=some u->h'.get? b=some u)->h'.get? a=some (OZ "list" o.toArray c)->Q (.ref a) {s with heap:=h'}) :
  Of (Oq prog w) A (call (.builtin "sorted") [.ref l]) Q E s:=by
 refine Qm UK Ul Um (Uo _) ?_;unfold Qj.«sorted»;refine N6 (m:=checkCount "sorted" 1 1 _) (Oa ?_);refine N6 (collect_list hl ?_ hz);refine N6 (QI ?_ hz);have hsz:((s.heap.push (OZ "list" #[] 0)).update s.heap.objs.size (O0 (·++vs.toArray))).objs.size=s.heap.objs.size+1:=by rw[Heap.size_update,size_push']
 have hoL:(((s.heap.push (OZ "list" #[] 0)).update s.heap.objs.size (O0 (·++vs.toArray))).push (OZ "list" vs.toArray 0)).get? (s.heap.objs.size+1)=some (OZ "list" vs.toArray 0):=by rw[<-hsz];exact Oo _ rfl
 have keep:∀b o,s.heap.get? b=some o->(((s.heap.push (OZ "list" #[] 0)).update s.heap.objs.size (O0 (·++vs.toArray))).push (OZ "list" vs.toArray 0)).get? b=some o:=fun b o q=>by have hlt:b<s.heap.objs.size:=Ol q;rw[SE _ _ _ (by rw[hsz];exact w_ (Ln hlt)),QX _ _ _ _ (w_ hlt),SE _ _ _ (w_ hlt)];exact q
 show Of _ _ _ _ _ {s with heap:=((s.heap.push (OZ "list" #[] 0)).update s.heap.objs.size (O0 (·++vs.toArray))).push (OZ "list" vs.toArray 0) };rw[hsz];generalize ((s.heap.push (OZ "list" #[] 0)).update s.heap.objs.size (O0 (·++vs.toArray))).push (OZ "list" vs.toArray 0)=h1 at hoL keep ⊢;have ne:∀b o,s.heap.get? b=some o->b≠s.heap.objs.size+1:=fun b o e=>w_ (Ln (Ol e));refine N6 (OH (O6 TC ⟨_,hoL,rfl⟩ Tn ?body (TF _)))
 case body=>
  refine rQ (s:={s with heap:=h1}) (kd:=kd) (rk:=rk) (S:=S) hoL hz hS (fun h' k {Q} hne q=>kind h' (fun b o e=>k b o (ne b o e) (keep b o e)) hne q) (fun h' k=>lt h' _ fun b o e=>k b o (ne b o e) (keep b o e)) fun o c h' g1 g2 g3 g4=>?_;exact⟨_,rfl,Oa ⟨_,rfl,h o _ c h' g1 g2 (NX _) (fun b u e=>g3 b u (ne b u e) (keep b u e)) g4⟩⟩
end
end ZS
namespace PL
open PySem L2
inductive T where
 |any|hole (w:V)|bare|kp (G:Hp)
 |non|bl (b:Bool)|int (i:Int)|str (x:Str)|ty (n:String)
 |tup (ts:List T)|cst (ts:List T)
 |lst (o:Bool) (ts:List T)
 |dK (o:Bool) (kvs:List (Key×T))
 |dT (o:Bool) (kvs:List (List Key×T))
mutual
def er:T->T
 | .tup ts=>.tup (erL ts)
 | .cst ts=>.cst (erL ts)
 | .lst _ ts=>.lst false (erL ts)
 | .dK _ kvs=>.dK false (erK kvs)
 | .dT _ kvs=>.dT false (erT kvs)
 | .bare=>.any
 |t=>t
def erL:List T->List T
 | []=>[]
 |t::r=>er t::erL r
def erK:List (Key×T)->List (Key×T)
 | []=>[]
 | (k,t)::r=>(k,er t)::erK r
def erT:List (List Key×T)->List (List Key×T)
 | []=>[]
 | (k,t)::r=>(k,er t)::erT r
end
mutual
def aS:T->Bool
 | .tup ts=>bB ts
 | .cst ts=>bB ts
 | .lst o ts=>!o&&bB ts
 | .dK o kvs=>!o&&t6 kvs
 | .dT o kvs=>!o&&nh kvs
 | .bare=>false
 | _=>true
def bB:List T->Bool
 | []=>true
 |t::r=>aS t&&bB r
def t6:List (Key×T)->Bool
 | []=>true
 | (_,t)::r=>aS t&&t6 r
def nh:List (List Key×T)->Bool
 | []=>true
 | (_,t)::r=>aS t&&nh r
end
mutual
def bC:T->Bool
 | .tup ts=>cq ts
 | .cst ts=>cq ts
 | .lst o ts=>o&&cq ts
 | .dK o kvs=>o&&qg kvs
 | .dT o kvs=>o&&nR kvs
 | .kp _=>false
 | _=>true
def cq:List T->Bool
 | []=>true
 |t::r=>bC t&&cq r
def qg:List (Key×T)->Bool
 | []=>true
 | (_,t)::r=>bC t&&qg r
def nR:List (List Key×T)->Bool
 | []=>true
 | (_,t)::r=>bC t&&nR r
end
theorem cv{α:Type}(g:α->T):∀l:List α,erL (l.map g)=l.map fun x=>er (g x)
 | []=>rfl
 |x::r=>by rw[f',erL,cv g r,f']
theorem qw:∀l:List T,erL l=l.map er
 | []=>rfl
 |x::r=>by rw[erL,qw r,f']
theorem sE(l:List T):(erL l).length=l.length:=by rw[qw,a_]
theorem gQ(l m:List T):erL (l++m)=erL l++erL m:=by rw[qw,qw,qw,v_]
theorem pC:∀l:List T,bB l=l.all aS
 | []=>rfl
 |x::r=>by rw[bB,pC r,Mq]
theorem r6:∀l:List T,cq l=l.all bC
 | []=>rfl
 |x::r=>by rw[cq,r6 r,Mq]
mutual
theorem bf:∀t:T,aS (er t)=true
 | .tup ts=>by rw[er,aS,jJ ts]
 | .cst ts=>by rw[er,aS,jJ ts]
 | .lst _ ts=>by rw[er,aS,jJ ts];rfl
 | .dK _ ts=>by rw[er,aS,rS ts];rfl
 | .dT _ ts=>by rw[er,aS,rJ ts];rfl
 | .bare=>rfl
 | .any=>rfl
 | .hole _=>rfl
 | .kp _=>rfl
 | .non=>rfl
 | .bl _=>rfl
 | .int _=>rfl
 | .str _=>rfl
 | .ty _=>rfl
theorem jJ:∀t:List T,bB (erL t)=true
 | []=>rfl
 |t::r=>by rw[erL,bB,bf t,jJ r];rfl
theorem rS:∀t:List (Key×T),t6 (erK t)=true
 | []=>rfl
 | (_,t)::r=>by rw[erK,t6,bf t,rS r];rfl
theorem rJ:∀t:List (List Key×T),nh (erT t)=true
 | []=>rfl
 | (_,t)::r=>by rw[erT,nh,bf t,rJ r];rfl
end
def Gr(G H:Hp):Prop:=∀b u,Rd G b u->Rd H b u
variable {H:Hp}
theorem Gr.bW :Gr H H:=fun _ _ h=>h
variable {G:Hp}
theorem Gr.trans {J:Hp}(a:Gr G H)(b:Gr H J):Gr G J:=fun c u h=>b c u (a c u h)
theorem Gr.of (h:bH G H):Gr G H:=fun b u r=>by
 rcases r with r|⟨o,r⟩
 ·exact .inl (h _ _ r)
 exact .inr ⟨o,h _ _ r⟩
theorem Rd.some {H:Hp}{a:N8}{u:HO}(h:Rd H a u):∃w,H a=some w:=by
 rcases h with h|⟨o,h⟩
 ·exact⟨_,h⟩
 exact⟨_,h⟩
theorem Gr.none {G H:Hp}(h:Gr G H){a:N8}(e:H a=none):G a=none:=by
 cases q:G a with
 |none=>rfl
 |some u=>
  obtain⟨w,z⟩:=Rd.some (h a u (.inl q));rw[e]at z;cases z
def TK(H H':Hp):Prop:=∀b xs,H b=some (.tup xs)->H' b=some (.tup xs)
theorem bH.tk (h:bH G H):TK G H:=fun b xs r=>h _ _ r
variable {H':Hp}{a:N8}
theorem Put.tk {o:HO}(p:Put H a o H')(ht:∀xs,H a≠some (.tup xs)):TK H H':=fun b xs r=>by have hb:b≠a:=fun z=>ht xs (z▸r);rw[p.else_ b hb];exact r
section
variable(K:N7)(Hz H:Hp)
mutual
inductive RepT:T->V->List N8->Prop
 |any {v:V}:RepT .any v []
 |hole {w:V}:RepT (.hole w) w []
 |bare {a:N8}{u:HO} (h:H a=some u) (ht:∀xs,H a≠some (.tup xs)):RepT .bare (.ref a) [a]
 |kp {G:Hp}{v:V} (h:Gr G Hz):RepT (.kp G) v []
 |non:RepT .non .non []
 |bl {b:Bool}:RepT (.bl b) (.bl b) []
 |int {i:Int}:RepT (.int i) (.int i) []
 |str {x:Str}:RepT (.str x) (.str x) []
 |ty {n:String}:RepT (.ty n) (.ty n) []
 |tup {a:N8}{ts:List T}{vs:List V}{L:List N8} (h:H a=some (.tup vs)) (c:RepTs ts vs L):RepT (.tup ts) (.ref a) L
 |cst {a:N8}{ts:List T}{vs:List V} (h:SqT K (fun _=>none) a vs) (c:RepTs ts vs []):RepT (.cst ts) (.ref a) []
 |lstO {a:N8}{ts:List T}{vs:List V}{L:List N8} (h:H a=some (.lst vs)) (c:RepTs ts vs L):RepT (.lst true ts) (.ref a) (a::L)
 |lstZ {a:N8}{ts:List T}{vs:List V} (h:Rd Hz a (.lst vs)) (c:RepTs ts vs []):RepT (.lst false ts) (.ref a) []
 |dKO {a:N8}{ts:List (Key×T)}{vs:List (Key×V)}{L:List N8} (h:H a=some (.dK vs)) (c:RepKs ts vs L):RepT (.dK true ts) (.ref a) (a::L)
 |dKZ {a:N8}{ts:List (Key×T)}{vs:List (Key×V)} (h:Rd Hz a (.dK vs)) (c:RepKs ts vs []):RepT (.dK false ts) (.ref a) []
 |dTO {a:N8}{ts:List (List Key×T)}{vs:List (List Key×V)}{L:List N8} (h:H a=some (.dT vs)) (c:RepXs ts vs L):RepT (.dT true ts) (.ref a) (a::L)
 |dTZ {a:N8}{ts:List (List Key×T)}{vs:List (List Key×V)} (h:Rd Hz a (.dT vs)) (c:RepXs ts vs []):RepT (.dT false ts) (.ref a) []
inductive RepTs:List T->List V->List N8->Prop
 |nil:RepTs [] [] []
 |cons {t:T}{v:V}{L M N:List N8}{ts:List T}{vs:List V} (e:N=L++M) (h:RepT t v L) (c:RepTs ts vs M):RepTs (t::ts) (v::vs) N
inductive RepKs:List (Key×T)->List (Key×V)->List N8->Prop
 |nil:RepKs [] [] []
 |cons {k:Key}{t:T}{v:V}{L M N:List N8}{ts:List (Key×T)}{vs:List (Key×V)} (e:N=L++M) (h:RepT t v L) (c:RepKs ts vs M):RepKs ((k,t)::ts) ((k,v)::vs) N
inductive RepXs:List (List Key×T)->List (List Key×V)->List N8->Prop
 |nil:RepXs [] [] []
 |cons {k:List Key}{t:T}{v:V}{L M N:List N8}{ts:List (List Key×T)}{vs:List (List Key×V)} (e:N=L++M) (h:RepT t v L) (c:RepXs ts vs M):RepXs ((k,t)::ts) ((k,v)::vs) N
end
end
variable {Hz Hz' Z:Hp}{L M:List N8}{p:N8}{t:T}{ts:List T}{v:V}{vs xs:List V}{x:Option V}{α:Type}
section
variable{K:N7}
theorem jx{P:T->V->List N8->Prop}{Ps:List T->List V->List N8->Prop}{Pk:List (Key×T)->List (Key×V)->List N8->Prop}{Px:List (List Key×T)->List (List Key×V)->List N8->Prop}
  (c1:∀{v},P .any v []) (c2:∀{w},P (.hole w) w []) (c3:∀{a u},H a=some u->(∀xs,H a≠some (.tup xs))->P .bare (.ref a) [a]) (c4:∀{G v},Gr G Hz->P (.kp G) v [])
  (c5:P .non .non []) (c6:∀{b},P (.bl b) (.bl b) []) (c7:∀{i},P (.int i) (.int i) []) (c8:∀{x},P (.str x) (.str x) []) (c9:∀{n},P (.ty n) (.ty n) [])
  (c10:∀{a ts vs L},H a=some (.tup vs)->Ps ts vs L->P (.tup ts) (.ref a) L) (c11:∀{a ts vs},SqT K (fun _=>none) a vs->Ps ts vs []->P (.cst ts) (.ref a) [])
  (c12:∀{a ts vs L},H a=some (.lst vs)->Ps ts vs L->P (.lst true ts) (.ref a) (a::L)) (c13:∀{a ts vs},Rd Hz a (.lst vs)->Ps ts vs []->P (.lst false ts) (.ref a) [])
  (c14:∀{a ts vs L},H a=some (.dK vs)->Pk ts vs L->P (.dK true ts) (.ref a) (a::L)) (c15:∀{a ts vs},Rd Hz a (.dK vs)->Pk ts vs []->P (.dK false ts) (.ref a) [])
  (c16:∀{a ts vs L},H a=some (.dT vs)->Px ts vs L->P (.dT true ts) (.ref a) (a::L)) (c17:∀{a ts vs},Rd Hz a (.dT vs)->Px ts vs []->P (.dT false ts) (.ref a) [])
  (s0:Ps [] [] []) (s1:∀{t v L M ts vs},P t v L->Ps ts vs M->Ps (t::ts) (v::vs) (L++M))
  (k0:Pk [] [] []) (k1:∀{k t v L M ts vs},P t v L->Pk ts vs M->Pk ((k,t)::ts) ((k,v)::vs) (L++M))
  (x0:Px [] [] []) (x1:∀{k t v L M ts vs},P t v L->Px ts vs M->Px ((k,t)::ts) ((k,v)::vs) (L++M)) :
  (∀{t v L},RepT K Hz H t v L->P t v L)/\(∀{t v L},RepTs K Hz H t v L->Ps t v L)/\(∀{t v L},RepKs K Hz H t v L->Pk t v L)/\(∀{t v L},RepXs K Hz H t v L->Px t v L):=by
 have m1:∀{t v L},RepT K Hz H t v L->P t v L:=fun h=>RepT.rec (motive_1:=fun t v L _=>P t v L) (motive_2:=fun t v L _=>Ps t v L) (motive_3:=fun t v L _=>Pk t v L) (motive_4:=fun t v L _=>Px t v L)
  c1 c2 c3 c4 c5 c6 c7 c8 c9 (fun h _ i=>c10 h i) (fun h _ i=>c11 h i) (fun h _ i=>c12 h i) (fun h _ i=>c13 h i) (fun h _ i=>c14 h i) (fun h _ i=>c15 h i) (fun h _ i=>c16 h i) (fun h _ i=>c17 h i)
  s0 (fun e _ _ i j=>e▸s1 i j) k0 (fun e _ _ i j=>e▸k1 i j) x0 (fun e _ _ i j=>e▸x1 i j) h
 refine⟨m1,fun h=>?_,fun h=>?_,fun h=>?_⟩
 ·exact RepTs.rec (motive_1:=fun t v L _=>True) (motive_2:=fun t v L _=>Ps t v L) (motive_3:=fun t v L _=>True) (motive_4:=fun t v L _=>True)
   trivial trivial (fun _ _=>trivial) (fun _=>trivial) trivial trivial trivial trivial trivial (fun _ _ _=>trivial) (fun _ _ _=>trivial) (fun _ _ _=>trivial) (fun _ _ _=>trivial) (fun _ _ _=>trivial) (fun _ _ _=>trivial) (fun _ _ _=>trivial) (fun _ _ _=>trivial)
   s0 (fun e h _ _ j=>e▸s1 (m1 h) j) trivial (fun _ _ _ _ _=>trivial) trivial (fun _ _ _ _ _=>trivial) h
 ·exact RepKs.rec (motive_1:=fun t v L _=>True) (motive_2:=fun t v L _=>True) (motive_3:=fun t v L _=>Pk t v L) (motive_4:=fun t v L _=>True)
   trivial trivial (fun _ _=>trivial) (fun _=>trivial) trivial trivial trivial trivial trivial (fun _ _ _=>trivial) (fun _ _ _=>trivial) (fun _ _ _=>trivial) (fun _ _ _=>trivial) (fun _ _ _=>trivial) (fun _ _ _=>trivial) (fun _ _ _=>trivial) (fun _ _ _=>trivial)
   trivial (fun _ _ _ _ _=>trivial) k0 (fun e h _ _ j=>e▸k1 (m1 h) j) trivial (fun _ _ _ _ _=>trivial) h
 exact RepXs.rec (motive_1:=fun t v L _=>True) (motive_2:=fun t v L _=>True) (motive_3:=fun t v L _=>True) (motive_4:=fun t v L _=>Px t v L)
  trivial trivial (fun _ _=>trivial) (fun _=>trivial) trivial trivial trivial trivial trivial (fun _ _ _=>trivial) (fun _ _ _=>trivial) (fun _ _ _=>trivial) (fun _ _ _=>trivial) (fun _ _ _=>trivial) (fun _ _ _=>trivial) (fun _ _ _=>trivial) (fun _ _ _=>trivial)
  trivial (fun _ _ _ _ _=>trivial) trivial (fun _ _ _ _ _=>trivial) x0 (fun e h _ _ j=>e▸x1 (m1 h) j) h
noncomputable def Kps(H H':Hp)(L:List N8):Prop:=∀a∈L,∀u,H a=some u->H' a=some u/\((∀xs,H a≠some (.tup xs))->∀xs,H' a≠some (.tup xs))
theorem Kps.hd (h:Kps H H' (a::L)){u:HO}(e:H a=some u):H' a=some u/\((∀xs,H a≠some (.tup xs))->∀xs,H' a≠some (.tup xs)):=h _ n_ _ e
theorem Kps.tl (h:Kps H H' (a::L)):Kps H H' L:=fun a m=>h a (j_ _ m)
theorem Kps.l (h:Kps H H' (L++M)):Kps H H' L:=fun a m=>h a (H_ _ m)
theorem Kps.r (h:Kps H H' (L++M)):Kps H H' M:=fun a m=>h a (q_ _ m)
theorem AN(ht:TK H H')(hz:Gr Hz Hz'):(∀{t v L},RepT K Hz H t v L->Kps H H' L->RepT K Hz' H' t v L)/\(∀{t v L},RepTs K Hz H t v L->Kps H H' L->RepTs K Hz' H' t v L)/\(∀{t v L},RepKs K Hz H t v L->Kps H H' L->RepKs K Hz' H' t v L)/\(∀{t v L},RepXs K Hz H t v L->Kps H H' L->RepXs K Hz' H' t v L):=
 jx (P:=fun t v L=>Kps H H' L->RepT K Hz' H' t v L) (Ps:=fun t v L=>Kps H H' L->RepTs K Hz' H' t v L) (Pk:=fun t v L=>Kps H H' L->RepKs K Hz' H' t v L) (Px:=fun t v L=>Kps H H' L->RepXs K Hz' H' t v L)
  (fun _=>.any) (fun _=>.hole) (fun h t o=>.bare (o.hd h).1 ((o.hd h).2 t)) (fun h _=>.kp (h.trans hz)) (fun _=>.non) (fun _=>.bl) (fun _=>.int) (fun _=>.str) (fun _=>.ty)
  (fun h c o=>.tup (ht _ _ h) (c o)) (fun h c o=>.cst h (c o)) (fun h c o=>.lstO (o.hd h).1 (c o.tl)) (fun h c o=>.lstZ (hz _ _ h) (c o)) (fun h c o=>.dKO (o.hd h).1 (c o.tl)) (fun h c o=>.dKZ (hz _ _ h) (c o)) (fun h c o=>.dTO (o.hd h).1 (c o.tl)) (fun h c o=>.dTZ (hz _ _ h) (c o))
  (fun _=>.nil) (fun i j o=>.cons rfl (i o.l) (j o.r)) (fun _=>.nil) (fun i j o=>.cons rfl (i o.l) (j o.r)) (fun _=>.nil) (fun i j o=>.cons rfl (i o.l) (j o.r))
theorem RepT.move (ht:TK H H')(hz:Gr Hz Hz')(o:Kps H H' L)(h:RepT K Hz H t v L):RepT K Hz' H' t v L:=(AN ht hz).1 h o
def Thr(H:Hp)(L:List N8):Prop:=∀a∈L,(∃u,H a=some u)/\∀xs,H a≠some (.tup xs)
theorem Thr.nil :Thr H []:=fun a m=>nomatch m
theorem Thr.cons {H:Hp}{a:N8}{u:HO}{L:List N8}(h:H a=some u)(t:∀xs,H a≠some (.tup xs))(c:Thr H L):Thr H (a::L):=fun b m=>by
 rcases o_.mp m with rfl|m
 ·exact⟨⟨_,h⟩,t⟩
 exact c b m
theorem Thr.app (c:Thr H L)(d:Thr H M):Thr H (L++M):=fun b m=>(A_.mp m).elim (c b) (d b)
theorem zL:(∀{t v L},RepT K Hz H t v L->Thr H L)/\(∀{t v L},RepTs K Hz H t v L->Thr H L)/\(∀{t v L},RepKs K Hz H t v L->Thr H L)/\(∀{t v L},RepXs K Hz H t v L->Thr H L):=
 jx (P:=fun t v L=>Thr H L) (Ps:=fun t v L=>Thr H L) (Pk:=fun t v L=>Thr H L) (Px:=fun t v L=>Thr H L)
  .nil .nil (fun h t=>.cons h t .nil) (fun _=>.nil) .nil .nil .nil .nil .nil (fun _ c=>c) (fun _ c=>c) (fun h c=>.cons h (fun xs r=>by rw[h]at r;cases r) c) (fun _ c=>c) (fun h c=>.cons h (fun xs r=>by rw[h]at r;cases r) c) (fun _ c=>c) (fun h c=>.cons h (fun xs r=>by rw[h]at r;cases r) c) (fun _ c=>c)
  .nil (fun c d=>c.app d) .nil (fun c d=>c.app d) .nil (fun c d=>c.app d)
theorem RepT.there (h:RepT K Hz H t v L):Thr H L:=zL.1 h
def Fzn(H Z:Hp)(L:List N8):Prop:=∀a∈L,Z a=H a
theorem Fzn.hd (h:Fzn H Z (a::L)){u:HO}(e:H a=some u):Rd Z a u:=.inl (by rw[h _ n_];exact e)
theorem Fzn.tl (h:Fzn H Z (a::L)):Fzn H Z L:=fun a m=>h a (j_ _ m)
theorem Fzn.l (h:Fzn H Z (L++M)):Fzn H Z L:=fun a m=>h a (H_ _ m)
theorem Fzn.r (h:Fzn H Z (L++M)):Fzn H Z M:=fun a m=>h a (q_ _ m)
theorem Dz(hz:Gr Hz Z):(∀{t v L},RepT K Hz H t v L->Fzn H Z L->RepT K Z H (er t) v [])/\(∀{t v L},RepTs K Hz H t v L->Fzn H Z L->RepTs K Z H (erL t) v [])/\(∀{t v L},RepKs K Hz H t v L->Fzn H Z L->RepKs K Z H (erK t) v [])/\(∀{t v L},RepXs K Hz H t v L->Fzn H Z L->RepXs K Z H (erT t) v []):=
 jx (P:=fun t v L=>Fzn H Z L->RepT K Z H (er t) v []) (Ps:=fun t v L=>Fzn H Z L->RepTs K Z H (erL t) v []) (Pk:=fun t v L=>Fzn H Z L->RepKs K Z H (erK t) v []) (Px:=fun t v L=>Fzn H Z L->RepXs K Z H (erT t) v [])
  (fun _=>.any) (fun _=>.hole) (fun _ _ _=>.any) (fun h _=>.kp (h.trans hz)) (fun _=>.non) (fun _=>.bl) (fun _=>.int) (fun _=>.str) (fun _=>.ty)
  (fun h c o=>.tup h (c o)) (fun h c o=>.cst h (c o)) (fun h c o=>.lstZ (o.hd h) (c o.tl)) (fun h c o=>.lstZ (hz _ _ h) (c o)) (fun h c o=>.dKZ (o.hd h) (c o.tl)) (fun h c o=>.dKZ (hz _ _ h) (c o)) (fun h c o=>.dTZ (o.hd h) (c o.tl)) (fun h c o=>.dTZ (hz _ _ h) (c o))
  (fun _=>.nil) (fun i j o=>.cons rfl (i o.l) (j o.r)) (fun _=>.nil) (fun i j o=>.cons rfl (i o.l) (j o.r)) (fun _=>.nil) (fun i j o=>.cons rfl (i o.l) (j o.r))
theorem RepT.frz (hz:Gr Hz Z)(o:Fzn H Z L)(h:RepT K Hz H t v L):RepT K Z H (er t) v []:=(Dz hz).1 h o
theorem DN:(∀{t v L},RepT K Hz H t v L->aS t=true->L=[])/\(∀{t v L},RepTs K Hz H t v L->bB t=true->L=[])/\(∀{t v L},RepKs K Hz H t v L->True)/\(∀{t v L},RepXs K Hz H t v L->True):=
 jx (P:=fun t v L=>aS t=true->L=[]) (Ps:=fun t v L=>bB t=true->L=[]) (Pk:=fun t v L=>True) (Px:=fun t v L=>True)
  (fun _=>rfl) (fun _=>rfl) (fun _ _ n=>nomatch n) (fun _ _=>rfl) (fun _=>rfl) (fun _=>rfl) (fun _=>rfl) (fun _=>rfl) (fun _=>rfl)
  (fun _ c n=>c (by rw[aS]at n;exact n)) (fun _ _ _=>rfl) (fun _ _ n=>nomatch n) (fun _ _ _=>rfl) (fun _ _ n=>nomatch n) (fun _ _ _=>rfl) (fun _ _ n=>nomatch n) (fun _ _ _=>rfl)
  (fun _=>rfl) (fun i j n=>by
   rw[bB,JD]at n;rw[i n.1,j n.2]
   rfl) trivial (fun _ _=>trivial) trivial (fun _ _=>trivial)
theorem RepT.nil_of (n:aS t=true)(h:RepT K Hz H t v L):L=[]:=DN.1 h n
theorem AH(ht:TK H H'):(∀{t v L},RepT K Hz H t v L->bC t=true->Kps H H' L->RepT K Z H' t v L)/\(∀{t v L},RepTs K Hz H t v L->cq t=true->Kps H H' L->RepTs K Z H' t v L)/\(∀{t v L},RepKs K Hz H t v L->qg t=true->Kps H H' L->RepKs K Z H' t v L)/\(∀{t v L},RepXs K Hz H t v L->nR t=true->Kps H H' L->RepXs K Z H' t v L):=
 jx (P:=fun t v L=>bC t=true->Kps H H' L->RepT K Z H' t v L) (Ps:=fun t v L=>cq t=true->Kps H H' L->RepTs K Z H' t v L) (Pk:=fun t v L=>qg t=true->Kps H H' L->RepKs K Z H' t v L) (Px:=fun t v L=>nR t=true->Kps H H' L->RepXs K Z H' t v L)
  (fun _ _=>.any) (fun _ _=>.hole) (fun h t _ o=>.bare (o.hd h).1 ((o.hd h).2 t)) (fun _ n=>nomatch n) (fun _ _=>.non) (fun _ _=>.bl) (fun _ _=>.int) (fun _ _=>.str) (fun _ _=>.ty)
  (fun h c n o=>.tup (ht _ _ h) (c (by rw[bC]at n;exact n) o)) (fun h c n o=>.cst h (c (by rw[bC]at n;exact n) o)) (fun h c n o=>.lstO (o.hd h).1 (c (by rw[bC,JI]at n;exact n) o.tl)) (fun _ _ n=>nomatch n) (fun h c n o=>.dKO (o.hd h).1 (c (by rw[bC,JI]at n;exact n) o.tl)) (fun _ _ n=>nomatch n) (fun h c n o=>.dTO (o.hd h).1 (c (by rw[bC,JI]at n;exact n) o.tl)) (fun _ _ n=>nomatch n)
  (fun _ _=>.nil) (fun i j n o=>.cons rfl (i (by rw[cq,JD]at n;exact n.1) o.l) (j (by rw[cq,JD]at n;exact n.2) o.r)) (fun _ _=>.nil) (fun i j n o=>.cons rfl (i (by rw[qg,JD]at n;exact n.1) o.l) (j (by rw[qg,JD]at n;exact n.2) o.r)) (fun _ _=>.nil) (fun i j n o=>.cons rfl (i (by rw[nR,JD]at n;exact n.1) o.l) (j (by rw[nR,JD]at n;exact n.2) o.r))
theorem RepT.Jk (ht:TK H H')(n:bC t=true)(o:Kps H H' L)(h:RepT K Hz H t v L):RepT K Z H' t v L:=(AH ht).1 h n o
abbrev Ev:=List T
abbrev Fm:=List (T×Option V)
noncomputable def qK(K:N7)(Hz H:Hp)(t:T)(x:Option V)(L:List N8):Prop:=(t=.any/\L=[])\/∃v,x=some v/\RepT K Hz H t v L
inductive RepL (K:N7) (Hz H:Hp):Fm->List N8->Prop
 |nil:RepL K Hz H [] []
 |cons {t:T}{x:Option V}{L M N:List N8}{r:Fm} (e:N=L++M) (h:qK K Hz H t x L) (c:RepL K Hz H r M):RepL K Hz H ((t,x)::r) N
def Rp(K:N7)(H:Hp)(Γ:Fm):Prop:=∃Hz L,RepL K Hz H Γ L/\L.Nodup/\Gr Hz H/\∀b∈L,Hz b=none
theorem qK.move (ht:TK H H')(hz:Gr Hz Hz')(ho:∀a∈L,∀u,H a=some u->H' a=some u/\((∀xs,H a≠some (.tup xs))->∀xs,H' a≠some (.tup xs)))(h:qK K Hz H t x L):qK K Hz' H' t x L:=by
 rcases h with⟨rfl,rfl⟩|⟨v,rfl,h⟩
 ·exact .inl ⟨rfl,rfl⟩
 exact .inr ⟨v,rfl,h.move ht hz ho⟩
theorem qK.there (h:qK K Hz H t x L):∀a∈L,(∃u,H a=some u)/\∀xs,H a≠some (.tup xs):=by
 rcases h with⟨rfl,rfl⟩|⟨v,rfl,h⟩
 ·intro a m;cases m
 exact h.there
theorem RepL.move (ht:TK H H')(hz:Gr Hz Hz'):∀{Γ:Fm}{L:List N8},(∀a∈L,∀u,H a=some u->H' a=some u/\((∀xs,H a≠some (.tup xs))->∀xs,H' a≠some (.tup xs)))->RepL K Hz H Γ L->RepL K Hz' H' Γ L:=by
 intro Γ L ho x;induction x with
 |nil=>exact .nil
 |cons e h c ih=>exact .cons e (h.move ht hz fun a m=>ho a (by rw[e];exact H_ _ m)) (ih fun a m=>ho a (by rw[e];exact q_ _ m))
theorem RepL.there :∀{Γ:Fm}{L:List N8},RepL K Hz H Γ L->∀a∈L,(∃u,H a=some u)/\∀xs,H a≠some (.tup xs):=by
 intro Γ L x;induction x with
 |nil=>intro a m;cases m
 |cons e h c ih=>
  intro a m;rw[e]at m;rcases A_.mp m with m|m
  ·exact h.there a m
  exact ih a m
theorem RepL.app :∀{Γ Δ:Fm}{L M:List N8},RepL K Hz H Γ L->RepL K Hz H Δ M->RepL K Hz H (Γ++Δ) (L++M):=by
 intro Γ Δ L M x d;induction x with
 |nil=>exact d
 |cons e h c ih=>exact .cons (by rw[e,k_]) h ih
theorem RepL.split :∀{Γ Δ:Fm}{N:List N8},RepL K Hz H (Γ++Δ) N->∃L M,N=L++M/\RepL K Hz H Γ L/\RepL K Hz H Δ M
 | [],_,N,h=>⟨[],N,rfl,.nil,h⟩
 | (t,x)::r,_,N,.cons e h c=>by obtain⟨L,M,rfl,h1,h2⟩:=c.split;exact⟨_,M,by rw[e,k_],.cons rfl h h1,h2⟩
theorem RepL.perm {Γ Δ:Fm}(p:Γ.Perm Δ):∀{L:List N8},RepL K Hz H Γ L->∃M,L.Perm M/\RepL K Hz H Δ M:=by
 induction p with
 |nil=>intro L h;exact⟨L,.refl _,h⟩
 |cons x q ih=>
  intro L h;cases h with
  |cons e h c=>
   obtain⟨M,p1,h1⟩:=ih c;exact⟨_,by rw[e];exact p1.append_left _,.cons rfl h h1⟩
 |swap x y l=>
  intro L h;cases h with
  |cons e h c=>
   cases c with
   |cons e' h' c'=>
    refine⟨_,?_,.cons rfl h' (.cons rfl h c')⟩;rw[e,e',<-k_,<-k_];exact Km.append_right _
 |trans p q ih1 ih2=>
  intro L h;obtain⟨M,p1,h1⟩:=ih1 h;obtain⟨N,p2,h2⟩:=ih2 h1;exact⟨N,p1.trans p2,h2⟩
theorem Rp.perm {Γ Δ:Fm}(h:Rp K H Γ)(p:Γ.Perm Δ):Rp K H Δ:=by obtain⟨Hz,L,h,nd,g,d⟩:=h;obtain⟨M,q,h'⟩:=h.perm p;exact⟨Hz,M,h',q.nodup_iff.mp nd,g,fun b m=>d b (q.mem_iff.mpr m)⟩
theorem Rp.part {Γ Δ:Fm}(h:Rp K H (Γ++Δ)):Rp K H Δ:=by obtain⟨Hz,L,h,nd,g,d⟩:=h;obtain⟨L1,L2,rfl,_,h2⟩:=h.split;exact⟨Hz,L2,h2,(KP.mp nd).2.1,g,fun b m=>d b (q_ _ m)⟩
theorem Rp.tail {x:T×Option V}{Γ:Fm}(h:Rp K H (x::Γ)):Rp K H Γ:=Rp.part (Γ:=[x]) h
theorem jz(s:bH H H')(a:N8)(u:HO)(e:H a=some u):H' a=some u/\((∀xs,H a≠some (.tup xs))->∀xs,H' a≠some (.tup xs)):=
 ⟨s _ _ e,fun n xs r=>n xs (by rw[s _ _ e]at r;exact e.trans r)⟩
theorem Rp.same {Γ:Fm}(h:Rp K H Γ)(s:bH H H'):Rp K H' Γ:=by obtain⟨Hz,L,h,nd,g,d⟩:=h;exact⟨Hz,L,h.move (bH.tk s) .bW (fun a m u e=>jz s a u e),nd,g.trans (.of s),d⟩
theorem uL{o:HO}(s:Put H p o H')(a:N8)(n:a≠p)(u:HO)(e:H a=some u):H' a=some u/\((∀xs,H a≠some (.tup xs))->∀xs,H' a≠some (.tup xs)):=
 ⟨by rw[s.else_ a n];exact e,fun m xs r=>m xs (by rw[s.else_ a n]at r;exact r)⟩
theorem RepTs.len :∀{ts:List T}{vs:List V}{L:List N8},RepTs K Hz H ts vs L->ts.length=vs.length:=fun{ts}=>by
 induction ts with
 |nil=>intro vs L h;cases h;rfl
 |cons t ts ih=>
  intro vs L h;cases h with
  |cons _ _ c=>rw[d_,d_,ih c]
abbrev zz(ts:List T)(vs:List V):Fm:=ts.zip (vs.map some)
theorem RepTs.toL :∀{ts:List T}{vs:List V}{L:List N8},RepTs K Hz H ts vs L->RepL K Hz H (zz ts vs) L:=fun{ts}=>by
 induction ts with
 |nil=>intro vs L h;cases h;exact .nil
 |cons t ts ih=>
  intro vs L h;cases h with
  |cons e h c=>exact .cons e (.inr ⟨_,rfl,h⟩) (ih c)
theorem RepL.xc :∀{ts:List T}{vs:List V}{L:List N8},ts.length=vs.length->RepL K Hz H (zz ts vs) L->RepTs K Hz H ts vs L
 | [],[],_,_,.nil=>.nil
 | [],v::vs,_,l,_=>by simp at l
 |t::ts,[],_,l,_=>by simp at l
 |t::ts,v::vs,L,l,h=>by
  have h:RepL K Hz H ((t,some v)::zz ts vs) L:=h;cases h with
  |cons e h c=>
   refine .cons e ?_ (c.xc (by simpa using l));rcases h with⟨rfl,rfl⟩|⟨w,e2,h⟩
   ·exact .any
   cases e2;exact h
theorem RepKs.toL :∀{ts:List (Key×T)}{vs:List (Key×V)}{L:List N8},RepKs K Hz H ts vs L->ts.map (·.1)=vs.map (·.1)/\RepTs K Hz H (ts.map (·.2)) (vs.map (·.2)) L:=fun{ts}=>by
 induction ts with
 |nil=>intro vs L h;cases h;exact⟨rfl,.nil⟩
 |cons t ts ih=>
  intro vs L h;cases h with
  |cons e h c=>exact⟨by rw[f',f',(ih c).1],.cons e h (ih c).2⟩
theorem RepKs.ofL :∀{ts:List (Key×T)}{vs:List (Key×V)}{L:List N8},ts.map (·.1)=vs.map (·.1)->RepTs K Hz H (ts.map (·.2)) (vs.map (·.2)) L->RepKs K Hz H ts vs L:=fun{ts}=>by
 induction ts with
 |nil=>
  intro vs L e h;cases vs with
  |nil=>cases h;exact .nil
  |cons v vs=>cases e
 |cons t ts ih=>
  intro vs L e h;cases vs with
  |nil=>cases e
  |cons v vs=>
   obtain⟨k,t⟩:=t;obtain⟨k',v⟩:=v;cases h with
   |cons e2 h c=>
    rw[f',f',J_]at e;have e0:k=k':=e.1;subst e0;exact .cons e2 h (ih e.2 c)
theorem RepXs.toL :∀{ts:List (List Key×T)}{vs:List (List Key×V)}{L:List N8},RepXs K Hz H ts vs L->ts.map (·.1)=vs.map (·.1)/\RepTs K Hz H (ts.map (·.2)) (vs.map (·.2)) L:=fun{ts}=>by
 induction ts with
 |nil=>intro vs L h;cases h;exact⟨rfl,.nil⟩
 |cons t ts ih=>
  intro vs L h;cases h with
  |cons e h c=>exact⟨by rw[f',f',(ih c).1],.cons e h (ih c).2⟩
theorem RepXs.ofL :∀{ts:List (List Key×T)}{vs:List (List Key×V)}{L:List N8},ts.map (·.1)=vs.map (·.1)->RepTs K Hz H (ts.map (·.2)) (vs.map (·.2)) L->RepXs K Hz H ts vs L:=fun{ts}=>by
 induction ts with
 |nil=>
  intro vs L e h;cases vs with
  |nil=>cases h;exact .nil
  |cons v vs=>cases e
 |cons t ts ih=>
  intro vs L e h;cases vs with
  |nil=>cases e
  |cons v vs=>
   obtain⟨k,t⟩:=t;obtain⟨k',v⟩:=v;cases h with
   |cons e2 h c=>
    rw[f',f',J_]at e;have e0:k=k':=e.1;subst e0;exact .cons e2 h (ih e.2 c)
theorem BZ{o:HO}{Γ Δ:Fm}(h:Rp K H (Γ++Δ))(hp:H p=none)(s:bH H H')(hn:H' p=some o)
  (mk:∀Hz L,RepL K Hz H' Γ L->RepT K Hz H' t (.ref p) (p::L)):Rp K H' ((t,some (.ref p))::Δ):=by
 obtain⟨Hz,N,h,nd,g,d⟩:=h;obtain⟨L,M,rfl,h1,h2⟩:=h.split;have mv:∀a∈L++M,∀u,H a=some u->H' a=some u/\((∀xs,H a≠some (.tup xs))->∀xs,H' a≠some (.tup xs)):=fun a _ u e=>jz s a u e;have h1':=h1.move (bH.tk s) .bW fun a m=>mv a (H_ _ m);have h2':=h2.move (bH.tk s) .bW fun a m=>mv a (q_ _ m);refine⟨Hz,(p::L)++M,.cons rfl (.inr ⟨_,rfl,mk Hz L h1'⟩) h2',?_,g.trans (.of s),?_⟩
 ·rw[JM,D'];refine⟨fun m=>?_,nd⟩;obtain⟨⟨u,e⟩,_⟩:=h.there p m;rw[hp]at e;cases e
 intro b m;rcases o_.mp m with rfl|m
 ·exact g.none hp
 exact d b m
theorem gB{Δ:Fm}(h:Rp K H (zz ts vs++Δ))(l:ts.length=vs.length)(hp:H p=none)(s:bH H H')(hn:H' p=some (.lst vs)):Rp K H' ((.lst true ts,some (.ref p))::Δ):=
 BZ h hp s hn fun _ _ q=>.lstO hn (q.xc l)
theorem jl{Δ:Fm}(h:Rp K H (zz ts vs++Δ))(l:ts.length=vs.length)(s:bH H H')(hn:H' p=some (.tup vs)):Rp K H' ((.tup ts,some (.ref p))::Δ):=by obtain⟨Hz,N,h,nd,g,d⟩:=h.same s;obtain⟨L,M,rfl,h1,h2⟩:=h.split;exact⟨Hz,L++M,.cons rfl (.inr ⟨_,rfl,.tup hn (h1.xc l)⟩) h2,nd,g,d⟩
theorem iG{Γ:Fm}(h:Rp K H ((.lst true ts,x)::Γ)):∃a vs,x=some (.ref a)/\H a=some (.lst vs)/\ts.length=vs.length/\Rp K H ((.bare,some (.ref a))::(zz ts vs++Γ)):=by
 obtain⟨Hz,N,h,nd,g,d⟩:=h;cases h with
 |cons e h c=>
  rcases h with⟨h,_⟩|⟨v,rfl,h⟩
  ·cases h
  cases h with
  |lstO h1 c1=>
   refine⟨_,_,rfl,h1,c1.len,Hz,N,.cons (L:=[_]) (M:=_++_) (by rw[e];rfl) (.inr ⟨_,rfl,.bare h1 fun xs r=>?_⟩) (c1.toL.app c),nd,g,d⟩;rw[h1]at r;cases r
theorem tZ{o:HO}{Γ Δ:Fm}(h:Rp K H ((.bare,some (.ref a))::(Γ++Δ)))(p:Put H a o H')
  (mk:∀Hz L,RepL K Hz H' Γ L->RepT K Hz H' t (.ref a) (a::L)):Rp K H' ((t,some (.ref a))::Δ):=by
 obtain⟨Hz,N,h,nd,g,d⟩:=h;cases h with
 |cons e h c=>
  rcases h with⟨h,_⟩|⟨v,ev,h⟩
  ·cases h
  cases ev;cases h with
  |bare h1 nt=>
   obtain⟨L,M,e2,h2,h3⟩:=c.split;subst e;subst e2;rw[M0,D']at nd;have tk:TK H H':=Put.tk p nt;have ne:∀b∈L++M,b≠a:=fun b m z=>nd.1 (z▸m);have g':Gr Hz H':=fun b u r=>by
    have hb:b≠a:=fun z=>by obtain⟨w,q⟩:=Rd.some r;rw[z,d a (by rw[M0];exact n_)]at q;cases q
    rcases g b u r with r|⟨o,r⟩
    ·exact .inl (by rw[p.else_ b hb];exact r)
    exact .inr ⟨o,by rw[p.else_ b hb];exact r⟩
   refine⟨Hz,(a::L)++M,.cons rfl (.inr ⟨_,rfl,mk Hz L ?_⟩) ?_,?_,g',?_⟩
   ·exact h2.move tk .bW fun b m=>uL p b (ne b (H_ _ m))
   ·exact h3.move tk .bW fun b m=>uL p b (ne b (q_ _ m))
   ·rw[JM,D'];exact nd
   exact d
theorem fO{Γ:Fm}(h:Rp K H ((.bare,some (.ref a))::(zz ts vs++Γ)))(l:ts.length=vs.length)(p:Put H a (.lst vs) H'):Rp K H' ((.lst true ts,some (.ref a))::Γ):=
 tZ h p fun _ _ q=>.lstO p.at_ (q.xc l)
theorem pY{ts:List (Key×T)}{Γ:Fm}(h:Rp K H ((.dK true ts,x)::Γ)):∃a vs,x=some (.ref a)/\H a=some (.dK vs)/\ts.map (·.1)=vs.map (·.1)/\Rp K H ((.bare,some (.ref a))::(zz (ts.map (·.2)) (vs.map (·.2))++Γ)):=by
 obtain⟨Hz,N,h,nd,g,d⟩:=h;cases h with
 |cons e h c=>
  rcases h with⟨h,_⟩|⟨v,rfl,h⟩
  ·cases h
  cases h with
  |dKO h1 c1=>
   obtain⟨e1,c2⟩:=c1.toL;refine⟨_,_,rfl,h1,e1,Hz,N,.cons (L:=[_]) (M:=_++_) (by rw[e];rfl) (.inr ⟨_,rfl,.bare h1 fun xs r=>?_⟩) (c2.toL.app c),nd,g,d⟩;rw[h1]at r;cases r
theorem B2{ts:List (List Key×T)}{Γ:Fm}(h:Rp K H ((.dT true ts,x)::Γ)):∃a vs,x=some (.ref a)/\H a=some (.dT vs)/\ts.map (·.1)=vs.map (·.1)/\Rp K H ((.bare,some (.ref a))::(zz (ts.map (·.2)) (vs.map (·.2))++Γ)):=by
 obtain⟨Hz,N,h,nd,g,d⟩:=h;cases h with
 |cons e h c=>
  rcases h with⟨h,_⟩|⟨v,rfl,h⟩
  ·cases h
  cases h with
  |dTO h1 c1=>
   obtain⟨e1,c2⟩:=c1.toL;refine⟨_,_,rfl,h1,e1,Hz,N,.cons (L:=[_]) (M:=_++_) (by rw[e];rfl) (.inr ⟨_,rfl,.bare h1 fun xs r=>?_⟩) (c2.toL.app c),nd,g,d⟩;rw[h1]at r;cases r
theorem bY{κ β:Type}{ts:List (κ×α)}{vs:List (κ×β)}(e:ts.map (·.1)=vs.map (·.1)):ts.length=vs.length:=by have:=congrArg Mh e;rwa[a_,a_]at this
theorem rY{ts:List (Key×T)}{vs:List (Key×V)}{Γ:Fm}(h:Rp K H ((.bare,some (.ref a))::(zz (ts.map (·.2)) (vs.map (·.2))++Γ)))(l:ts.map (·.1)=vs.map (·.1))(p:Put H a (.dK vs) H'):Rp K H' ((.dK true ts,some (.ref a))::Γ):=
 tZ h p fun _ _ q=>.dKO p.at_ (RepKs.ofL l (q.xc (by rw[a_,a_];exact bY l)))
theorem zJ{ts:List (List Key×T)}{vs:List (List Key×V)}{Γ:Fm}(h:Rp K H ((.bare,some (.ref a))::(zz (ts.map (·.2)) (vs.map (·.2))++Γ)))(l:ts.map (·.1)=vs.map (·.1))(p:Put H a (.dT vs) H'):Rp K H' ((.dT true ts,some (.ref a))::Γ):=
 tZ h p fun _ _ q=>.dTO p.at_ (RepXs.ofL l (q.xc (by rw[a_,a_];exact bY l)))
theorem E7{Δ:Fm}(h:Rp K H Δ)(hp:H p=none)(s:bH H H')(hn:H' p=some (.dT [])):Rp K H' ((.dT true [],some (.ref p))::Δ):=
 BZ (Γ:=[]) h hp s hn fun _ _ q=>by cases q;exact .dTO hn .nil
theorem pM{Γ:Fm}(h:Rp K H ((t,x)::Γ)):Rp K H ((er t,x)::Γ):=by
 obtain⟨Hz,N,h,nd,g,d⟩:=h;cases h with
 | @cons _ _ L M _ _ e h c=>
  rcases h with⟨rfl,rfl⟩|⟨v,rfl,h⟩
  ·exact⟨Hz,N,.cons e (.inl ⟨rfl,rfl⟩) c,nd,g,d⟩
  subst e;have dz:∀b∈L,Hz b=none:=fun b m=>d b (H_ _ m)
  let Z:Hp:=fun b=>if b∈L then H b else Hz b
  have hz:Gr Hz Z:=fun b u r=>by
   have nb:b ∉ L:=fun m=>by obtain⟨w,q⟩:=Rd.some r;rw[dz b m]at q;cases q
   rcases r with r|⟨o,r⟩
   ·exact .inl (by show(if b∈L then H b else Hz b)=_;rw[if_neg nb];exact r)
   exact .inr ⟨o,by show(if b∈L then H b else Hz b)=_;rw[if_neg nb];exact r⟩
  have zh:Gr Z H:=fun b u r=>by
   by_cases nb:b∈L
   ·rcases r with r|⟨o,r⟩
    ·exact .inl (by have r:(if b∈L then H b else Hz b)=_:=r;rw[if_pos nb]at r;exact r)
    exact .inr ⟨o,by have r:(if b∈L then H b else Hz b)=_:=r;rw[if_pos nb]at r;exact r⟩
   refine g b u ?_;rcases r with r|⟨o,r⟩
   ·exact .inl (by have r:(if b∈L then H b else Hz b)=_:=r;rw[if_neg nb]at r;exact r)
   exact .inr ⟨o,by have r:(if b∈L then H b else Hz b)=_:=r;rw[if_neg nb]at r;exact r⟩
  have nd2:=KP.mp nd;refine⟨Z,[]++M,.cons rfl (.inr ⟨v,rfl,h.frz hz fun b m=>?_⟩) (c.move (fun _ _ r=>r) hz fun b m u e=>⟨e,fun n=>n⟩),nd2.2.1,zh,fun b m=>?_⟩
  ·show(if b∈L then H b else Hz b)=_;rw[if_pos m]
  show(if b∈L then H b else Hz b)=_;rw[if_neg (fun z=>nd2.2.2 b z b m rfl)];exact d b (q_ _ m)
theorem ng{Γ:Fm}(h:Rp K H ((t,x)::Γ))(n:aS t=true):Rp K H ((t,x)::(t,x)::Γ):=by
 obtain⟨Hz,N,h,nd,g,d⟩:=h;cases h with
 | @cons _ _ L M _ _ e h c=>
  have hL:L=[]:=by
   rcases h with⟨_,rfl⟩|⟨v,_,h⟩
   ·rfl
   exact h.nil_of n
  subst hL;exact⟨Hz,N,.cons (L:=[]) (M:=N) rfl h (.cons e h c),nd,g,d⟩
theorem qK.view (g:Gr Hz H)(h:qK K Hz H t x L):qK K H H (er t) x []:=by
 rcases h with⟨rfl,rfl⟩|⟨v,rfl,h⟩
 ·exact .inl ⟨rfl,rfl⟩
 exact .inr ⟨v,rfl,h.frz g fun _ _=>rfl⟩
theorem RepL.view (g:Gr Hz H):∀{Γ:Fm}{L:List N8},RepL K Hz H Γ L->RepL K H H (Γ.map fun p=>(er p.1,p.2)) []:=by
 intro Γ L x;induction x with
 |nil=>exact .nil
 |cons e h c ih=>exact .cons rfl (h.view g) ih
theorem sC{Γ:Fm}(h:Rp K H Γ):Rp K H ((Γ.map fun p=>(er p.1,p.2))++[(.kp H,some .non)]):=by obtain⟨Hz,N,h,nd,g,d⟩:=h;refine⟨H,[]++[],(h.view g).app (.cons rfl (.inr ⟨_,rfl,.kp .bW⟩) .nil),KA,.bW,fun b m=>by cases m⟩
def over(H H':Hp):Hp:=fun b=>match H b with
 |some u=>some u
 |none=>H' b
theorem fM{b:N8}{u:HO}(e:H b=some u):over H H' b=some u:=by unfold over;rw[e]
theorem mR{b:N8}(e:H b=none):over H H' b=H' b:=by unfold over;rw[e]
theorem zk(H H':Hp):bH H (over H H'):=fun b u e=>fM e
theorem ue(g:Gr H H'){b:N8}:over H H' b=H' b\/∃o u,H' b=some (.frz o u)/\over H H' b=some u:=by
 cases q:H b with
 |none=>exact .inl (mR q)
 |some u=>
  rw[fM q];rcases g b u (.inl q)with r|⟨o,r⟩
  ·exact .inl r.symm
  exact .inr ⟨o,u,r,rfl⟩
theorem v7(g:Gr H H'){b:N8}(r:H' b=some (.tup xs)):over H H' b=some (.tup xs):=by
 rcases ue g (b:=b)with e|⟨o,u,e,_⟩
 ·rw[e];exact r
 rw[r]at e;cases e
theorem sD{Γ Δ:Fm}(h:Rp K H Γ)(q:Rp K H' ((t,x)::(Δ++[(.kp H,some .non)])))(n:bC t=true):Gr H H'/\Rp K (over H H') ((t,x)::Γ):=by
 obtain⟨Hy,N',q,nd',g',d'⟩:=q;cases q with
 | @cons _ _ L M _ _ e h1 c=>
  have hkp:Gr H Hy:=by
   obtain⟨_,_,_,_,c2⟩:=c.split;cases c2 with
   |cons _ h2 _=>
    rcases h2 with⟨z,_⟩|⟨_,_,h2⟩
    ·cases z
    cases h2 with
    |kp z=>exact z
  have gr:=hkp.trans g';refine⟨gr,?_⟩;subst e;have nd2:=KP.mp nd';have hL:∀b∈L,H b=none:=fun b m=>hkp.none (d' b (H_ _ m));obtain⟨Hz,N,h,nd,g,d⟩:=h;have so:=zk H H';have tk:TK H' (over H H'):=fun b xs r=>v7 gr r;have h1':qK K Hz (over H H') t x L:=by
   rcases h1 with⟨rfl,rfl⟩|⟨v,rfl,h1⟩
   ·exact .inl ⟨rfl,rfl⟩
   refine .inr ⟨v,rfl,h1.Jk tk n fun b m u e=>?_⟩;have eo:=mR (H':=H') (hL b m);exact⟨eo.trans e,fun nt xs r=>nt xs (by rw[<-eo];exact r)⟩
  refine⟨Hz,L++N,.cons rfl h1' (h.move (bH.tk so) .bW fun b m u e=>jz so b u e),?_,g.trans (.of so),?_⟩
  ·rw[KP];refine⟨nd2.1,nd,fun b m b' m' z=>?_⟩;subst z;obtain⟨⟨u,e⟩,_⟩:=h.there b m';rw[hL b m]at e;cases e
  intro b m;rcases A_.mp m with m|m
  ·exact g.none (hL b m)
  exact d b m
theorem ui:∀{ts:List T}{vs:List V}{i:Nat}{t:T},ts.length=vs.length->ts[i]?=some t->∃w,vs[i]?=some w
 |ts,vs,i,t,l,e=>by have h:i<ts.length:=(gV.mp e).1;exact⟨vs[i]'(by omega),c_ (by omega)⟩
theorem qr{α:Type}:∀{l:List α}{i:Nat}{x y:α},l[i]?=some y->(l.set i x).set i y=l
 | [],i,x,y,e=>by simp at e
 |a::l,0,x,y,e=>by simp at e;subst e;rfl
 |a::l,i+1,x,y,e=>by simp only[Kw]at e;rw[Mi,Mi,qr e]
end
theorem oB{α β:Type}:∀{l:List α}{m:List β}{i:Nat}{a:α}{b:β} (t:α) (y:β),l[i]?=some a->m[i]?=some b->((a,b)::(l.set i t).zip (m.set i y)).Perm ((t,y)::l.zip m)
 | [],m,i,a,b,t,y,h,_=>by simp at h
 |x::l,[],i,a,b,t,y,_,h=>by simp at h
 |x::l,z::m,0,a,b,t,y,h,g=>by simp only[K',Mv]at h g;subst h;subst g;exact .swap _ _ _
 |x::l,z::m,i+1,a,b,t,y,h,g=>by simp only[Kw]at h g;have p:=oB t y h g;show NK ((a,b)::(x,z)::(l.set i t).zip (m.set i y)) ((t,y)::(x,z)::l.zip m);exact(K0 _ _ _).trans ((p.cons _).trans (.swap _ _ _))
variable {i:Nat}
theorem set_same{l:List α}{x:α}(h:l[i]?=some x):l.set i x=l:=by have:=qr (x:=x) h;rw[MD]at this;exact this
variable {Fr Γ:Fm}{env:Ev}{σ:St}
section
variable{K:N7}
noncomputable def Rs(K:N7)(H:Hp)(env:Ev)(σ:St)(Fr:Fm):Prop:=env.length=σ.length/\Rp K H (env.zip σ++Fr)
theorem iZ(h:Rp K H Γ):Rp K H ((.any,x)::Γ):=by obtain⟨Hz,N,h,nd,g,d⟩:=h;exact⟨Hz,N,.cons (L:=[]) rfl (.inl ⟨rfl,rfl⟩) h,nd,g,d⟩
theorem Rs.perm {Gr:Fm}(h:Rs K H env σ Fr)(p:Fr.Perm Gr):Rs K H env σ Gr:=⟨h.1,h.2.perm (p.append_left _)⟩
theorem Rs.drop {x:T×Option V}(h:Rs K H env σ (x::Fr)):Rs K H env σ Fr:=⟨h.1,(h.2.perm i_).tail⟩
theorem Rs.head {x:T×Option V}(h:Rs K H env σ (x::Fr)):Rp K H (x::(env.zip σ++Fr)):=h.2.perm i_
theorem Rs.of {x:T×Option V}(l:env.length=σ.length)(h:Rp K H (x::(env.zip σ++Fr))):Rs K H env σ (x::Fr):=⟨l,h.perm i_.symm⟩
theorem Rs.chg {Δ Δ':Fm}(h:Rs K H env σ (Δ++Fr))(f:∀ Γ,Rp K H (Δ++Γ)->Rp K H' (Δ'++Γ)):Rs K H' env σ (Δ'++Fr):=by
 refine⟨h.1,?_⟩;have p:∀A:Fm,(A++(env.zip σ++Fr)).Perm (env.zip σ++(A++Fr)):=fun A=>by rw[<-k_,<-k_];exact Km.append_right _
 exact(f _ (h.2.perm (p Δ).symm)).perm (p Δ')
theorem Rs.slot (h:Rs K H env σ Fr)(e:env[i]?=some t):∃x,σ[i]?=some x/\Rs K H (env.set i .any) σ ((t,x)::Fr):=by
 have hi:i<env.length:=(gV.mp e).1;have hs:i<σ.length:=by rw[<-h.1];exact hi
 have ex:σ[i]?=some σ[i]:=c_ hs;refine⟨σ[i],ex,by rw[JB];exact h.1,?_⟩;have p:=oB (T.any) σ[i] e ex;rw[set_same ex]at p;refine(iZ (x:=σ[i]) h.2).perm ?_;refine B_ ?_ i_.symm;exact(p.symm.append_right Fr)
theorem Rs.nu (h:Rs K H env σ ((t,x)::Fr))(hi:i<env.length)(ex:σ[i]?=some x):Rs K H (env.set i t) σ Fr:=by have e:env[i]?=some env[i]:=c_ hi;refine⟨by rw[JB];exact h.1,?_⟩;have p:=oB t x e ex;rw[set_same ex]at p;refine Rp.tail (x:=(env[i],x)) (h.2.perm ?_);refine i_.trans ?_;exact(p.symm.append_right Fr)
theorem Rs.store (h:Rs K H env σ ((t,some v)::Fr))(hi:i<env.length):Rs K H (env.set i t) (σ.set i (some v)) Fr:=by
 have e:env[i]?=some env[i]:=c_ hi;have hs:i<σ.length:=by rw[<-h.1];exact hi
 have ex:σ[i]?=some σ[i]:=c_ hs;refine⟨by rw[JB,JB];exact h.1,?_⟩;have p:=oB t (some v) e ex;refine Rp.tail (x:=(env[i],σ[i])) (h.2.perm ?_);refine i_.trans ?_;exact(p.symm.append_right Fr)
end
variable {X:Cx}{pins:List (N8×Obj)}{s:N9}
theorem pW{σ':St}{s':N9}(I:Inv X pins σ H s)(J:Inv X pins σ' H' s')(g:Gr H H'):Inv X pins σ' (over H H') s':=by
 have nn:∀b,H' b=none->over H H' b=none:=fun b e=>by rw[mR (g.none e)];exact e
 refine⟨J.ok,J.os,J.bare,⟨J.base.keep,J.base.slot,?_,J.base.there,?_,?_,?_⟩,J.loc,J.cell,nn _ J.free,fun x c e=>nn _ (J.freeC x c e),fun p hp=>?_,?_,J.len⟩
 ·exact fun b o e1 e2 e3=>nn _ (J.base.free b o e1 e2 e3)
 ·exact fun b xs e=>fM (I.base.tups b xs e)
 ·exact fun b o u e=>fM (I.base.frzs b o u e)
 ·exact fun b ps e=>by obtain⟨m,em⟩:=I.base.tbls b ps e;exact⟨m,fM em⟩
 ·obtain⟨h1,h2,h3⟩:=J.pin p hp;exact⟨h1,nn _ h2,h3⟩
 intro b u e;have ho:∀c y,H' c=some (.own y)->over H H' c=some (.own y):=fun c y q=>by
  rcases ue g (b:=c)with z|⟨o,w,z,_⟩
  ·rw[z];exact q
  rw[q]at z;cases z
 have ht:∀c xs,H' c=some (.tup xs)->over H H' c=some (.tup xs):=fun c xs q=>v7 g q;have key:ba X.prog X.w H' s'.heap b u:=by
  rcases ue g (b:=b)with z|⟨o,w,z,zw⟩
  ·rw[z]at e;exact J.hok b u e
  rw[zw]at e;cases e;exact(J.hok b _ z).2
 exact key.o6 (fun c v _ q=>q) (fun c=>ho c b) ht
variable {e:Ov}
theorem D4{t:TE}(h:PE X e t):PE X e (fun σ H Q=>t σ H fun v H'=>Gr H H'/\Q v (over H H')):=fun pins s σ H Q I q=>
 thn (h pins s σ H _ I q) fun u s' ⟨v,H',I',r,g,q'⟩=>⟨v,over H H',pW I I' g,r,q'⟩
theorem Ct{t:TT}(h:PT X e t):PT X e (fun σ H Q=>t σ H fun b H'=>Gr H H'/\Q b (over H H')):=fun pins s σ H Q I q=>
 thn (h pins s σ H _ I q) fun b s' ⟨H',I',g,q'⟩=>⟨over H H',pW I I' g,q'⟩
abbrev PF:=Ev->(T->Ev->Prop)->Prop
abbrev PB:=Ev->(Bool->Ev->Prop)->Prop
abbrev PFs:=Ev->(List T->Ev->Prop)->Prop
noncomputable def wE(K:N7)(f:PF):TE:=fun σ H Q=>∃env Fr k,Rs K H env σ Fr/\f env k/\∀t env' v H',k t env'->Rs K H' env' σ ((t,some v)::Fr)->Q v H'
noncomputable def wB(K:N7)(f:PB):TT:=fun σ H Q=>∃env Fr k,Rs K H env σ Fr/\f env k/\∀b env' H',k b env'->Rs K H' env' σ Fr->Q b H'
noncomputable def wA(K:N7)(f:PFs):TA:=fun σ H Q=>∃env Fr k,Rs K H env σ Fr/\f env k/\∀ts env' vs H',k ts env'->ts.length=vs.length->Rs K H' env' σ (zz ts vs++Fr)->Q vs H'
def GE(X:Cx)(e:Ov)(f:PF):Prop:=PE X e (wE X.K f)
def GT(X:Cx)(e:Ov)(f:PB):Prop:=PT X e (wB X.K f)
def GW(X:Cx)(e:Ov)(f:PB):Prop:=PW X e (wB X.K f)
def GA(X:Cx)(es:List Ov)(f:PFs):Prop:=PA X es (wA X.K f)
theorem PE.imp {t t':TE}(h:PE X e t)(k:∀ σ H Q,t' σ H Q->t σ H Q):PE X e t':=fun pins s σ H Q I q=>h pins s σ H Q I (k _ _ _ q)
theorem PT.imp {t t':TT}(h:PT X e t)(k:∀ σ H Q,t' σ H Q->t σ H Q):PT X e t':=fun pins s σ H Q I q=>h pins s σ H Q I (k _ _ _ q)
theorem PW.imp {t t':TT}(h:PW X e t)(k:∀ σ H Q,t' σ H Q->t σ H Q):PW X e t':=fun wh pins s σ H Q I q=>h wh pins s σ H Q I (k _ _ _ q)
variable {es:List Ov}
theorem PA.imp {t t':TA}(h:PA X es t)(k:∀ σ H Q,t' σ H Q->t σ H Q):PA X es t':=fun pos pins s σ H Q I q=>h pos pins s σ H Q I (k _ _ _ q)
def fQ(f:PF):PF:=fun env k=>f (erL env) fun t _=>bC t=true/\k t env
def fQT(f:PB):PB:=fun env k=>f (erL env) fun b _=>k b env
theorem oq:∀(env:Ev) (σ:St),(env.zip σ).map (fun p=>(er p.1,p.2))=(erL env).zip σ
 | [],σ=>by simp[erL]
 |t::env,[]=>by simp
 |t::env,x::σ=>by rw[erL,Nc,f',Nc,oq env σ]
theorem aB{X:Cx}{e:Ov}{f:PF}(h:GE X e f):GE X e (fQ f):=by
 refine PE.imp (D4 h) ?_;rintro σ H Q ⟨env,Fr,k,rs,q,c⟩;have rv:Rs X.K H (erL env) σ ((Fr.map fun p=>(er p.1,p.2))++[(.kp H,some .non)]):=by refine⟨by rw[sE];exact rs.1,?_⟩;have:=sC rs.2;rw[v_,oq,k_]at this;exact this
 refine⟨erL env,_,_,rv,q,?_⟩;rintro t env' v H' ⟨n,kt⟩ rs';obtain⟨g,r2⟩:=sD rs.2 (Δ:=env'.zip σ++(Fr.map fun p=>(er p.1,p.2))) (by rw[k_];exact rs'.head) n;exact⟨g,c t env v _ kt (.of rs.1 r2)⟩
variable {K:N7}
theorem B9{Δ:Fm}(h:Rp K H Γ)(q:Rp K H' (Δ++[(.kp H,some .non)])):Gr H H'/\Rp K (over H H') Γ:=by obtain⟨g,r⟩:=sD (t:=.any) (x:=none) h (iZ q) rfl;exact⟨g,r.tail⟩
theorem cN{f:PB}(h:GT X e f):GT X e (fQT f):=by
 refine PT.imp (Ct h) ?_;rintro σ H Q ⟨env,Fr,k,rs,q,c⟩;have rv:Rs X.K H (erL env) σ ((Fr.map fun p=>(er p.1,p.2))++[(.kp H,some .non)]):=by refine⟨by rw[sE];exact rs.1,?_⟩;have:=sC rs.2;rw[v_,oq,k_]at this;exact this
 refine⟨erL env,_,_,rv,q,?_⟩;rintro b env' H' kt rs';obtain⟨g,r2⟩:=B9 rs.2 (Δ:=env'.zip σ++(Fr.map fun p=>(er p.1,p.2))) (by rw[k_];exact rs'.2);exact⟨g,c b env _ kt ⟨rs.1,r2⟩⟩
def fK(t:T):PF:=fun env k=>k t env
variable {b:Bool}{j:Nat}
section
variable{X:Cx}{pos:Pos}
theorem eT(h:Rs K H env σ Fr)(r:∀Hz,RepT K Hz H t v []):Rs K H env σ ((t,some v)::Fr):=by refine .of h.1 ?_;obtain⟨Hz,N,q,nd,g,d⟩:=h.2;exact⟨Hz,N,.cons (L:=[]) rfl (.inr ⟨v,rfl,r Hz⟩) q,nd,g,d⟩
theorem ge_int{i:Int}{j:Nat}:GE X (.Constant (.int i) j pos) (fK (.int i)):=PE.imp cf (by rintro σ H Q ⟨env,Fr,k,rs,q,c⟩;exact c _ _ _ _ q (eT rs fun _=>.int))
theorem dF:GE X (.Constant (.bool b) j pos) (fK (.bl b)):=PE.imp IU (by rintro σ H Q ⟨env,Fr,k,rs,q,c⟩;exact c _ _ _ _ q (eT rs fun _=>.bl))
theorem nD:GE X (.Constant .none j pos) (fK .non):=PE.imp GJ (by rintro σ H Q ⟨env,Fr,k,rs,q,c⟩;exact c _ _ _ _ q (eT rs fun _=>.non))
theorem ge_str{x:Str}:GE X (.Constant (.str x) j pos) (fK (.str x)):=PE.imp jf (by rintro σ H Q ⟨env,Fr,k,rs,q,c⟩;exact c _ _ _ _ q (eT rs fun _=>.str))
theorem Cm{x:Str}{u:N5}(hg:Gl X x)(hm:X.mg x=some u)(r:RelV v u)(ht:∀Hz H,RepT X.K Hz H t v [])(hd:(x ==("__debug__":Str))=false:=by decide):GE X (.Name x pos) (fK t):=
 PE.imp (DG hg hm r hd) fun σ H Q ⟨env,Fr,k,rs,q,c⟩=>c _ _ _ _ q (eT rs fun Hz=>ht Hz H)
def isAny:T->Bool
 | .any=>true
 | _=>false
noncomputable def DW(i:Nat):PF:=fun env k=>match env[i]? with
 |some t=>isAny t=false/\aS t=true/\k t env
 |none=>False
noncomputable def fFz(i:Nat):PF:=fun env k=>match env[i]? with
 |some t=>isAny t=false/\k (er t) (env.set i (er t))
 |none=>False
noncomputable def fMv(i:Nat):PF:=fun env k=>match env[i]? with
 |some t=>isAny t=false/\k t (env.set i .any)
 |none=>False
theorem fV(h:Rs K H env σ ((t,x)::Fr))(n:isAny t=false):∃v,x=some v:=by
 obtain⟨Hz,N,q,_⟩:=h.head;cases q with
 |cons e h c=>
  rcases h with⟨rfl,_⟩|⟨v,e,_⟩
  ·cases n
  exact⟨v,e⟩
theorem af(i:Nat){x:Str}(hN:X.N[i]?=some x:=by rfl)(hv:Vis X.env.scope x:=by first|exact e_ rfl|exact r_ (e_ rfl)|exact r_ (r_ rfl))(hd:(x ==("__debug__":Str))=false:=by decide)(hcd:(x ==("__classdict__":Str))=false:=by decide):GE X (.Name x pos) (DW i):=by
 refine PE.imp (gH hN hv hd hcd) ?_;rintro σ H Q ⟨env,Fr,k,rs,q,c⟩;unfold DW at q;split at q
 ·rename_i t e;obtain⟨na,no,q⟩:=q;obtain⟨y,ey,rs2⟩:=rs.slot e;obtain⟨v,rfl⟩:=fV rs2 na;refine⟨v,ey,c _ _ _ _ q ?_⟩;have hi:i<env.length:=(gV.mp e).1;have r3:Rs X.K H (env.set i .any) σ ((t,some v)::(t,some v)::Fr):=.of rs2.1 ((ng rs2.head no).perm (by refine NI _ ?_;exact i_.symm))
  have r4:=Rs.nu (i:=i) r3 (by rw[JB];exact hi) ey;rw[qr e]at r4;exact r4
 exact q.elim
theorem bq(i:Nat){x:Str}(hN:X.N[i]?=some x:=by rfl)(hv:Vis X.env.scope x:=by first|exact e_ rfl|exact r_ (e_ rfl)|exact r_ (r_ rfl))(hd:(x ==("__debug__":Str))=false:=by decide)(hcd:(x ==("__classdict__":Str))=false:=by decide):GE X (.Name x pos) (fFz i):=by
 refine PE.imp (gH hN hv hd hcd) ?_;rintro σ H Q ⟨env,Fr,k,rs,q,c⟩;unfold fFz at q;split at q
 ·rename_i t e;obtain⟨na,q⟩:=q;obtain⟨y,ey,rs2⟩:=rs.slot e;obtain⟨v,rfl⟩:=fV rs2 na;refine⟨v,ey,c _ _ _ _ q ?_⟩;have hi:i<env.length:=(gV.mp e).1;have no:aS (er t)=true:=bf t;have r3:Rs X.K H (env.set i .any) σ ((er t,some v)::(er t,some v)::Fr):=.of rs2.1 ((ng (pM rs2.head) no).perm (by refine NI _ ?_;exact i_.symm))
  have r4:=Rs.nu (i:=i) r3 (by rw[JB];exact hi) ey;rw[MD]at r4;exact r4
 exact q.elim
theorem p8(i:Nat){x:Str}(hN:X.N[i]?=some x:=by rfl)(hv:Vis X.env.scope x:=by first|exact e_ rfl|exact r_ (e_ rfl)|exact r_ (r_ rfl))(hd:(x ==("__debug__":Str))=false:=by decide)(hcd:(x ==("__classdict__":Str))=false:=by decide):GE X (.Name x pos) (fMv i):=by
 refine PE.imp (gH hN hv hd hcd) ?_;rintro σ H Q ⟨env,Fr,k,rs,q,c⟩;unfold fMv at q;split at q
 ·rename_i t e;obtain⟨na,q⟩:=q;obtain⟨y,ey,rs2⟩:=rs.slot e;obtain⟨v,rfl⟩:=fV rs2 na;exact⟨v,ey,c _ _ _ _ q rs2⟩
 exact q.elim
end
variable {y:V}
section
variable{K:N7}{H:Hp}{Γ:Fm}
theorem fE(h:Rp K H ((t,some y)::Γ))(n:isAny t=false):∃Hz L,RepT K Hz H t y L/\Gr Hz H:=by
 obtain⟨Hz,N,h,nd,g,d⟩:=h;cases h with
 |cons e h c=>
  rcases h with⟨rfl,_⟩|⟨v,e2,h⟩
  ·cases n
  cases e2;exact⟨Hz,_,h,g⟩
theorem aU{i:Int}(h:Rp K H ((.int i,some y)::Γ)):y=.int i:=by obtain⟨_,_,r,_⟩:=fE h rfl;cases r;rfl
theorem m7{i:Bool}(h:Rp K H ((.bl i,some y)::Γ)):y=.bl i:=by obtain⟨_,_,r,_⟩:=fE h rfl;cases r;rfl
theorem jW{i:Str}(h:Rp K H ((.str i,some y)::Γ)):y=.str i:=by obtain⟨_,_,r,_⟩:=fE h rfl;cases r;rfl
theorem sI(h:Rp K H ((.non,some y)::Γ)):y=.non:=by obtain⟨_,_,r,_⟩:=fE h rfl;cases r;rfl
theorem bI(h:Rp K H Γ)(r:∀Hz,RepT K Hz H t v []):Rp K H ((t,some v)::Γ):=by obtain⟨Hz,N,q,nd,g,d⟩:=h;exact⟨Hz,N,.cons (L:=[]) rfl (.inr ⟨v,rfl,r Hz⟩) q,nd,g,d⟩
noncomputable def items:T->Option (List T)
 | .tup ts=>some ts
 | .cst ts=>some ts
 | .lst _ ts=>some ts
 | _=>none
def qc:T->Bool
 | .tup _=>true
 | .cst _=>true
 | _=>false
theorem yb(h:SqT K (fun _=>none) a vs)(H:Hp):SqT K H a vs:=by
 rcases h with (h|⟨_,h⟩)|h
 ·cases h
 ·cases h
 exact .inr h
theorem aJ(e:items t=some ts)(h:Rp K H ((t,some y)::Γ)):∃a vs,y=.ref a/\SqG (qc t) K H a vs/\ts.length=vs.length/\Rp K H (zz ts vs++Γ):=by
 obtain⟨Hz,N,h,nd,g,d⟩:=h;cases h with
 |cons e1 h c=>
  rcases h with⟨rfl,_⟩|⟨v,e2,h⟩
  ·cases e
  cases e2;cases h <;> cases e
  ·rename_i a vs h c1;exact⟨a,vs,rfl,SqT.of h,c1.len,Hz,_,c1.toL.app c,by rw[<-e1];exact nd,g,fun b m=>d b (by rw[e1];exact m)⟩
  ·rename_i a vs h c1;exact⟨a,vs,rfl,yb h H,c1.len,Hz,_,c1.toL.app c,by rw[<-e1];exact nd,g,fun b m=>d b (by rw[e1];exact m)⟩
  ·rename_i a vs L h c1;rw[e1,JM,D']at nd;exact⟨a,vs,rfl,SqL.of h,c1.len,Hz,_,c1.toL.app c,nd.2,g,fun b m=>d b (by rw[e1,JM];exact j_ _ m)⟩
  rename_i a vs h c1;exact⟨a,vs,rfl,.inl (g _ _ h),c1.len,Hz,_,c1.toL.app c,by rw[<-e1];exact nd,g,fun b m=>d b (by rw[e1];exact m)⟩
theorem yg:∀{ts:List T}{vs:List V}{i:Nat}{t:T}{w:V},ts[i]?=some t->vs[i]?=some w->∃r,(zz ts vs).Perm ((t,some w)::r)
 | [],vs,i,t,w,e,f=>by simp at e
 |t::ts,[],i,_,w,e,f=>by simp at f
 |t::ts,v::vs,0,u,w,e,f=>by simp only[K',Mv]at e f;subst e;subst f;exact⟨_,.refl _⟩
 |t::ts,v::vs,i+1,u,w,e,f=>by simp only[Kw]at e f;obtain⟨r,h⟩:=yg (ts:=ts) (vs:=vs) e f;exact⟨(t,some v)::r,(h.cons _).trans (.swap _ _ _)⟩
theorem jw{w:V}(h:Rp K H (zz ts vs++Γ))(e:ts[i]?=some t)(f:vs[i]?=some w):Rp K H ((t,some w)::Γ):=by obtain⟨r,p⟩:=yg e f;refine Rp.part (Γ:=r) (h.perm ?_);refine(p.append_right Γ).trans ?_;exact i_.symm
theorem A3{i:Int}(l:ts.length=vs.length)(e:atI ts i=some t)(h:Rp K H (zz ts vs++Γ)):∃w,atI vs i=some w/\Rp K H ((t,some w)::Γ):=by
 unfold atI at e ⊢;rw[l]at e;cases q:ixN vs.length i with
 |none=>rw[q]at e;cases e
 |some j=>
  rw[q]at e;have e:ts[j]?=some t:=e;obtain⟨w,f⟩:=ui l e;exact⟨w,f,jw h e f⟩
end
def got(o:Option α)(k:α->Prop):Prop:=match o with
 |some u=>k u
 |none=>False
theorem Gs{o:Option α}{u:α}{k:α->Prop}(e:o=some u)(h:k u):got o k:=by rw[e];exact h
theorem aI{o:Option α}{k:α->Prop}(h:got o k):∃u,o=some u/\k u:=by
 cases o with
 |none=>exact h.elim
 |some u=>exact⟨u,rfl,h⟩
def cnd(b:Bool)(A B:Prop):Prop:=(b=true->A)/\(b=false->B)
theorem Ea{A B:Prop}(h:A):cnd true A B:=⟨fun _=>h,fun e=>by cases e⟩
theorem Ep{A B:Prop}(h:B):cnd false A B:=⟨fun e=>(by cases e),fun _=>h⟩
theorem fB{A B:Prop}(h:cnd b A B):if b=true then A else B:=by
 cases b with
 |true=>rw[if_pos rfl];exact h.1 rfl
 |false=>rw[if_neg (by decide)];exact h.2 rfl
abbrev P2:=T->T->(T->Prop)->Prop
noncomputable def w2(K:N7)(g:P2):R2:=fun x y H Q=>∃tx ty Γ k,Rp K H ((ty,some y)::(tx,some x)::Γ)/\g tx ty k/\∀t v H',k t->Rp K H' ((t,some v)::Γ)->Q v H'
def OpP(X:Cx)(f:N5->N5->Sem N5)(g:P2):Prop:=OpR X f (w2 X.K g)
variable {f:N5->N5->Sem N5}
theorem OpP.of {g:P2}{r:R2}(h:OpR X f r)(k:∀tx ty x y H Γ (k:T->Prop) (Q:VK),Rp X.K H ((ty,some y)::(tx,some x)::Γ)->g tx ty k->(∀t v H',k t->Rp X.K H' ((t,some v)::Γ)->Q v H')->r x y H Q):OpP X f g:=
 fun pins s σ H x y v u Q I rx ry ⟨tx,ty,Γ,kk,rp,g,c⟩=>h pins s σ H x y v u Q I rx ry (k tx ty x y H Γ kk Q rp g c)
noncomputable def zl(g:P2)(a b:PF):PF:=fun env k=>a env fun x env1=>b env1 fun y env2=>g x y fun t=>k t env2
theorem yA{g:P2}{fa fb:PF}:∀ σ H Q,wE X.K (zl g fa fb) σ H Q->tOp (w2 X.K g) (wE X.K fa) (wE X.K fb) σ H Q:=by rintro σ H Q ⟨env,Fr,k,rs,q,c⟩;refine⟨env,Fr,_,rs,q,fun tx env1 x H1 q1 rs1=>⟨env1,_,_,rs1,q1,fun ty env2 y H2 q2 rs2=>?_⟩⟩;refine⟨tx,ty,env2.zip σ++Fr,_,?_,q2,fun t v H' kt rp=>c _ _ _ _ kt (.of rs2.1 rp)⟩;exact rs2.head.perm (.cons _ i_)
variable {g':P2}
section
variable{X:Cx}{a b c d:Ov}{fa fb fc fd:PF}{pos:Pos}
theorem ak{op:Operator}{g:P2}(ho:OpP X (Ph op) g)(ha:GE X a fa)(hb:GE X b fb):GE X (.BinOp a op b pos) (zl g fa fb):=PE.imp (cK ho ha hb) yA
theorem dR{op:Sv}{g:P2}(ho:OpP X (OV op) g)(ha:GE X a fa)(hb:GE X b fb)(hm:Qf op b=false):GE X (.Compare a [op] [b] pos) (zl g fa fb):=PE.imp (Dy ho ha hb hm) yA
def EZ(f:PF):PB:=fun env k=>f env fun t env'=>match t with
 | .bl b=>k b env'
 | _=>False
theorem F5{f:PF}:∀ σ H Q,wB K (EZ f) σ H Q->Ec (wE K f) σ H Q:=by
 rintro σ H Q ⟨env,Fr,k,rs,q,c⟩;refine⟨env,Fr,_,rs,q,fun t env' v H' q1 rs1=>?_⟩;cases t <;> first|exact q1.elim|skip
 rename_i b;exact⟨b,m7 rs1.head,c _ _ _ q1 rs1.drop⟩
theorem aX{op:Sv}{g:P2}(ho:OpP X (OV op) g)(ha:GE X a fa)(hb:GE X b fb)(hm:Qf op b=false):GT X (.Compare a [op] [b] pos) (EZ (zl g fa fb)):=by refine PT.imp (t5 ho ha hb hm) fun σ H Q h=>?_;obtain⟨env,Fr,k,rs,q,c⟩:=F5 σ H Q h;exact yA σ H _ ⟨env,Fr,k,rs,q,c⟩
noncomputable def xq(g g':P2)(fa fb fc:PF):PF:=fun env k=>fa env fun x env1=>fb env1 fun y env2=>aS y=true/\g x y fun z=>match z with
 | .bl b=>cnd b (fc env2 fun u env3=>g' y u fun t=>k t env3) (k (.bl false) env2)
 | _=>False
theorem C8{X:Cx}{g:P2}{fa fb fc:PF}:∀ σ H Q,wE X.K (xq g g' fa fb fc) σ H Q->Bf (w2 X.K g) (w2 X.K g') (wE X.K fa) (wE X.K fb) (wE X.K fc) σ H Q:=by
 rintro σ H Q ⟨env,Fr,k,rs,q,c⟩;refine⟨env,Fr,_,rs,q,fun tx env1 x H1 q1 rs1=>⟨env1,_,_,rs1,q1,fun ty env2 y H2 ⟨no,q2⟩ rs2=>?_⟩⟩;have rd:=ng rs2.head no;refine⟨tx,ty,(ty,some y)::(env2.zip σ++Fr),_,?_,q2,fun t v H' kt rp=>?_⟩
 ·refine rd.perm (.cons _ ?_);refine B_ (.cons _ i_) (.swap _ _ _)
 cases t <;> first|exact kt.elim|skip
 rename_i bb;refine⟨bb,m7 rp,fB ⟨fun hb=>?_,fun hb=>?_⟩⟩
 ·refine⟨env2,(ty,some y)::Fr,_,.of rs2.1 rp.tail,kt.1 hb,fun tu env3 u H3 q3 rs3=>?_⟩;refine⟨ty,tu,env3.zip σ++Fr,_,?_,q3,fun t v H' kt rp=>c _ _ _ _ kt (.of rs3.1 rp)⟩;exact rs3.head.perm (.cons _ i_)
 exact c _ _ _ _ (kt.2 hb) (eT ⟨rs2.1,rp.tail.tail⟩ fun _=>.bl)
theorem mK{op op':Sv}{g:P2}(ho:OpP X (OV op) g)(ho':OpP X (OV op') g')(ha:GE X a fa)(hb:GE X b fb)(hc:GE X c fc)(hm:lastMarks [op,op'] [b,c]=false:=by with_unfolding_all rfl) :
  GE X (.Compare a [op,op'] [b,c] pos) (xq g g' fa fb fc):=PE.imp (C2 ho ho' ha hb hc hm) C8
noncomputable def G5:T->(Bool->Prop)->Prop
 | .non,k=>k false
 | .bl b,k=>k b
 | .int i,k=>k (i != 0)
 | .str x,k=>x.length<=sizeLine/\k ((x.length:Int) != 0)
 | .tup ts,k=>k (!ts.isEmpty)
 | .cst ts,k=>k (!ts.isEmpty)
 | .lst _ ts,k=>k (!ts.isEmpty)
 | _,_=>False
def Hf(f:PF):PB:=fun env k=>f env fun t env'=>G5 t fun b=>k b env'
theorem ux{β:Type}{l:List α}{m:List β}(h:l.length=m.length):l.isEmpty=m.isEmpty:=by cases l <;> cases m <;> first|rfl|simp at h
theorem cw(ha:GE X a fa)(he:∀whole,Sl a X.env whole=(do let v <-whole;Tr a.pos;QM [v] (truthy v)):=by intro _;rfl):GT X a (Hf fa):=by
 refine PT.imp (Ak ha he) ?_;rintro σ H Q ⟨env,Fr,k,rs,q,c⟩;refine⟨env,Fr,_,rs,q,fun t env' v H' q1 rs1=>?_⟩;have fin:∀b,k b env'->Q b H':=fun b kb=>c _ _ _ kb rs1.drop;have sq:∀ts b,items t=some ts->b=(!ts.isEmpty)->k b env'->∃b,G9 X.K v H' b/\Q b H':=fun ts b e eb kb=>by
  obtain⟨a,vs,rfl,hq,l,_⟩:=aJ e rs1.head;refine⟨b,?_,fin b kb⟩;rw[ux l]at eb;revert hq;cases qc t with
  |true=>exact fun hq=>.inr (.inl ⟨vs,hq,eb⟩)
  |false=>exact fun hq=>.inl ⟨vs,hq,eb⟩
 cases t with
 |non=>rw[sI rs1.head];exact⟨_,rfl,fin _ q1⟩
 |bl b=>rw[m7 rs1.head];exact⟨_,rfl,fin _ q1⟩
 |int i=>rw[aU rs1.head];exact⟨_,rfl,fin _ q1⟩
 |str x=>rw[jW rs1.head];exact⟨_,⟨q1.1,rfl⟩,fin _ q1.2⟩
 |tup ts=>exact sq _ _ rfl rfl q1
 |cst ts=>exact sq _ _ rfl rfl q1
 |lst o ts=>exact sq _ _ rfl rfl q1
 | _=>exact q1.elim
def Ek(ta tb:PB):PB:=fun env k=>ta env fun b env1=>cnd b (tb env1 k) (k false env1)
def Iw(ta tb:PB):PB:=fun env k=>ta env fun b env1=>cnd b (k true env1) (tb env1 k)
def EJ(ta:PB):PB:=fun env k=>ta env fun b env1=>k (!b) env1
variable{ta tb:PB}{rest:List Ov}
theorem uj(ha:GT X a ta):GW X (.BoolOp .And [a] pos) ta:=Dp ha
theorem tD(ha:GT X a ta):GW X (.BoolOp .Or [a] pos) ta:=GK ha
theorem xh(ha:GT X a ta)(hb:GW X (.BoolOp .And (b::rest) pos) tb):GW X (.BoolOp .And (a::b::rest) pos) (Ek ta tb):=by
 refine PW.imp (FD ha hb) ?_;rintro σ H Q ⟨env,Fr,k,rs,q,c⟩;refine⟨env,Fr,_,rs,q,fun b env' H' q1 rs1=>fB ⟨fun e=>?_,fun e=>?_⟩⟩
 ·exact⟨env',Fr,k,rs1,q1.1 e,c⟩
 exact c _ _ _ (q1.2 e) rs1
theorem uN(ha:GT X a ta)(hb:GW X (.BoolOp .Or (b::rest) pos) tb):GW X (.BoolOp .Or (a::b::rest) pos) (Iw ta tb):=by
 refine PW.imp (HD ha hb) ?_;rintro σ H Q ⟨env,Fr,k,rs,q,c⟩;refine⟨env,Fr,_,rs,q,fun b env' H' q1 rs1=>fB ⟨fun e=>?_,fun e=>?_⟩⟩
 ·exact c _ _ _ (q1.1 e) rs1
 exact⟨env',Fr,k,rs1,q1.2 e,c⟩
theorem wo{f:PB}(h:GW X a f):GT X a f:=PW.pt h
theorem oH(ha:GT X a ta):GT X (.UnaryOp .Not a pos) (EJ ta):=by refine PT.imp (Gm ha) ?_;rintro σ H Q ⟨env,Fr,k,rs,q,c⟩;exact⟨env,Fr,_,rs,q,fun b env' H' q1 rs1=>c _ _ _ q1 rs1⟩
noncomputable def HX(fa fb:PF):PF:=fun env k=>fa env fun t env1=>match t with
 | .bl b=>cnd b (fb env1 k) (k (.bl false) env1)
 | _=>False
noncomputable def fOr(fa fb:PF):PF:=fun env k=>fa env fun t env1=>match t with
 | .bl b=>cnd b (k (.bl true) env1) (fb env1 k)
 | _=>False
noncomputable def Ib(fa:PF):PF:=fun env k=>fa env fun t env1=>match t with
 | .bl b=>k (.bl (!b)) env1
 | _=>False
def fIf(tc:PB)(fa fb:PF):PF:=fun env k=>tc env fun b env1=>cnd b (fa env1 k) (fb env1 k)
theorem kE{op}(h:GE X a fa):GE X (.BoolOp op [a] pos) fa:=FX h
theorem dQ(ha:GE X a fa)(hb:GE X (.BoolOp .And (b::rest) pos) fb):GE X (.BoolOp .And (a::b::rest) pos) (HX fa fb):=by
 refine PE.imp (FQ ha hb) ?_;rintro σ H Q ⟨env,Fr,k,rs,q,c⟩;refine⟨env,Fr,_,rs,q,fun t env' v H' q1 rs1=>?_⟩;cases t <;> first|exact q1.elim|skip
 rename_i bb;refine⟨bb,m7 rs1.head,fB ⟨fun e=>?_,fun e=>?_⟩⟩
 ·exact⟨env',Fr,k,rs1.drop,q1.1 e,c⟩
 exact c _ _ _ _ (q1.2 e) (eT rs1.drop fun _=>.bl)
theorem Bg(ha:GE X a fa)(hb:GE X (.BoolOp .Or (b::rest) pos) fb):GE X (.BoolOp .Or (a::b::rest) pos) (fOr fa fb):=by
 refine PE.imp (GY ha hb) ?_;rintro σ H Q ⟨env,Fr,k,rs,q,c⟩;refine⟨env,Fr,_,rs,q,fun t env' v H' q1 rs1=>?_⟩;cases t <;> first|exact q1.elim|skip
 rename_i bb;refine⟨bb,m7 rs1.head,fB ⟨fun e=>?_,fun e=>?_⟩⟩
 ·exact c _ _ _ _ (q1.1 e) (eT rs1.drop fun _=>.bl)
 exact⟨env',Fr,k,rs1.drop,q1.2 e,c⟩
theorem A7(ha:GE X a fa):GE X (.UnaryOp .Not a pos) (Ib fa):=by
 refine PE.imp (FA ha) ?_;rintro σ H Q ⟨env,Fr,k,rs,q,c⟩;refine⟨env,Fr,_,rs,q,fun t env' v H' q1 rs1=>?_⟩;cases t <;> first|exact q1.elim|skip
 rename_i bb;exact⟨bb,m7 rs1.head,c _ _ _ _ q1 (eT rs1.drop fun _=>.bl)⟩
theorem ge_if(hc:GT X c ta)(ha:GE X a fa)(hb:GE X b fb):GE X (.IfExp c a b pos) (fIf ta fa fb):=by
 refine PE.imp (Ac hc ha hb) ?_;rintro σ H Q ⟨env,Fr,k,rs,q,c⟩;refine⟨env,Fr,_,rs,q,fun b env' H' q1 rs1=>fB ⟨fun e=>?_,fun e=>?_⟩⟩
 ·exact⟨env',Fr,k,rs1,q1.1 e,c⟩
 exact⟨env',Fr,k,rs1,q1.2 e,c⟩
def FR:PFs:=fun env k=>k [] env
def EH(f:PF)(r:PFs):PFs:=fun env k=>f env fun t env1=>r env1 fun ts env2=>k (t::ts) env2
variable{es:List Ov}{fr:PFs}
theorem ag:GA X [] FR:=PA.imp ko (by rintro σ H Q ⟨env,Fr,k,rs,q,c⟩;exact c [] env [] H q rfl rs)
theorem ae(ha:GE X a fa)(hr:GA X es fr)(hs:Oy (a::es) X.env=(false,OK a X.env)::Oy es X.env:=by rfl):GA X (a::es) (EH fa fr):=by refine PA.imp (fx ha hr hs) ?_;rintro σ H Q ⟨env,Fr,k,rs,q,c⟩;refine⟨env,Fr,_,rs,q,fun t env1 v H1 q1 rs1=>⟨env1,_,_,rs1,q1,fun ts env2 vs H2 q2 l rs2=>c _ _ _ _ q2 (by rw[d_,d_,l]) ?_⟩⟩;exact rs2.perm i_
def HK(fr:PFs):PF:=fun env k=>fr env fun ts env1=>ts.length<=sizeLine/\k (.tup ts) env1
noncomputable def GN(fr:PFs):PF:=fun env k=>fr env fun ts env1=>ts.length<=sizeLine/\k (.lst true ts) env1
theorem aC{x1}(h:GA X es fr):GE X (.Tuple es x1 pos) (HK fr):=by refine PE.imp (DV h) ?_;rintro σ H Q ⟨env,Fr,k,rs,q,c⟩;refine⟨env,Fr,_,rs,q,fun ts env1 vs H1 ⟨z,q1⟩ l rs1=>⟨by rw[<-l];exact z,fun p H2 hp g e=>c _ _ _ _ q1 ?_⟩⟩;exact Rs.chg (Δ:=zz ts vs) (Δ':=[(.tup ts,some (.ref p))]) rs1 fun Γ r=>jl r l g e
theorem bM(h:GA X es fr):GE X (.List es pos) (GN fr):=by refine PE.imp (Cg h) ?_;rintro σ H Q ⟨env,Fr,k,rs,q,c⟩;refine⟨env,Fr,_,rs,q,fun ts env1 vs H1 ⟨z,q1⟩ l rs1=>⟨by rw[<-l];exact z,fun p H2 hp g e=>c _ _ _ _ q1 ?_⟩⟩;exact Rs.chg (Δ:=zz ts vs) (Δ':=[(.lst true ts,some (.ref p))]) rs1 fun Γ r=>gB r l hp g e
end
open PySem PySem.Spec PyProof.Rows L2
mutual
def dt:T->Dt
 | .int i=>.int i
 | .bl b=>.bl b
 | .str x=>.str x
 | .tup ts=>.tup (dtL ts)
 | .cst ts=>.tup (dtL ts)
 | .lst _ ts=>.lst (dtL ts)
 | _=>.non
def dtL:List T->List Dt
 | []=>[]
 |t::r=>dt t::dtL r
end
mutual
def isD:T->Bool
 | .tup ts=>sR ts
 | .cst ts=>sR ts
 | .lst _ ts=>sR ts
 | .int _=>true
 | .bl _=>true
 | .str _=>true
 | .non=>true
 | _=>false
def sR:List T->Bool
 | []=>true
 |t::r=>isD t&&sR r
end
section
variable{K:N7}
theorem Cw(g:Gr Hz H):(∀{t v L},RepT K Hz H t v L->isD t=true->Has K H (dt t) v)/\(∀{t v L},RepTs K Hz H t v L->sR t=true->cj K H (dtL t) v)/\(∀{t v L},RepKs K Hz H t v L->True)/\(∀{t v L},RepXs K Hz H t v L->True):=
 jx (P:=fun t v L=>isD t=true->Has K H (dt t) v) (Ps:=fun t v L=>sR t=true->cj K H (dtL t) v) (Pk:=fun t v L=>True) (Px:=fun t v L=>True)
  (fun n=>nomatch n) (fun n=>nomatch n) (fun _ _ n=>nomatch n) (fun _ n=>nomatch n) (fun _=>by show Has K H .non .non;rw[Has]) (fun _=>by rw[dt,Has]) (fun _=>by rw[dt,Has]) (fun _=>by rw[dt,Has]) (fun n=>nomatch n)
  (fun h c n=>by rw[dt,Has];exact⟨_,_,rfl,SqT.of h,c (by rw[isD]at n;exact n)⟩) (fun h c n=>by rw[dt,Has];exact⟨_,_,rfl,yb h H,c (by rw[isD]at n;exact n)⟩)
  (fun h c n=>by rw[dt,Has];exact⟨_,_,rfl,SqL.of h,c (by rw[isD]at n;exact n)⟩) (fun h c n=>by rw[dt,Has];exact⟨_,_,rfl,.inl (g _ _ h),c (by rw[isD]at n;exact n)⟩)
  (fun _ _ n=>nomatch n) (fun _ _ n=>nomatch n) (fun _ _ n=>nomatch n) (fun _ _ n=>nomatch n)
  (fun _=>by rw[dtL];exact uK) (fun i j n=>by rw[sR,JD]at n;rw[dtL];exact rN (i n.1) (j n.2)) trivial (fun _ _=>trivial) trivial (fun _ _=>trivial)
theorem RepT.has (g:Gr Hz H)(n:isD t=true)(h:RepT K Hz H t v L):Has K H (dt t) v:=(Cw g).1 h n
theorem De(h:isD t=true):isAny t=false:=by cases t <;> first|rfl|cases h
theorem su(h:Rp K H ((t,some y)::Γ))(n:isD t=true):Has K H (dt t) y:=by obtain⟨Hz,L,r,g⟩:=fE h (De n);exact r.has g n
end
noncomputable def F4:P2
 | .int i,.int j,k=>k (.int (i+j))
 | .str x,.str y,k=>x.length+y.length<=sizeLine/\k (.str (x++y))
 | .lst _ ts,.lst _ us,k=>ts.length+us.length<=sizeLine/\k (.lst true (ts++us))
 | .tup ts,.tup us,k=>ts.length+us.length<=sizeLine/\k (.tup (ts++us))
 | _,_,_=>False
def IX:P2
 | .int i,.int j,k=>k (.int (i-j))
 | _,_,_=>False
def HM:P2
 | .int i,.int j,k=>wd i j/\k (.int (i*j))
 | _,_,_=>False
def F8(p:Int->Int->Bool):P2
 | .int i,.int j,k=>k (.bl (p i j))
 | _,_,_=>False
def ltT:P2:=F8 fun i j=>decide (i<j)
def leT:P2:=F8 fun i j=>decide (i<=j)
def gtT:P2:=F8 fun i j=>decide (j<i)
def isV:T->Bool
 | .any=>false
 | .hole _=>false
 | .bare=>false
 | .kp _=>false
 | _=>true
def qF:T->Bool
 | .non=>true
 | _=>false
def HV:P2
 |t,.non,k=>isV t=true/\k (.bl (qF t))
 | _,_,_=>False
noncomputable def eqT:P2:=fun t u k=>isD t=true/\isD u=true/\dpt (dt t)<190/\k (.bl (eqD (dt t) (dt u)))
noncomputable def neT:P2:=fun t u k=>isD t=true/\isD u=true/\dpt (dt t)<190/\k (.bl (!eqD (dt t) (dt u)))
variable {n:Nat}{o:Bool}{r':Int->Int->V}
section
variable{X:Cx}
theorem Dl{C:Int->Int->Prop}{r:Int->Int->T}(h:OpR X f (rI C r'))(hr:∀i j K Hz H,RepT K Hz H (r i j) (r' i j) []):OpP X f (fun t u k=>match t,u with | .int i,.int j=>C i j/\k (r i j) | _,_=>False):=by
 refine .of h ?_;intro tx ty x y H Γ k Q rp g c;cases tx <;> cases ty <;> first|exact g.elim|skip
 rename_i i j;rw[aU rp,aU rp.tail];exact⟨i,j,rfl,rfl,g.1,c _ _ _ g.2 (bI rp.tail.tail fun Hz=>hr i j _ _ _)⟩
theorem lX{r:Int->Int->T}(h:OpR X f (rI0 r'))(hr:∀i j K Hz H,RepT K Hz H (r i j) (r' i j) []):OpP X f (fun t u k=>match t,u with | .int i,.int j=>k (r i j) | _,_=>False):=by
 refine .of h ?_;intro tx ty x y H Γ k Q rp g c;cases tx <;> cases ty <;> first|exact g.elim|skip
 rename_i i j;rw[aU rp,aU rp.tail];exact⟨i,j,rfl,rfl,c _ _ _ g (bI rp.tail.tail fun Hz=>hr i j _ _ _)⟩
theorem OpP.imp {g:P2}(h:OpP X f g)(k:∀tx ty k,g' tx ty k->g tx ty k):OpP X f g':=OpR.imp h (by rintro x y H Q ⟨tx,ty,Γ,kk,rp,gg,c⟩;exact⟨tx,ty,Γ,kk,rp,k _ _ _ gg,c⟩)
theorem Inv.IH {σ:L2.St}{l:N8}(I:Inv X pins σ H s)(hH:Rd H l (.lst xs)):xs.length<=sizeLine/\∃(its:List N5) (n:Nat),Vals xs its/\xs.length=its.length/\s.heap.get? l=some { cls:=.type "list",data:=.seq its.toArray n}:=by obtain⟨z,its,n,r,e⟩:=hH.ok I.hok;exact⟨z,its,n,r,r.length,e⟩
theorem Cz:OpR X (Ph .Add) (fun x y H Q=>∃l b xs zs,x=.ref l/\y=.ref b/\Rd H l (.lst xs)/\Rd H b (.lst zs)/\xs.length+zs.length<=sizeLine/\New (.lst (xs++zs)) H Q):=by
 intro pins s σ H x y v u Q I rx ry h;obtain⟨l,b,xs,zs,rfl,rfl,hH,hB,hz,q⟩:=h;cases rx;cases ry;obtain⟨z,its,n,r,hl,e⟩:=Inv.IH I hH;obtain⟨z2,its2,n2,r2,hl2,e2⟩:=Inv.IH I hB;refine PySem.P.add_list e e2 ?_ (by rw[p_,p_];lia);have ea:its.toArray++its2.toArray=(its++its2).toArray:=by simp
 rw[ea];exact⟨.ref _,_,I.J2 (t':=s.toks) (r.append r2) (by rw[g_];omega),rfl,q.at I.fresh⟩
theorem ir(h:Rp K H ((.lst o ts,some y)::Γ)):∃a vs,y=.ref a/\Rd H a (.lst vs)/\ts.length=vs.length/\Rp K H (zz ts vs++Γ):=by
 obtain⟨Hz,N,h,nd,g,d⟩:=h;cases h with
 |cons e1 h c=>
  rcases h with⟨z,_⟩|⟨v,e2,h⟩
  ·cases z
  cases e2;cases h
  ·rename_i a vs L h c1;rw[e1,JM,D']at nd;exact⟨a,vs,rfl,.inl h,c1.len,Hz,_,c1.toL.app c,nd.2,g,fun b m=>d b (by rw[e1,JM];exact j_ _ m)⟩
  rename_i a vs h c1;exact⟨a,vs,rfl,g _ _ h,c1.len,Hz,_,c1.toL.app c,by rw[<-e1];exact nd,g,fun b m=>d b (by rw[e1];exact m)⟩
theorem oA(h:Rp K H ((.tup ts,some y)::Γ)):∃a vs,y=.ref a/\H a=some (.tup vs)/\ts.length=vs.length/\Rp K H (zz ts vs++Γ):=by
 obtain⟨Hz,N,h,nd,g,d⟩:=h;cases h with
 |cons e1 h c=>
  rcases h with⟨z,_⟩|⟨v,e2,h⟩
  ·cases z
  cases e2;cases h with
  |tup h c1=>exact⟨_,_,rfl,h,c1.len,Hz,_,c1.toL.app c,by rw[<-e1];exact nd,g,fun b m=>d b (by rw[e1];exact m)⟩
theorem mU{us:List T}{ws:List V}(l:ts.length=vs.length):zz (ts++us) (vs++ws)=zz ts vs++zz us ws:=by show(ts++us).zip ((vs++ws).map some)=_;rw[v_,NB (by rw[a_];exact l)]
theorem CB:OpR X (Ph .Add) (fun x y H Q=>∃a b ys,x=.ref a/\y=.ref b/\SqT X.K H a []/\SqT X.K H b ys/\Q (.ref b) H):=by
 intro pins s σ H x y v u Q I rx ry h;obtain⟨a,b,ys,rfl,rfl,ha,hb,q⟩:=h;cases rx;cases ry;obtain⟨its,r1,p1,_⟩:=I.tuple ha;obtain⟨its2,r2,p2,_⟩:=I.tuple hb;cases r1;obtain⟨⟨cls,dd,data,sl⟩,ho,hc,n,hd⟩:=id p1;obtain⟨⟨cls2,dd2,data2,sl2⟩,ho2,hc2,n2,hd2⟩:=id p2;simp only at hc hd hc2 hd2;subst hc hd hc2 hd2;exact So ⟨_,ho,rfl⟩ ⟨_,ho2,rfl⟩ Rv Se QC Qv (Qo _ _)
  (tuple_addW0 a b _ its2.toArray n n2 dd dd2 sl sl2 (by simp)) ⟨ho,ho2,⟨.ref b,H,I,rfl,q⟩⟩
theorem aD:OpP X (Ph .Add) F4:=by
 rintro pins s σ H x y v u Q I rx ry ⟨tx,ty,Γ,k,rp,g,c⟩;cases tx <;> cases ty <;> first|exact Oz g|skip
 ·rename_i i j;rw[aU rp]at ry;rw[aU rp.tail]at rx;exact p9 pins s σ H _ _ v u Q I rx ry ⟨i,j,rfl,rfl,c _ _ _ g (bI rp.tail.tail fun _=>.int)⟩
 ·rename_i i j;rw[jW rp]at ry;rw[jW rp.tail]at rx;exact x4 pins s σ H _ _ v u Q I rx ry ⟨i,j,rfl,rfl,g.1,c _ _ _ g.2 (bI rp.tail.tail fun _=>.str)⟩
 ·rename_i ts us;obtain⟨b,ws,rfl,hb,lb,rp2⟩:=oA rp;obtain⟨a,vs,rfl,ha,la,rp3⟩:=oA (rp2.perm i_);have lz:vs.length+ws.length<=sizeLine:=by rw[<-la,<-lb];exact g.1
  have rp4:Rp X.K H (zz (ts++us) (vs++ws)++Γ):=by rw[mU la,k_];exact rp3
  by_cases hx:vs=[]
  ·subst hx;refine CB pins s σ H _ _ v u Q I rx ry ⟨a,b,ws,rfl,rfl,SqT.of ha,SqT.of hb,?_⟩;refine c _ _ _ g.2 (jl rp4 (by rw[g_,g_,la,lb]) .bW ?_);rw[Mb];exact hb
  refine D3 pins s σ H _ _ v u Q I rx ry ⟨a,b,vs,ws,rfl,rfl,SqT.of ha,SqT.of hb,hx,lz,fun e=>?_,fun _ p hp=>c _ _ _ g.2 (jl rp4 (by rw[g_,g_,la,lb]) (bP hp _) aO)⟩;refine c _ _ _ g.2 (jl rp4 (by rw[g_,g_,la,lb]) .bW ?_);rw[e,D_];exact ha
 rename_i o ts o' us;obtain⟨b,ws,rfl,hb,lb,rp2⟩:=ir rp;obtain⟨a,vs,rfl,ha,la,rp3⟩:=ir (rp2.perm i_);have lz:vs.length+ws.length<=sizeLine:=by rw[<-la,<-lb];exact g.1
 have rp4:Rp X.K H (zz (ts++us) (vs++ws)++Γ):=by rw[mU la,k_];exact rp3
 exact Cz pins s σ H _ _ v u Q I rx ry ⟨a,b,vs,ws,rfl,rfl,ha,hb,lz,fun p H' hp g' e=>c _ _ _ g.2 (gB rp4 (by rw[g_,g_,la,lb]) hp g' e)⟩
theorem bA:OpP X (Ph .Sub) IX:=(lX (r:=fun i j=>.int (i-j)) Fu fun _ _ _ _ _=>.int).imp fun tx ty k g=>by cases tx <;> cases ty <;> exact g
theorem aK:OpP X (Ph .Mult) HM:=(Dl (r:=fun i j=>.int (i*j)) kQ fun _ _ _ _ _=>.int).imp fun tx ty k g=>by cases tx <;> cases ty <;> exact g
theorem hE:OpP X (OV .Lt) ltT:=(lX (r:=fun i j=>.bl (decide (i<j))) GP fun _ _ _ _ _=>.bl).imp fun tx ty k g=>by cases tx <;> cases ty <;> exact g
theorem vZ:OpP X (OV .LtE) leT:=(lX (r:=fun i j=>.bl (decide (i<=j))) Hs fun _ _ _ _ _=>.bl).imp fun tx ty k g=>by cases tx <;> cases ty <;> exact g
theorem sF:OpP X (OV .Gt) gtT:=(lX (r:=fun i j=>.bl (decide (j<i))) HE fun _ _ _ _ _=>.bl).imp fun tx ty k g=>by cases tx <;> cases ty <;> exact g
theorem EK{k:Nat}{A:OB}(r:Room k A)(h:n<190):A.units+n<cLine:=by have:=r.un;lia
theorem bh{k:Nat}(hr:Room k X.A):OpP X (OV .Eq) eqT:=.of BG fun tx ty x y H Γ k Q rp ⟨d1,d2,z,g⟩ c=>
 ⟨dt tx,dt ty,su rp.tail d1,su rp d2,EK hr z,c _ _ _ g (bI rp.tail.tail fun _=>.bl)⟩
theorem sh{k:Nat}(hr:Room k X.A):OpP X (OV .NotEq) neT:=.of G6 fun tx ty x y H Γ k Q rp ⟨d1,d2,z,g⟩ c=>
 ⟨dt tx,dt ty,su rp.tail d1,su rp d2,EK hr z,c _ _ _ g (bI rp.tail.tail fun _=>.bl)⟩
theorem Cv{x:V}(rp:Rp K H ((t,some x)::Γ))(n:isV t=true):decide (x=.non)=qF t:=by obtain⟨Hz,L,r,g⟩:=fE rp (by cases t <;> first|rfl|cases n);cases r <;> first|rfl|cases n
theorem sM:OpP X (OV .Is) HV:=.of Gz fun tx ty x y H Γ k Q rp g c=>by
 cases ty <;> first|exact Oz g|skip
 refine⟨sI rp,?_⟩;rw[Cv rp.tail g.1];exact c _ _ _ g.2 (bI rp.tail.tail fun _=>.bl)
end
open PySem PySem.Spec PyProof.Rows L2
noncomputable def wD:T->Option Key
 | .int i=>some (.inl i)
 | .str x=>some (.inr x)
 | .non=>some (.inr none)
 | _=>none
noncomputable def o8:List T->Option (List Key)
 | []=>some []
 |t::r=>match wD t,o8 r with
  |some k,some ks=>some (k::ks)
  | _,_=>none
section
variable{κ:Type}[DecidableEq κ]
def Bq(kvs:List (κ×T))(k:κ):Option T:=(kvs.find? fun kv=>decide (kv.1=k)).map (·.2)
noncomputable def nE(kvs:List (κ×T))(k:κ)(v:T):List (κ×T):=
 if(kvs.any fun kv=>decide (kv.1=k))=true then kvs.map (fun kv=>if kv.1=k then(kv.1,v)else kv)else kvs++[(k,v)]
theorem nB:∀{ts:List (κ×T)}{vs:List (κ×V)}{q:κ}{u:T},ts.map (·.1)=vs.map (·.1)->Bq ts q=some u->∃(w:V) (i:Nat),eX vs q=some w/\(ts.map (·.2))[i]?=some u/\(vs.map (·.2))[i]?=some w
 | [],vs,q,u,e,h=>by cases h
 | (k,t)::ts,[],q,u,e,h=>by cases e
 | (k,t)::ts,(k',v)::vs,q,u,e,h=>by
  rw[f',f',J_]at e;have e0:k=k':=e.1;subst e0;unfold Bq at h;rw[JZ]at h;unfold eX;rw[JZ];by_cases hk:k=q
  ·have hk':decide (k=q)=true:=decide_eq_true hk;rw[show decide ((k,t).1=q)=true from hk']at h;rw[show decide ((k,v).1=q)=true from hk'];cases h;exact⟨v,0,rfl,rfl,rfl⟩
  have hk':decide (k=q)=false:=decide_eq_false hk;rw[show decide ((k,t).1=q)=false from hk']at h;rw[show decide ((k,v).1=q)=false from hk'];obtain⟨w,i,h1,h2,h3⟩:=nB (ts:=ts) (vs:=vs) e.2 h;exact⟨w,i+1,h1,by simpa using h2,by simpa using h3⟩
end
section
variable{K:N7}{H:Hp}{Γ:Fm}
theorem B8{ts:List (Key×T)}(h:Rp K H ((.dK o ts,some y)::Γ)):∃a vs,y=.ref a/\Rd H a (.dK vs)/\ts.map (·.1)=vs.map (·.1)/\Rp K H (zz (ts.map (·.2)) (vs.map (·.2))++Γ):=by
 obtain⟨Hz,N,h,nd,g,d⟩:=h;cases h with
 |cons e1 h c=>
  rcases h with⟨z,_⟩|⟨v,e2,h⟩
  ·cases z
  cases e2;cases h
  ·rename_i a vs L h c1;obtain⟨ek,c2⟩:=c1.toL;rw[e1,JM,D']at nd;exact⟨a,vs,rfl,.inl h,ek,Hz,_,c2.toL.app c,nd.2,g,fun b m=>d b (by rw[e1,JM];exact j_ _ m)⟩
  rename_i a vs h c1;obtain⟨ek,c2⟩:=c1.toL;exact⟨a,vs,rfl,g _ _ h,ek,Hz,_,c2.toL.app c,by rw[<-e1];exact nd,g,fun b m=>d b (by rw[e1];exact m)⟩
theorem pS{ts:List (List Key×T)}(h:Rp K H ((.dT o ts,some y)::Γ)):∃a vs,y=.ref a/\Rd H a (.dT vs)/\ts.map (·.1)=vs.map (·.1)/\Rp K H (zz (ts.map (·.2)) (vs.map (·.2))++Γ):=by
 obtain⟨Hz,N,h,nd,g,d⟩:=h;cases h with
 |cons e1 h c=>
  rcases h with⟨z,_⟩|⟨v,e2,h⟩
  ·cases z
  cases e2;cases h
  ·rename_i a vs L h c1;obtain⟨ek,c2⟩:=c1.toL;rw[e1,JM,D']at nd;exact⟨a,vs,rfl,.inl h,ek,Hz,_,c2.toL.app c,nd.2,g,fun b m=>d b (by rw[e1,JM];exact j_ _ m)⟩
  rename_i a vs h c1;obtain⟨ek,c2⟩:=c1.toL;exact⟨a,vs,rfl,g _ _ h,ek,Hz,_,c2.toL.app c,by rw[<-e1];exact nd,g,fun b m=>d b (by rw[e1];exact m)⟩
theorem y0{k:Key}(e:wD t=some k)(h:Rp K H ((t,some y)::Γ)):y=kV k:=by
 cases t <;> cases e
 ·rw[sI h];rfl
 ·rw[aU h];rfl
 rw[jW h];rfl
theorem AJ{k:Key}(e:wD t=some k)(h:RepT K Hz H t v L):v=kV k:=by
 cases t <;> cases e
 ·cases h;rfl
 ·cases h;rfl
 cases h;rfl
theorem r9{Hz:Hp}:∀{ts:List T}{ks:List Key}{vs:List V}{L:List N8},o8 ts=some ks->RepTs K Hz H ts vs L->vs=ks.map kV
 | [],ks,_,_,e,r=>by cases r;cases e;rfl
 |t::ts,ks,_,_,e,r=>by
  cases r with
  |cons _ h c=>
   rw[o8]at e;split at e
   ·rename_i k r e1 e2;cases e;rw[AJ e1 h,r9 e2 c]
    rfl
   cases e
theorem xZ{ks:List Key}(e:o8 ts=some ks)(h:Rp K H ((.tup ts,some y)::Γ)):∃b,y=.ref b/\H b=some (.tup (ks.map kV)):=by
 obtain⟨Hz,L,r,g⟩:=fE h rfl;cases r with
 |tup h1 c1=>exact⟨_,rfl,by rw[h1,r9 e c1]⟩
end
noncomputable def ixT:P2
 | .tup ts,.int i,k=>got (atI ts i) k
 | .cst ts,.int i,k=>got (atI ts i) k
 | .lst _ ts,.int i,k=>got (atI ts i) k
 | .str x,.int i,k=>x.length<=sizeLine/\got (atI x.cps.toList i) fun c=>k (.str ⟨#[c]⟩)
 | .dK _ kvs,y,k=>got (wD y) fun q=>got (Bq kvs q) k
 | .dT _ kvs,.tup ts,k=>got (o8 ts) fun q=>got (Bq kvs q) k
 | _,_,_=>False
variable {kr:Nat}{pos:Pos}
section
variable{X:Cx}
theorem ym(hu:X.A.units+1<cLine):IxR X (fun x y H Q=>∃a v,x=.ref a/\nZ H a y (some v)/\Q v H):=by
 intro value slice pins s σ H x y v u Q I rx ry h hs;obtain⟨a,z,rfl,g,q⟩:=h;cases rx;have hT:=nT I g;unfold QG;refine N6 ?_;rw[RV hT.not_modules];refine N6 (RG hT Rl.lookup ?_);have fin:Of (Oq X.prog X.w) X.A (Q5 slice false (.ref a) u) (fun r s₃=>Of (Oq X.prog X.w) X.A (Tt value (.ref a) r >>= fun _=>pure r) (EP X pins σ Q) X.xe s₃) X.xe s:=by rw[hs];refine Tb (qZ hu I g ry fun w' s' I' r'=>N6 (R8 (Oa ⟨z,H,I',r',q⟩)))
 first
  |exact Oa (N6 fin)
  |exact N6 (Oa (N6 fin))
  |exact N6 fin
theorem Jo(hr:Room kr X.A):IxR X (w2 X.K ixT):=by
 rintro value slice pins s σ H x y v u Q I rx ry ⟨tx,ty,Γ,k,rp,g,c⟩ hs;have sq:∀ts i,items tx=some ts->ty=.int i->got (atI ts i) k->Of (Oq X.prog X.w) X.A (QG value slice v u) (EP X pins σ Q) X.xe s:=fun ts i e1 e2 g=>by obtain⟨t,et,kt⟩:=aI g;subst e2;rw[aU rp]at ry;obtain⟨a,vs,rfl,hq,l,rp2⟩:=aJ e1 rp.tail;obtain⟨w,ew,rp3⟩:=A3 l et rp2;exact Jc value slice pins s σ H _ _ v u Q I rx ry ⟨_,a,vs,i,w,rfl,rfl,hq,ew,c _ _ _ kt rp3⟩ hs
 cases tx with
 |tup ts=>cases ty <;> first|exact Oz g|exact sq _ _ rfl rfl g
 |cst ts=>cases ty <;> first|exact Oz g|exact sq _ _ rfl rfl g
 |lst o ts=>cases ty <;> first|exact Oz g|exact sq _ _ rfl rfl g
 |str z=>
  cases ty <;> first|exact Oz g|skip
  rename_i i;obtain⟨hz,g⟩:=g;obtain⟨t,et,kt⟩:=aI g;rw[aU rp]at ry;rw[jW rp.tail]at rx;exact AB value slice pins s σ H _ _ v u Q I rx ry ⟨z,i,t,rfl,rfl,hz,et,c _ _ _ kt (bI rp.tail.tail fun _=>.str)⟩ hs
 |dK o kvs=>
  have g:got (wD ty) fun q=>got (Bq kvs q) k:=by cases ty <;> exact g
  obtain⟨q,eq,g⟩:=aI g;obtain⟨t,et,kt⟩:=aI g;rw[y0 eq rp]at ry;obtain⟨a,vs,rfl,hq,ek,rp2⟩:=B8 rp.tail;obtain⟨w,i,ew,e1,e2⟩:=nB ek et;exact ym (rD hr) value slice pins s σ H _ _ v u Q I rx ry ⟨a,w,rfl,.inl ⟨vs,q,hq,rfl,ew.symm⟩,c _ _ _ kt (jw rp2 e1 e2)⟩ hs
 |dT o kvs=>
  cases ty <;> first|exact Oz g|skip
  rename_i ts;obtain⟨q,eq,g⟩:=aI g;obtain⟨t,et,kt⟩:=aI g;obtain⟨b,rfl,hb⟩:=xZ eq rp;obtain⟨a,vs,rfl,hq,ek,rp2⟩:=pS rp.tail;obtain⟨w,i,ew,e1,e2⟩:=nB ek et;exact ym (rD hr) value slice pins s σ H _ _ v u Q I rx ry ⟨a,w,rfl,.inr ⟨vs,q,b,hq,rfl,hb,ew.symm⟩,c _ _ _ kt (jw rp2 e1 e2)⟩ hs
 | _=>cases ty <;> exact Oz g
theorem aq{kr:Nat}{a b:Ov}{fa fb:PF}{pos:Pos}(hr:Room kr X.A)(ha:GE X a fa)(hb:GE X b fb)(hs:xS b:=by intro _ _;rfl):GE X (.Subscript a b pos) (zl ixT fa fb):=PE.imp (Eu (Jo hr) ha hb hs) yA
noncomputable def fUn(g:T->(T->Prop)->Prop)(fa:PF):PF:=fun env k=>fa env fun t env1=>g t fun u=>k u env1
def HC:T->(T->Prop)->Prop
 | .int i,k=>k (.int (-i))
 | _,_=>False
theorem bJ{a:Ov}{fa:PF}(ha:GE X a fa):GE X (.UnaryOp .USub a pos) (fUn HC fa):=by
 refine PE.imp (HJ Gi ha) ?_;rintro σ H Q ⟨env,Fr,k,rs,q,c⟩;refine⟨env,Fr,_,rs,q,fun t env1 v H1 q1 rs1=>?_⟩;cases t <;> first|exact Oz q1|skip
 rename_i i;exact⟨i,aU rs1.head,c _ _ _ _ q1 (eT rs1.drop fun _=>.int)⟩
end
open PySem PySem.Spec PyProof.Rows L2
abbrev P1s:=List T->(T->Prop)->Prop
noncomputable def w1s(K:N7)(g:P1s):List V->Hp->VK->Prop:=fun xs H Q=>∃ts Γ k,ts.length=xs.length/\Rp K H (zz ts xs++Γ)/\g ts k/\∀t v H',k t->Rp K H' ((t,some v)::Γ)->Q v H'
def fw(X:Cx)(f:N5)(g:P1s):Prop:=bp X f (w1s X.K g)
def fCl(g:P1s)(fr:PFs):PF:=fun env k=>fr env fun ts env1=>g ts fun t=>k t env1
section
variable{X:Cx}{e:Ov}{es:List Ov}{fr:PFs}{pos p:Pos}{x:Str}{g:P1s}
theorem EM:∀ σ H Q,wE X.K (fCl g fr) σ H Q->tCB (w1s X.K g) (wA X.K fr) σ H Q:=by rintro σ H Q ⟨env,Fr,k,rs,q,c⟩;refine⟨env,Fr,_,rs,q,fun ts env1 vs H1 q1 l rs1=>?_⟩;refine⟨ts,env1.zip σ++Fr,_,l,?_,q1,fun t v H' kt rp=>c _ _ _ _ kt (.of rs1.1 rp)⟩;refine rs1.2.perm ?_;rw[<-k_,<-k_];exact Km.append_right _
theorem au{id:String}(hc:fw X (.builtin id) g)(hg:Gl X x)(hm:X.mg x=none)(hv:Pz x=some (.builtin id))(ha:GA X (e::es) fr)(hn:x≠"__name__":=by decide)(hdb:(x ==("__debug__":Str))=false:=by decide)
  (he:Oy (e::es) X.env=(false,OK e X.env)::Oy es X.env:=by rfl) (hpl:(Qb pos (Oy es X.env)).any (·.1)=false:=by rfl):GE X (.Call (.Name x p) (e::es) [] pos) (fCl g fr):=PE.imp (pO hc hg hm hv ha hn hdb he hpl) EM
theorem bR{id:String}(hc:fw X (.type id) g)(hg:Gl X x)(hm:X.mg x=none)(hv:Pz x=some (.type id))(ha:GA X (e::es) fr)(hn:x≠"__name__":=by decide)(hdb:(x ==("__debug__":Str))=false:=by decide)
  (he:Oy (e::es) X.env=(false,OK e X.env)::Oy es X.env:=by rfl) (hpl:(Qb pos (Oy es X.env)).any (·.1)=false:=by rfl):GE X (.Call (.Name x p) (e::es) [] pos) (fCl g fr):=PE.imp (qQ hc hg hm hv ha hn hdb he hpl) EM
end
variable {E Q:N5->N9->Prop}{kvs:List (List Key×V)}{u:T}{w:Ot}
section
variable{X:Cx}
theorem zz1(l:ts.length=xs.length)(e:ts=[t]):∃x,xs=[x]:=by
 subst e;rcases xs with _|⟨x,_|⟨y,xs⟩⟩
 ·cases l
 ·exact⟨x,rfl⟩
 cases l
theorem zz2(l:ts.length=xs.length)(e:ts=[t,u]):∃x y,xs=[x,y]:=by
 subst e;rcases xs with _|⟨x,xs⟩
 ·cases l
 obtain⟨y,rfl⟩:=zz1 (ts:=[u]) (Ks l) rfl;exact⟨x,y,rfl⟩
theorem zz3{w:T}(l:ts.length=xs.length)(e:ts=[t,u,w]):∃x y z,xs=[x,y,z]:=by
 subst e;rcases xs with _|⟨x,xs⟩
 ·cases l
 obtain⟨y,z,rfl⟩:=zz2 (ts:=[u,w]) (Ks l) rfl;exact⟨x,y,z,rfl⟩
theorem wN{prog:Oj}(d:N8)(nd:(d == OY)=false) :
  MeetsIn prog w (Qj.«dict.__len__» ⟨[.ref d],[]⟩) (fun _ R s=>∃o es ep,s.heap.get? d=some o/\o.data=.dict es ep/\R (.ok (.ret (.int es.size s.toks))) {s with toks:=s.toks+1}):=
 .of_wp fun A R s ⟨o,es,ep,ho,hdat,q⟩=>by show Of _ _ (dictSize d >>= _) _ _ s;unfold dictSize;refine N6 (N6 (Qx ho hdat (Oa ?_)));show Of _ _ (Ud d >>= _) _ _ s;exact N6 (wpAny_pendingCount_other nd (wpAny_ret_mkInt (by rw[LH];exact q)))
theorem Ck{prog:Oj}{A:OB}{d:N8}{o:Obj}{es:Array PX}{ep:Nat}(nd:(d == OY)=false)(ho:s.heap.get? d=some o)(hc:o.ExactDict)(hdat:o.data=.dict es ep)
  (fit:(es.size:Int)<2 ^ 63) (q:∀t tk,Q (.int es.size t) {s with toks:=tk}):Of (Oq prog w) A (call (.builtin "len") [.ref d]) Q E s:=by
 have ty:s.TypeIs (.ref d) "dict":=⟨_,ho,hc.1⟩;refine Qm kind_len plain_len entry_len (args_len1 _) ?_;unfold Qj.«len»;refine N6 (m:=oneArg "len" _) (Oa ?_);refine N6 (m:=callSpecial? (.ref d) (P0 "__len__")) (O3 (name:=P0 "__len__") ty RZ
  (call_meetsIn RZ ty PySem.F.entry_dict_len (PySem.F.args_dict_len_1 _) (wN d nd) ⟨o,es,ep,ho,hdat,?_⟩))
 show Of _ _ _ _ _ {s with toks:=s.toks+1};refine N6 (OH (Oa (N6 (RP ?_))));show Of _ _ (if((es.size:Nat):Int)<0 then _ else _) _ _ _;rw[if_neg (by lia)];show Of _ _ (if((es.size:Nat):Int)>=2 ^ 63 then _ else _) _ _ _;rw[if_neg (by lia)];exact N6 (Uy (Oa ⟨_,rfl,q _ _⟩))
theorem Gu{σ:L2.St}(I:Inv X pins σ H s)(e:Rd H a (.dT kvs))(q:∀t s',Inv X pins σ H s'->Q (.int kvs.length t) s'):Of (Oq X.prog X.w) X.A (call (.builtin "len") [.ref a]) Q E s:=by
 obtain⟨z,hd,xs,rel,o,es,ep,h1,h2,h3,h4,_⟩:=xJ I.hok e;have hs:es.size=kvs.length:=by have:=congrArg Mh h4;rw[a_]at this;rw[<-h_,this];exact(Pf rel).symm
 refine Ck hd h1 h2 h3 (by rw[sizeLine_eq]at z;lia) fun t tk=>?_
 rw[hs];exact q _ _ (I.tok _)
noncomputable def A0:P1s
 | [t],k=>match t with
  | .str x=>x.length<=sizeLine/\k (.int x.length)
  | .dK _ kvs=>k (.int kvs.length)
  | .dT _ kvs=>k (.int kvs.length)
  |t=>got (items t) fun ts=>k (.int ts.length)
 | _,_=>False
theorem bS:fw X (.builtin "len") A0:=by
 rintro pins s σ H xs us Q I r ⟨ts,Γ,k,l,rp,g,c⟩
 match ts,l,g with
 | [t],l,g=>
  obtain⟨x,rfl⟩:=zz1 l rfl;have rp:Rp X.K H ((t,some x)::Γ):=rp;have sq:(got (items t) fun ts=>k (.int ts.length))->Of (Oq X.prog X.w) X.A (call (.builtin "len") us) (EP X pins σ Q) X.xe s:=fun g=>by obtain⟨us',e,kt⟩:=aI g;obtain⟨a,vs,rfl,hq,l2,rp2⟩:=aJ e rp;rw[l2]at kt;exact zQ pins s σ H _ us Q I r ⟨_,a,vs,rfl,hq,c _ _ _ kt (bI rp.tail fun _=>.int)⟩
  cases t with
  |str z=>
   rw[jW rp]at r;exact sH pins s σ H _ us Q I r ⟨z,rfl,g.1,c _ _ _ g.2 (bI rp.tail fun _=>.int)⟩
  |dK o kvs=>
   obtain⟨a,vs,rfl,hq,ek,rp2⟩:=B8 rp;obtain⟨u,rfl,ru⟩:=vals1 r;cases ru;have g:k (.int kvs.length):=g;rw[bY ek]at g;exact IF I hq fun t s' I'=>⟨.int vs.length,H,I',⟨t,rfl⟩,c _ _ _ g (bI rp.tail fun _=>.int)⟩
  |dT o kvs=>
   obtain⟨a,vs,rfl,hq,ek,rp2⟩:=pS rp;obtain⟨u,rfl,ru⟩:=vals1 r;cases ru;have g:k (.int kvs.length):=g;rw[bY ek]at g;exact Gu I hq fun t s' I'=>⟨.int vs.length,H,I',⟨t,rfl⟩,c _ _ _ g (bI rp.tail fun _=>.int)⟩
  | _=>exact sq g
 | [],_,g=>exact Oz g
 | _::_::_,_,g=>exact Oz g
def Ij:P1s
 | [.int i],k=>k (.int i.natAbs)
 | _,_=>False
theorem jD:fw X (.builtin "abs") Ij:=by
 rintro pins s σ H xs us Q I r ⟨ts,Γ,k,l,rp,g,c⟩;rcases ts with _|⟨t,_|⟨u,ts⟩⟩
 ·exact g.elim
 rotate_left
 ·cases t <;> exact g.elim
 cases t <;> try exact g.elim
 rename_i i;obtain⟨x,rfl⟩:=zz1 l rfl;have rp:Rp X.K H ((.int i,some x)::Γ):=rp;rw[aU rp]at r;refine B3 pins s σ H _ us Q I r ⟨i,rfl,?_⟩;have e:(if i<0 then -i else i)=(i.natAbs:Int):=by split <;> lia
 rw[e];exact c _ _ _ g (bI rp.tail fun _=>.int)
noncomputable def intsOf:List T->Option (List Int)
 | []=>some []
 | .int i::r=>match intsOf r with
  |some ns=>some (i::ns)
  |none=>none
 | _::_=>none
theorem wV(ns:List Int):intsOf (ns.map T.int)=some ns:=by
 induction ns with
 |nil=>rfl
 |cons n r ih=>rw[f',intsOf,ih]
theorem eA:∀{ts:List T}{ns:List Int},intsOf ts=some ns->ts=ns.map T.int
 | [],ns,e=>by cases e;rfl
 |t::ts,ns,e=>by
  cases t <;> first|cases e|skip
  rename_i i;rw[intsOf]at e;split at e
  ·rename_i ms em;cases e;rw[f',eA em]
  cases e
theorem fA{K:N7}{H:Hp}{Γ:Fm}:∀{ns:List Int}{vs:List V},(ns.map T.int).length=vs.length->Rp K H (zz (ns.map T.int) vs++Γ)->vs=ns.map V.int
 | [],[],_,_=>rfl
 | [],_::_,l,_=>by simp at l
 | _::_,[],l,_=>by simp at l
 |n::ns,v::vs,l,h=>by
  have h:Rp K H ((.int n,some v)::(zz (ns.map T.int) vs++Γ)):=h;rw[aU h,fA (by simpa using l) h.tail]
  rfl
noncomputable def BH:P1s
 | [.int i,.int j],k=>k (.int (max i j))
 | [.int i,.int j,.int l],k=>k (.int (max (max i j) l))
 | [t],k=>got (items t) fun ts=>got (intsOf ts) fun ns=>ns≠[]/\∀r,iQ ns r->k (.int r)
 | _,_=>False
noncomputable def Bz:P1s
 | [.int i,.int j],k=>k (.int (min i j))
 | [.int i,.int j,.int l],k=>k (.int (min (min i j) l))
 | [t],k=>got (items t) fun ts=>got (intsOf ts) fun ns=>ns≠[]/\∀r,iS ns r->k (.int r)
 | _,_=>False
theorem jF(hc:X.calm=true):fw X (.builtin "max") BH:=by
 rintro pins s σ H xs us Q I r ⟨ts,Γ,k,l,rp,g,c⟩;unfold BH at g;split at g
 ·rename_i k i j;obtain⟨x,y,rfl⟩:=zz2 l rfl;have rp:Rp X.K H ((.int i,some x)::(.int j,some y)::Γ):=rp;rw[aU rp,aU rp.tail]at r;refine zj hc pins s σ H _ us Q I r ⟨i,j,rfl,?_⟩;have e:(if j > i then j else i)=max i j:=by split <;> lia
  rw[e];exact c _ _ _ g (bI rp.tail.tail fun _=>.int)
 ·rename_i k i j m;obtain⟨x,y,z,rfl⟩:=zz3 l rfl;have rp:Rp X.K H ((.int i,some x)::(.int j,some y)::(.int m,some z)::Γ):=rp;rw[aU rp,aU rp.tail,aU rp.tail.tail]at r;refine zp hc pins s σ H _ us Q I r ⟨i,j,m,rfl,fun w h1 h2 h3 h4=>?_⟩;have e:w=max (max i j) m:=by lia
  rw[e];exact c _ _ _ g (bI rp.tail.tail.tail fun _=>.int)
 ·rename_i k t;obtain⟨x,rfl⟩:=zz1 l rfl;have rp:Rp X.K H ((t,some x)::Γ):=rp;obtain⟨us',e,g⟩:=aI g;obtain⟨ns,en,ne,kt⟩:=aI g;have:=eA en;subst this;obtain⟨a,vs,rfl,hq,l2,rp2⟩:=aJ e rp;have:=fA l2 rp2;subst this;revert hq;cases qc t with
  |true=>exact fun hq=>yZ hc pins s σ H _ us Q I r ⟨a,ns,rfl,hq,ne,fun w hw=>c _ _ _ (kt w hw) (bI rp.tail fun _=>.int)⟩
  |false=>exact fun hq=>zO hc pins s σ H _ us Q I r ⟨a,ns,rfl,hq,ne,fun w hw=>c _ _ _ (kt w hw) (bI rp.tail fun _=>.int)⟩
 exact Oz g
theorem jH(hc:X.calm=true):fw X (.builtin "min") Bz:=by
 rintro pins s σ H xs us Q I r ⟨ts,Γ,k,l,rp,g,c⟩;unfold Bz at g;split at g
 ·rename_i k i j;obtain⟨x,y,rfl⟩:=zz2 l rfl;have rp:Rp X.K H ((.int i,some x)::(.int j,some y)::Γ):=rp;rw[aU rp,aU rp.tail]at r;refine yV hc pins s σ H _ us Q I r ⟨i,j,rfl,?_⟩;have e:(if j<i then j else i)=min i j:=by split <;> lia
  rw[e];exact c _ _ _ g (bI rp.tail.tail fun _=>.int)
 ·rename_i k i j m;obtain⟨x,y,z,rfl⟩:=zz3 l rfl;have rp:Rp X.K H ((.int i,some x)::(.int j,some y)::(.int m,some z)::Γ):=rp;rw[aU rp,aU rp.tail,aU rp.tail.tail]at r;refine A1 hc pins s σ H _ us Q I r ⟨i,j,m,rfl,fun w h1 h2 h3 h4=>?_⟩;have e:w=min (min i j) m:=by lia
  rw[e];exact c _ _ _ g (bI rp.tail.tail.tail fun _=>.int)
 ·rename_i k t;obtain⟨x,rfl⟩:=zz1 l rfl;have rp:Rp X.K H ((t,some x)::Γ):=rp;obtain⟨us',e,g⟩:=aI g;obtain⟨ns,en,ne,kt⟩:=aI g;have:=eA en;subst this;obtain⟨a,vs,rfl,hq,l2,rp2⟩:=aJ e rp;have:=fA l2 rp2;subst this;revert hq;cases qc t with
  |true=>exact fun hq=>zM hc pins s σ H _ us Q I r ⟨a,ns,rfl,hq,ne,fun w hw=>c _ _ _ (kt w hw) (bI rp.tail fun _=>.int)⟩
  |false=>exact fun hq=>zR hc pins s σ H _ us Q I r ⟨a,ns,rfl,hq,ne,fun w hw=>c _ _ _ (kt w hw) (bI rp.tail fun _=>.int)⟩
 exact Oz g
def xU:P1s
 | [t],k=>got (items t) fun ts=>k (.lst true ts)
 | _,_=>False
theorem iM:fw X (.type "list") xU:=by
 rintro pins s σ H xs us Q I r ⟨ts,Γ,k,l,rp,g,c⟩;unfold xU at g;split at g
 ·rename_i k t;obtain⟨x,rfl⟩:=zz1 l rfl;have rp:Rp X.K H ((t,some x)::Γ):=rp;obtain⟨us',e,kt⟩:=aI g;obtain⟨a,vs,rfl,hq,l2,rp2⟩:=aJ e rp;exact wg pins s σ H _ us Q I r ⟨_,a,vs,rfl,hq,fun p H' hp g' e'=>c _ _ _ kt (gB rp2 l2 hp g' e')⟩
 exact Oz g
noncomputable def si:P1s
 | [.tup ts],k=>k (.tup ts)
 | [.cst ts],k=>k (.cst ts)
 | [.lst _ ts],k=>k (.tup ts)
 | _,_=>False
theorem dM:fw X (.type "tuple") si:=by
 rintro pins s σ H xs us Q I r ⟨ts,Γ,k,l,rp,g,c⟩;unfold si at g;split at g
 ·rename_i k ts;obtain⟨x,rfl⟩:=zz1 l rfl;have rp:Rp X.K H ((.tup ts,some x)::Γ):=rp;obtain⟨a,vs,rfl,hq,l2,rp2⟩:=aJ rfl rp;exact nL pins s σ H _ us Q I r ⟨a,vs,rfl,hq,c _ _ _ g rp⟩
 ·rename_i k ts;obtain⟨x,rfl⟩:=zz1 l rfl;have rp:Rp X.K H ((.cst ts,some x)::Γ):=rp;obtain⟨a,vs,rfl,hq,l2,rp2⟩:=aJ rfl rp;exact nL pins s σ H _ us Q I r ⟨a,vs,rfl,hq,c _ _ _ g rp⟩
 ·rename_i k o ts;obtain⟨x,rfl⟩:=zz1 l rfl;have rp:Rp X.K H ((.lst o ts,some x)::Γ):=rp;obtain⟨a,vs,rfl,hq,l2,rp2⟩:=aJ rfl rp;exact uq pins s σ H _ us Q I r ⟨a,vs,rfl,hq,fun p H' hp g' e'=>c _ _ _ g (jl rp2 l2 g' e')⟩
 exact Oz g
noncomputable def boolsOf:List T->Option (List Bool)
 | []=>some []
 | .bl i::r=>match boolsOf r with
  |some ns=>some (i::ns)
  |none=>none
 | _::_=>none
theorem cD(ns:List Bool):boolsOf (ns.map T.bl)=some ns:=by
 induction ns with
 |nil=>rfl
 |cons n r ih=>rw[f',boolsOf,ih]
theorem pV:∀{ts:List T}{ns:List Bool},boolsOf ts=some ns->ts=ns.map T.bl
 | [],ns,e=>by cases e;rfl
 |t::ts,ns,e=>by
  cases t <;> first|cases e|skip
  rename_i i;rw[boolsOf]at e;split at e
  ·rename_i ms em;cases e;rw[f',pV em]
  cases e
theorem vw{K:N7}{H:Hp}{Γ:Fm}:∀{ns:List Bool}{vs:List V},(ns.map T.bl).length=vs.length->Rp K H (zz (ns.map T.bl) vs++Γ)->vs=bools ns
 | [],[],_,_=>rfl
 | [],_::_,l,_=>by simp at l
 | _::_,[],l,_=>by simp at l
 |n::ns,v::vs,l,h=>by
  have h:Rp K H ((.bl n,some v)::(zz (ns.map T.bl) vs++Γ)):=h;rw[m7 h,vw (by simpa using l) h.tail]
  rfl
def Gq:P1s
 | [.lst _ ts],k=>got (boolsOf ts) fun bs=>k (.bl (bs.all id))
 | _,_=>False
theorem fU(hc:X.calm=true):fw X (.builtin "all") Gq:=by
 rintro pins s σ H xs us Q I r ⟨ts,Γ,k,l,rp,g,c⟩;unfold Gq at g;split at g
 ·rename_i k o ts;obtain⟨x,rfl⟩:=zz1 l rfl;have rp:Rp X.K H ((.lst o ts,some x)::Γ):=rp;obtain⟨bs,e,kt⟩:=aI g;have:=pV e;subst this;obtain⟨a,vs,rfl,hq,l2,rp2⟩:=aJ rfl rp;have:=vw l2 rp2;subst this;exact Ax hc pins s σ H _ us Q I r ⟨a,bs,rfl,hq,c _ _ _ kt (bI rp.tail fun _=>.bl)⟩
 exact Oz g
end
open PySem PySem.Spec PyProof.Rows L2
inductive Arg where
 |val (t:T)|bor (i:Nat)
def oU:Arg->T
 | .val t=>t
 | .bor _=>.any
noncomputable def lend:List Arg->Ev->List T×Ev
 | [],env=>([],env)
 | .val t::r,env=>(t::(lend r env).1,(lend r env).2)
 | .bor i::r,env=>match env[i]? with
  |some t=>(t::(lend r (env.set i .any)).1,(lend r (env.set i .any)).2)
  |none=>(.any::(lend r env).1,(lend r env).2)
noncomputable def back:List Arg->List T->Ev->Ev
 | .bor i::r,t::ts,env=>back r ts (env.set i t)
 | .val _::r,_::ts,env=>back r ts env
 | _,_,env=>env
noncomputable def m5:List Arg->List (Option V)->L2.St->Prop
 | [],[],_=>True
 | .val _::r,_::xs,σ=>m5 r xs σ
 | .bor i::r,x::xs,σ=>(σ[i]?=some x\/σ.length<=i)/\m5 r xs σ
 | _,_,_=>False
section
variable{K:N7}{H:Hp}{σ:L2.St}
theorem lT:∀{as:List Arg}{xs:List (Option V)}{env:Ev}{Fr:Fm},m5 as xs σ->Rs K H env σ ((as.map oU).zip xs++Fr)->Rs K H (lend as env).2 σ ((lend as env).1.zip xs++Fr)
 | [],[],env,Fr,_,h=>h
 | [],_::_,env,Fr,o,_=>o.elim
 | .val t::r,[],env,Fr,o,_=>o.elim
 | .bor i::r,[],env,Fr,o,_=>o.elim
 | .val t::r,x::xs,env,Fr,o,h=>by have h:Rs K H env σ ((t,x)::((r.map oU).zip xs++Fr)):=h;have h2:Rs K H env σ ((r.map oU).zip xs++((t,x)::Fr)):=h.perm i_.symm;exact(lT (as:=r) o h2).perm i_
 | .bor i::r,x::xs,env,Fr,o,h=>by
  have h:Rs K H env σ ((.any,x)::((r.map oU).zip xs++Fr)):=h;have h:=h.drop;rw[lend];split
  ·rename_i t e;obtain⟨y,ey,h2⟩:=h.slot e;have o1:σ[i]?=some x:=by
    rcases o.1 with z|z
    ·exact z
    have:=(gV.mp ey).1;lia
   rw[o1]at ey;cases ey;have h3:Rs K H (env.set i .any) σ ((r.map oU).zip xs++((t,x)::Fr)):=h2.perm i_.symm;exact(lT (as:=r) o.2 h3).perm i_
  have h3:Rs K H env σ ((r.map oU).zip xs++((.any,x)::Fr)):=(Rs.of h.1 (iZ (x:=x) h.2)).perm i_.symm;exact(lT (as:=r) o.2 h3).perm i_
theorem mN:∀{as:List Arg}{xs:List (Option V)}{ts:List T}{env:Ev}{Fr:Fm},m5 as xs σ->Rs K H env σ (ts.zip xs++Fr)->Rs K H (back as ts env) σ Fr
 | [],xs,ts,env,Fr,_,h=>by
  have:back [] ts env=env:=by cases ts <;> rfl
  rw[this];exact⟨h.1,(h.2.perm (x_ _ _ _)).part⟩
 |a::r,xs,[],env,Fr,_,h=>by
  have:back (a::r) [] env=env:=by cases a <;> rfl
  rw[this];exact h
 | .val t::r,[],u::ts,env,Fr,o,_=>o.elim
 | .bor i::r,[],u::ts,env,Fr,o,_=>o.elim
 | .val t::r,x::xs,u::ts,env,Fr,o,h=>by have h:Rs K H env σ ((u,x)::(ts.zip xs++Fr)):=h;exact mN (as:=r) o h.drop
 | .bor i::r,x::xs,u::ts,env,Fr,o,h=>by
  have h:Rs K H env σ ((u,x)::(ts.zip xs++Fr)):=h;rw[back];by_cases hi:i<env.length
  ·have o1:σ[i]?=some x:=by
    rcases o.1 with z|z
    ·exact z
    have:=h.1;lia
   exact mN (as:=r) o.2 (h.nu hi o1)
  have e:env.set i u=env:=LL (by lia);rw[e];exact mN (as:=r) o.2 h.drop
theorem Rs.put (h:Rs K H env σ ((t,some v)::Fr)):Rs K H (env.set i t) (σ.set i (some v)) Fr:=by
 by_cases hi:i<env.length
 ·exact h.store hi
 rw[LL (by lia),LL (by rw[<-h.1];lia)];exact h.drop
end
abbrev PAs:=Ev->(List Arg->Ev->Prop)->Prop
noncomputable def wR(K:N7)(f:PAs):TA:=fun σ H Q=>∃env Fr k,Rs K H env σ Fr/\f env k/\∀as env' vs H',k as env'->as.length=vs.length->m5 as (vs.map some) σ->Rs K H' env' σ ((as.map oU).zip (vs.map some)++Fr)->Q vs H'
def GR(X:Cx)(es:List Ov)(f:PAs):Prop:=PA X es (wR X.K f)
def HR:PAs:=fun env k=>k [] env
noncomputable def H0(f:PF)(r:PAs):PAs:=fun env k=>f env fun t env1=>r env1 fun as env2=>k (.val t::as) env2
noncomputable def Fw(i:Nat)(r:PAs):PAs:=fun env k=>(match env[i]? with
 |some t=>isAny t=false
 |none=>False)/\r env fun as env2=>k (.bor i::as) env2
section
variable{X:Cx}{e:Ov}{es:List Ov}{f:PF}{fr:PAs}
theorem az:GR X [] HR:=PA.imp ko (by rintro σ H Q ⟨env,Fr,k,rs,q,c⟩;exact c [] env [] H q rfl trivial rs)
theorem ah(he:GE X e f)(hr:GR X es fr)(hs:Oy (e::es) X.env=(false,OK e X.env)::Oy es X.env:=by rfl):GR X (e::es) (H0 f fr):=by refine PA.imp (fx he hr hs) ?_;rintro σ H Q ⟨env,Fr,k,rs,q,c⟩;refine⟨env,Fr,_,rs,q,fun t env1 v H1 q1 rs1=>⟨env1,_,_,rs1,q1,fun as env2 vs H2 q2 l ao rs2=>c _ _ _ _ q2 (by rw[d_,d_,l]) ao ?_⟩⟩;exact rs2.perm i_
theorem aM(i:Nat){x:Str}(hr:GR X es fr)(hN:X.N[i]?=some x:=by rfl)(hv:Vis X.env.scope x:=by first|exact e_ rfl|exact r_ (e_ rfl)|exact r_ (r_ rfl))(hd:(x ==("__debug__":Str))=false:=by decide)(hcd:(x ==("__classdict__":Str))=false:=by decide)
  (hs:Oy (.Name x pos::es) X.env=(false,OK (.Name x pos) X.env)::Oy es X.env:=by rfl):GR X (.Name x pos::es) (Fw i fr):=by
 refine PA.imp (fx (gH hN hv hd hcd) hr hs) ?_;rintro σ H Q ⟨env,Fr,k,rs,⟨na,q⟩,c⟩;split at na
 ·rename_i t e;obtain⟨y,ey,rs2⟩:=rs.slot e;obtain⟨v,rfl⟩:=fV rs2 na;refine⟨v,ey,env,Fr,_,rs,q,fun as env2 vs H2 q2 l ao rs2=>c _ _ _ _ q2 (by rw[d_,d_,l]) ⟨.inl ey,ao⟩ ?_⟩;exact .of rs2.1 (iZ rs2.2)
 exact na.elim
end
abbrev FP:=List T->(T->List T->Prop)->Prop
noncomputable def aG(K:N7)(n:Nat)(P:FP):Sp:=fun vs H Q _=>∃ts Fr k,ts.length=vs.length/\vs.length=n/\Rp K H (zz ts vs++Fr)/\P ts k/\∀t ts' v H',k t ts'->Rp K H' ((t,some v)::(zz ts' vs++Fr))->Q v H'
def Hu(P:FP)(ts:List T)(k:T->List T->Prop):Prop:=P ts k
noncomputable def FC(n:Nat)(P:FP)(fr:PAs):PF:=fun env k=>fr env fun as env1=>as.length=n/\Hu P (lend as env1).1 fun t ts'=>k t (back as ts' (lend as env1).2)
variable {P:FP}{ps:List Str}
section
variable{X:Cx}
theorem j7:∀(as:List Arg) (env:Ev),(lend as env).1.length=as.length
 | [],env=>rfl
 | .val t::r,env=>by rw[lend,d_,d_,j7 r]
 | .bor i::r,env=>by
  rw[lend];split
  ·rw[d_,d_,j7 r]
  rw[d_,d_,j7 r]
theorem CL{fr:PAs}:∀ σ H Q,wE X.K (FC n P fr) σ H Q->Bw (aG X.K n P) [] E0 (wR X.K fr) σ H Q:=by
 rintro σ H Q ⟨env,Fr,k,rs,q,c⟩;refine⟨env,Fr,_,rs,q,fun as env1 vs H1 ⟨hn,q1⟩ l ao rs1=>?_⟩;show aG X.K n P (vs++[]) H1 Q E0;rw[D_];have rs2:=lT ao rs1;refine⟨(lend as env1).1,(lend as env1).2.zip σ++Fr,_,by rw[j7,l],by rw[<-l];exact hn,?_,q1,fun t ts' v H' kt rp=>c _ _ _ _ kt ?_⟩
 ·exact rs2.2.perm (x_ _ _ _)
 have h3:Rs X.K H' (lend as env1).2 σ (zz ts' vs++((t,some v)::Fr)):=⟨rs2.1,rp.perm (by refine B_ ?_ (x_ _ _ _);refine B_ i_.symm ?_;exact JS _ i_.symm)⟩
 exact mN ao h3
theorem ay{k:Nat}{x:Str}{fr:PAs}{p:Pos}(D:Cal X.prog X.w X.K X.mg X.base j x ps (aG X.K n P))(hr:Room k X.A)(hg:Gl X x)(ha:GR X (e::es) fr)(hjk:j<=k:=by omega)(hdb:(x ==("__debug__":Str))=false:=by decide)
  (he:Oy (e::es) X.env=(false,OK e X.env)::Oy es X.env:=by rfl) (hpl:(Qb pos (Oy es X.env)).any (·.1)=false:=by rfl):GE X (.Call (.Name x p) (e::es) [] pos) (FC n P fr):=PE.imp (Fn D hr hg ha hjk hdb he hpl) CL
end
structure PEn where
 nx:Ev->Prop
 rt:T->Ev->Prop
 bk:Ev->Prop:=fun _=>False
 ct:Ev->Prop:=fun _=>False
abbrev PSt:=PEn->Ev->Prop
def Kept(κ:Nat->Bool)(σ σ':L2.St):Prop:=σ'.length=σ.length/\∀j,κ j=true->σ'[j]?=σ[j]?
variable {κ:Nat->Bool}
theorem Kept.refl {σ:L2.St}:Kept κ σ σ:=⟨rfl,fun _ _=>rfl⟩
variable {σ':L2.St}
theorem Kept.trans {σ σ'':L2.St}(a:Kept κ σ σ')(b:Kept κ σ' σ''):Kept κ σ σ'':=⟨b.1.trans a.1,fun j h=>(b.2 j h).trans (a.2 j h)⟩
theorem Kept.set {σ:L2.St}(h:κ i=false):Kept κ σ (σ.set i x):=⟨JB,fun j hj=>by
 by_cases e:i=j
 ·subst e;rw[h]at hj;cases hj
 rw[L9 e]⟩
structure EndOk (K:N7) (κ:Nat->Bool) (σ:L2.St) (Fr:Fm) (pe:PEn) (D:Ends):Prop where
 nx:∀env' σ' H',pe.nx env'->Rs K H' env' σ' Fr->Kept κ σ σ'->D.nx σ' H'
 rt:∀t env' v σ' H',pe.rt t env'->Rs K H' env' σ' ((t,some v)::Fr)->Kept κ σ σ'->D.rt v H'
 bk:∀env' σ' H',pe.bk env'->Rs K H' env' σ' Fr->Kept κ σ σ'->D.bk σ' H'
 ct:∀env' σ' H',pe.ct env'->Rs K H' env' σ' Fr->Kept κ σ σ'->D.ct σ' H'
theorem EndOk.later {σ:L2.St}{pe:PEn}{D:Ends}(h:EndOk K κ σ Fr pe D)(k:Kept κ σ σ'):EndOk K κ σ' Fr pe D:=
 ⟨fun a b c p q r=>h.nx a b c p q (k.trans r),fun a b c d e p q r=>h.rt a b c d e p q (k.trans r),fun a b c p q r=>h.bk a b c p q (k.trans r),fun a b c p q r=>h.ct a b c p q (k.trans r)⟩
noncomputable def wS(K:N7)(κ:Nat->Bool)(f:PSt):TS:=fun D σ H=>∃env Fr pe,Rs K H env σ Fr/\f pe env/\EndOk K κ σ Fr pe D
def GS(κ:Nat->Bool)(X:Cx)(st:OF)(f:PSt):Prop:=PS X st (wS X.K κ f)
def GSs(κ:Nat->Bool)(X:Cx)(sts:List OF)(f:PSt):Prop:=PSs X sts (wS X.K κ f)
variable {st:OF}
theorem PS.imp {t t':TS}(h:PS X st t)(k:∀D σ H,t' D σ H->t D σ H):PS X st t':=fun pins s σ H D I q=>h pins s σ H D I (k _ _ _ q)
theorem PSs.imp {st:List OF}{t t':TS}(h:PSs X st t)(k:∀D σ H,t' D σ H->t D σ H):PSs X st t':=fun pins s σ H D I q=>h pins s σ H D I (k _ _ _ q)
def Ey:PSt:=fun pe env=>pe.nx env
def He(f g:PSt):PSt:=fun pe env=>f {pe with nx:=g pe} env
section
variable{X:Cx}{κ:Nat->Bool}{pos:Pos}{st:OF}{rest:List OF}{f g:PSt}{e:Ov}{fe:PF}
theorem aQ:GSs κ X [] Ey:=PSs.imp tB (by rintro D σ H ⟨env,Fr,pe,rs,q,c⟩;exact c.nx _ _ _ q rs .refl)
theorem ai(h1:GS κ X st f)(h2:GSs κ X rest g):GSs κ X (st::rest) (He f g):=by refine PSs.imp (bQ h1 h2) ?_;rintro D σ H ⟨env,Fr,pe,rs,q,c⟩;refine⟨env,Fr,_,rs,q,⟨fun env' σ' H' q1 rs1 k1=>⟨env',Fr,pe,rs1,q1,c.later k1⟩,c.rt,c.bk,c.ct⟩⟩
theorem aj(h1:GS κ X st f):GSs κ X [st] f:=lL h1
def Ex(fe:PF):PSt:=fun pe env=>fe env fun _ env1=>pe.nx env1
theorem cI(he:GE X e fe)(hs:QL e none pos.line X.env=pure false:=by rfl):GS κ X (.Expr e pos) (Ex fe):=by refine PS.imp (Ds he hs) ?_;rintro D σ H ⟨env,Fr,pe,rs,q,c⟩;exact⟨env,Fr,_,rs,q,fun t env' v H' q1 rs1=>c.nx _ _ _ q1 rs1.drop .refl⟩
def Ha(fe:PF):PSt:=fun pe env=>fe env fun t env1=>pe.rt t env1
theorem aE(he:GE X e fe):GS κ X (.Return (some e) pos) (Ha fe):=by refine PS.imp (rZ he) ?_;rintro D σ H ⟨env,Fr,pe,rs,q,c⟩;exact⟨env,Fr,_,rs,q,fun t env' v H' q1 rs1=>c.rt _ _ _ _ _ q1 rs1 .refl⟩
noncomputable def sIf(tc:PB)(f g:PSt):PSt:=fun pe env=>tc env fun b env1=>cnd b (f pe env1) (g pe env1)
theorem bz{c:Ov}{a b:List OF}{tc:PB}(hc:GT X c tc)(ha:GSs κ X a f)(hb:GSs κ X b g):GS κ X (.If c a b pos) (sIf tc f g):=by refine PS.imp (BN hc ha hb) ?_;rintro D σ H ⟨env,Fr,pe,rs,q,c⟩;refine⟨env,Fr,_,rs,q,fun b env' H' q1 rs1=>fB ⟨fun h=>⟨env',Fr,pe,rs1,q1.1 h,c⟩,fun h=>⟨env',Fr,pe,rs1,q1.2 h,c⟩⟩⟩
def Fx(i:Nat)(fe:PF):PSt:=fun pe env=>fe env fun t env1=>pe.nx (env1.set i t)
theorem aA{i:Nat}{x:Str}{pos':Pos}(hN:X.N.Nodup)(hi:X.N[i]?=some x)(hx:Loc X.env.scope x)(hκ:κ i=false)(he:GE X e fe)(hs:QL e (some (.Name x pos')) pos.line X.env=pure false:=by rfl)(hf:X.fn x=true\/X.env.scope.names.lookup x=some .local:=by first|exact .inl rfl|exact .inr rfl|assumption) :
  GS κ X (.Assign [.Name x pos'] e pos) (Fx i fe):=by
 refine PS.imp (jn hN hi hx he hs hf) ?_;rintro D σ H ⟨env,Fr,pe,rs,q,c⟩;exact⟨env,Fr,_,rs,q,fun t env' v H' q1 rs1=>c.nx _ _ _ q1 rs1.put (.set hκ)⟩
abbrev PG':=T->Ev->(Ev->Prop)->Prop
abbrev tI:=List T->Ev->(Ev->Prop)->Prop
noncomputable def wG(K:N7)(κ:Nat->Bool)(f:PG'):TG:=fun v σ H Q=>∃t env Fr k,Rs K H env σ ((t,some v)::Fr)/\f t env k/\∀env' σ' H',k env'->Rs K H' env' σ' Fr->Kept κ σ σ'->Q σ' H'
noncomputable def wGs(K:N7)(κ:Nat->Bool)(f:tI):TGs:=fun vs σ H Q=>∃ts env Fr k,ts.length=vs.length/\Rs K H env σ (zz ts vs++Fr)/\f ts env k/\∀env' σ' H',k env'->Rs K H' env' σ' Fr->Kept κ σ σ'->Q σ' H'
def GG(κ:Nat->Bool)(X:Cx)(tg:Ov)(f:PG'):Prop:=PG X tg (wG X.K κ f)
def GGs(κ:Nat->Bool)(X:Cx)(tgs:List Ov)(f:tI):Prop:=PGs X tgs (wGs X.K κ f)
def gN(i:Nat):PG':=fun t env k=>k (env.set i t)
theorem av{i:Nat}{x:Str}(hN:X.N.Nodup)(hi:X.N[i]?=some x)(hx:Loc X.env.scope x)(hκ:κ i=false)(hf:X.fn x=true\/X.env.scope.names.lookup x=some .local:=by first|exact .inl rfl|exact .inr rfl|assumption):GG κ X (.Name x pos) (gN i):=
 fun pins s σ H v u Q I r ⟨t,env,Fr,k,rs,q,c⟩=>yG hN hi hx hf pins s σ H v u Q I r (c _ _ _ q rs.put (.set hκ))
def E9:tI:=fun ts env k=>ts=[]/\k env
noncomputable def AZ(f:PG')(r:tI):tI:=fun ts env k=>match ts with
 |t::ts=>f t env fun env1=>r ts env1 k
 | []=>False
noncomputable def gTp(n:Nat)(f:tI):PG':=fun t env k=>match t with
 | .tup ts=>ts.length=n/\f ts env k
 | .cst ts=>ts.length=n/\f ts env k
 | _=>False
end
open PySem PySem.Spec PyProof.Rows L2
section
variable{X:Cx}{κ:Nat->Bool}{pos:Pos}{e tg:Ov}{es:List Ov}{fe:PF}{g:PG'}{gs:tI}
theorem cG:GGs κ X [] E9:=by
 rintro pins s σ H vs us Q I r ⟨ts,env,Fr,k,l,rs,⟨e,q⟩,c⟩;subst e;have:vs=[]:=by cases vs with|nil=>rfl|cons _ _=>cases l
 subst this;exact yq pins s σ H [] us Q I r ⟨rfl,c _ _ _ q rs .refl⟩
theorem aH(h1:GG κ X e g)(h2:GGs κ X es gs)(hs:(Pw (e::es) X.env).map (·.2)=QA e X.env::(Pw es X.env).map (·.2):=by rfl):GGs κ X (e::es) (AZ g gs):=by
 rintro pins s σ H vs us Q I r ⟨ts,env,Fr,k,l,rs,q,c⟩;cases ts with
 |nil=>exact Oz q
 |cons t ts=>
  cases vs with
  |nil=>cases l
  |cons v vs=>
   have q:g t env fun env1=>gs ts env1 k:=q;refine pH h1 h2 hs pins s σ H (v::vs) us Q I r ⟨v,vs,rfl,t,env,zz ts vs++Fr,_,rs,q,fun env1 σ1 H1 q1 rs1 k1=>?_⟩;exact⟨ts,env1,Fr,k,by simpa using l,rs1,q1,fun env2 σ2 H2 q2 rs2 k2=>c _ _ _ q2 rs2 (k1.trans k2)⟩
theorem eO{x1 n:Nat}(hc:X.calm=true)(h:GGs κ X es gs)(hn:(Pw es X.env).length=n:=by rfl)(hst:(Pw es X.env).findIdx? (·.1)=none:=by rfl):GG κ X (.Tuple es x1 pos) (gTp n gs):=by
 rintro pins s σ H v u Q I r ⟨t,env,Fr,k,rs,q,c⟩;have go:∀ts,items t=some ts->qc t=true->ts.length=n->gs ts env k->Of (Oq X.prog X.w) X.A (QA (.Tuple es x1 pos) X.env u) (fun _ s'=>∃ σ' H',Inv X pins σ' H' s'/\Q σ' H') X.xe s:=fun ts e1 e2 e3 q=>by obtain⟨a,vs,rfl,hq,l,rp⟩:=aJ e1 rs.head;rw[e2]at hq;refine Ai hc h hn hst pins s σ H _ u Q I r ⟨a,vs,rfl,hq,by rw[<-l];exact e3,ts,env,Fr,k,l,⟨rs.1,?_⟩,q,c⟩;exact rp.perm (x_ _ _ _)
 cases t with
 |tup ts=>exact go ts rfl rfl q.1 q.2
 |cst ts=>exact go ts rfl rfl q.1 q.2
 | _=>exact Oz q
def Hm(fe:PF)(g:PG'):PSt:=fun pe env=>fe env fun t env1=>g t env1 pe.nx
theorem ja(he:GE X e fe)(hg:GG κ X tg g)(hs:TR [tg] e pos.line X.env=pure false:=by rfl)(hw:TU [tg] e X.env=pure none:=by rfl)(h1:(Pw [tg] X.env).map (·.2)=[QA tg X.env]:=by rfl) :
  GS κ X (.Assign [tg] e pos) (Hm fe g):=by
 refine PS.imp (Aq he hg hs hw h1) ?_;rintro D σ H ⟨env,Fr,pe,rs,q,c⟩;exact⟨env,Fr,_,rs,q,fun t env' v H' q1 rs1=>⟨t,env',Fr,_,rs1,q1,fun env2 σ2 H2 q2 rs2 k2=>c.nx _ _ _ q2 rs2 k2⟩⟩
structure ItOk (K:N7) (J:It) (its:List T) (Fg:Fm):Prop where
 turn:∀i t H Γ,its[i]?=some t->Rp K H (Fg++Γ)->J.go i H/\∀x H',J.yld i H x H'->Rp K H' ((t,some x)::(Fg++Γ))
 stop:∀H Γ,Rp K H (Fg++Γ)->J.stop its.length H
abbrev PIt:=Ev->(List T->Ev->Prop)->Prop
noncomputable def wI(K:N7)(f:PIt):TI:=fun σ H R=>∃env Fr k,Rs K H env σ Fr/\f env k/\∀its env' J Fg H',k its env'->Rs K H' env' σ (Fg++Fr)->ItOk K J its Fg->R J H'
def GI(X:Cx)(tg iter:Ov)(f:PIt):Prop:=PI X tg iter (wI X.K f)
noncomputable def forL(its:List T)(g:PG')(fb:PSt)(pe:PEn)(env1:Ev):Prop:=∃W:Nat->Ev->Prop,W 0 env1/\(∀i t env,W i env->its[i]?=some t->g t env fun env2=>fb {pe with nx:=W (i+1),ct:=W (i+1),bk:=pe.nx} env2)/\∀env,W its.length env->pe.nx env
noncomputable def GO(fi:PIt)(g:PG')(fb:PSt):PSt:=fun pe env=>fi env fun its env1=>forL its g fb pe env1
theorem oN{σ:L2.St}{Fg:Fm}(h:Rs K H env σ (Fg++Fr)):Rs K H env σ Fr:=⟨h.1,(h.2.perm (x_ _ _ _)).part⟩
theorem bG{iter:Ov}{body:List OF}{fi:PIt}{g:PG'}{fb:PSt}(hp:TL (Oq X.prog X.w) X.A X.env X.xe)(hc:X.calm=true)(hi:GI X tg iter fi)(hg:GG κ X tg g)(hb:GSs κ X body fb)(hs:∀x,OX iter X.env x=pure x:=by intro _;rfl):GS κ X (.For tg iter body [] pos) (GO fi g fb):=by
 refine PS.imp (AX hp hc hi hg hb hs) ?_;rintro D σ H ⟨env,Fr,pe,rs,q,c⟩;refine⟨env,Fr,_,rs,q,?_⟩;rintro its env1 J Fg H1 ⟨W,w0,wt,we⟩ rs1 ok;refine⟨fun i m σ' H'=>∃env',W i env'/\Rs X.K H' env' σ' (Fg++Fr)/\Kept κ σ σ'/\m+i=its.length,⟨its.length,env1,w0,rs1,.refl,rfl⟩,?_⟩;rintro i m σ1 H2 ⟨env2,w2,rs2,k2,hm⟩;have rp2:Rp X.K H2 (Fg++(env2.zip σ1++Fr)):=rs2.2.perm (x_ _ _ _);by_cases hlt:i<its.length
 ·have ei:its[i]?=some its[i]:=c_ hlt;obtain⟨hgo,hy⟩:=ok.turn i its[i] H2 _ ei rp2;refine .inr ⟨hgo,fun σ' H'=>∃env',W (i+1) env'/\Rs X.K H' env' σ' (Fg++Fr)/\Kept κ σ σ',fun σ' H' ⟨env',w',r',k'⟩=>⟨m-1,by lia,env',w',r',k',by lia⟩,fun x H' hx=>?_⟩;have rp3:=hy x H' hx;have rs3:Rs X.K H' env2 σ1 ((its[i],some x)::(Fg++Fr)):=.of rs2.1 (rp3.perm (.cons _ (x_ _ _ _)));refine⟨its[i],env2,Fg++Fr,_,rs3,wt i its[i] env2 w2 ei,fun env3 σ3 H3 q3 rs4 k4=>?_⟩;refine⟨env3,Fg++Fr,_,rs4,q3,⟨?_,?_,?_,?_⟩⟩
  ·exact fun env' σ' H' w' r' k'=>⟨env',w',r',k2.trans (k4.trans k')⟩
  ·exact fun t env' v σ' H' p r' k'=>c.rt _ _ _ _ _ p (oN (Fg:=Fg) (r'.perm i_.symm)) (k2.trans (k4.trans k'))
  ·exact fun env' σ' H' p r' k'=>c.nx _ _ _ p (oN r') (k2.trans (k4.trans k'))
  exact fun env' σ' H' w' r' k'=>⟨env',w',r',k2.trans (k4.trans k')⟩
 have:i=its.length:=by lia
 subst this;exact .inl ⟨ok.stop H2 _ rp2,c.nx _ _ _ (we env2 w2) (oN rs2) k2⟩
end
section
variable{X:Cx}{pos:Pos}{e tg:Ov}{fe:PF}
def IB(fe:PF):PIt:=fun env k=>fe env fun t env1=>got (items t) fun ts=>k (erL ts) env1
theorem GB(e:items t=some ts)(n:aS t=true):ItOk K (Its K (qc t) a) ts [(t,some (.ref a))] where
 turn:=fun i u H Γ ei rp=>by obtain⟨a',vs,ea,hq,l,rp2⟩:=aJ e (ng rp n);cases ea;obtain⟨w,ew⟩:=ui l ei;refine⟨Aa hq rfl i H .bW (by have:=(gV.mp ew).1;exact this),fun x H' hy=>?_⟩;obtain⟨rfl,hx⟩:=ye hq .bW hy;rw[ew]at hx;cases hx;exact jw rp2 ei ew
 stop:=fun H Γ rp=>by obtain⟨a',vs,ea,hq,l,rp2⟩:=aJ e rp;cases ea;exact vj hq l.symm H .bW
theorem qC(e:items t=some ts):items (er t)=some (erL ts)/\qc (er t)=qc t:=by cases t <;> cases e <;> exact⟨rfl,rfl⟩
theorem bo(h:GE X e fe):GI X tg e (IB fe):=by rintro pins s σ H R I ⟨env,Fr,k,rs,q,c⟩;refine AK h pins s σ H R I ⟨env,Fr,_,rs,q,fun t env1 v H1 q1 rs1=>?_⟩;obtain⟨ts,e1,kt⟩:=aI q1;have rf:Rp X.K H1 ((er t,some v)::(env1.zip σ++Fr)):=pM rs1.head;obtain⟨e2,e3⟩:=qC e1;obtain⟨a,vs,rfl,hq,l,rp2⟩:=aJ e2 rf;exact⟨qc (er t),a,vs,rfl,hq,c _ _ _ _ _ kt (Rs.of (Fr:=Fr) rs1.1 rf) (GB e2 (bf t))⟩
def og(lo:Int)(n:Nat):List T:=(u_ n).map fun(i:Nat)=>.int (lo+(i:Int))
theorem B6(lo:Int)(n:Nat):ItOk K (Itr lo n) (og lo n) [] where
 turn:=fun i t H Γ ei rp=>by
  unfold og at ei;rw[z_]at ei;have hi:i<n:=by
   cases h:(u_ n)[i]? with
   |none=>rw[h]at ei;cases ei
   |some j=>
    have:=(gV.mp h).1;simpa using this
  rw[Mg hi]at ei;cases ei;refine⟨hi,fun x H' ⟨e1,e2⟩=>?_⟩;subst e1;subst e2;exact bI rp fun _=>.int
 stop:=fun H Γ rp=>by show n<=_;unfold og;rw[a_,JH];exact b_ _
noncomputable def iR1(fr:PFs):PIt:=fun env k=>fr env fun ts env1=>match ts with
 | [.int j]=>(-(2 ^ 62)<=j/\j<2 ^ 62)/\k (og 0 j.toNat) env1
 | _=>False
noncomputable def iR2(fr:PFs):PIt:=fun env k=>fr env fun ts env1=>match ts with
 | [.int i,.int j]=>(-(2 ^ 62)<=i/\i<2 ^ 62/\-(2 ^ 62)<=j/\j<2 ^ 62)/\k (og i (j-i).toNat) env1
 | _=>False
variable{a b c:Ov}{fr:PFs}{p:Pos}
theorem d6(hg:Gl X "range")(hm:X.mg "range"=none)(ha:GA X [a] fr)(hs:Oy [a] X.env=[(false,OK a X.env)]:=by rfl):GI X tg (.Call (.Name "range" p) [a] [] pos) (iR1 fr):=by
 rintro pins s σ H R I ⟨env,Fr,k,rs,q,c⟩;refine zV hg hm ha hs pins s σ H R I ⟨env,Fr,_,rs,q,fun ts env1 vs H1 q1 l rs1=>?_⟩;rcases ts with _|⟨t,_|⟨t2,ts⟩⟩
 ·exact q1.elim
 ·cases t <;> first|exact q1.elim|skip
  rename_i j;rcases vs with _|⟨v,_|⟨v2,vs⟩⟩
  ·cases l
  ·have rs1:Rs X.K H1 env1 σ ((.int j,some v)::Fr):=rs1;rw[aU rs1.head];exact⟨j,rfl,q1.1.1,q1.1.2,c _ _ _ [] _ q1.2 rs1.drop (B6 0 _)⟩
  cases l
 cases t <;> exact q1.elim
theorem jC(hg:Gl X "range")(hm:X.mg "range"=none)(ha:GA X [a,b] fr)(hs:Oy [a,b] X.env=[(false,OK a X.env),(false,OK b X.env)]:=by rfl)(hs2:Oy [b] X.env=[(false,OK b X.env)]:=by rfl):GI X tg (.Call (.Name "range" p) [a,b] [] pos) (iR2 fr):=by
 rintro pins s σ H R I ⟨env,Fr,k,rs,q,c⟩;refine zN hg hm ha hs hs2 pins s σ H R I ⟨env,Fr,_,rs,q,fun ts env1 vs H1 q1 l rs1=>?_⟩;rcases ts with _|⟨t,_|⟨u,_|⟨t3,ts⟩⟩⟩
 ·exact q1.elim
 ·cases t <;> exact q1.elim
 ·cases t <;> try exact q1.elim
  cases u <;> try exact q1.elim
  rename_i i j;obtain⟨v,w,rfl⟩:=zz2 l rfl;have rs1:Rs X.K H1 env1 σ ((.int i,some v)::(.int j,some w)::Fr):=rs1;rw[aU rs1.head,aU rs1.drop.head];exact⟨i,j,rfl,q1.1,c _ _ _ [] _ q1.2 rs1.drop.drop (B6 i _)⟩
 cases t <;> try exact q1.elim
 cases u <;> exact q1.elim
noncomputable def iZp(fr:PFs):PIt:=fun env k=>fr env fun ts env1=>match ts with
 | [t,u]=>got (items t) fun as=>got (items u) fun bs=>k (((erL as).zip (erL bs)).map fun p=>.tup [p.1,p.2]) env1
 | _=>False
theorem GH{x:V}{p:N8}(h:Rp K H ((t,some x)::(u,some y)::Γ))(s:bH H H')(e:H' p=some (.tup [x,y])):Rp K H' ((.tup [t,u],some (.ref p))::Γ):=
 jl (ts:=[t,u]) (vs:=[x,y]) h rfl s e
theorem EV{as bs:List T}{a b:N8}(e1:items t=some as)(e2:items u=some bs)(n1:aS t=true)(n2:aS u=true) :
  ItOk K (Itz K (qc t) a (qc u) b) ((as.zip bs).map fun p=>.tup [p.1,p.2]) [(t,some (.ref a)),(u,some (.ref b))] where
 turn:=fun i w H Γ ei rp=>by
  rw[z_]at ei;cases hz:(as.zip bs)[i]? with
  |none=>rw[hz]at ei;cases ei
  |some q=>
   rw[hz]at ei;cases ei;obtain⟨q1,q2⟩:=q;rw[List.getElem?_zip_eq_some]at hz;have rp0:Rp K H ((t,some (.ref a))::(u,some (.ref b))::Γ):=rp;have rpd:=ng rp0 n1;have rpe:Rp K H ((u,some (.ref b))::(t,some (.ref a))::(t,some (.ref a))::Γ):=rpd.perm (by refine B_ ?_ (K0 _ _ _);exact .cons _ (.swap _ _ _))
   have rpf:=ng rpe n2;obtain⟨b',ws,eb,hb,lb,rpg⟩:=aJ e2 rpf;cases eb;obtain⟨y,ey⟩:=ui lb hz.2;have rph:=jw rpg hz.2 ey;have rpi:Rp K H ((t,some (.ref a))::(q2,some y)::(t,some (.ref a))::(u,some (.ref b))::Γ):=rph.perm (by refine B_ ?_ (K0 _ _ _);refine .cons _ ?_;refine B_ (K0 _ _ _) ?_;exact .cons _ (K0 _ _ _))
   obtain⟨a',vs,ea,ha,la,rpj⟩:=aJ e1 rpi;cases ea;obtain⟨x,ex⟩:=ui la hz.1;have rpk:=jw rpj hz.1 ex;refine⟨⟨vs,ws,x,y,ha,hb,ex,ey⟩,fun v H' hy=>?_⟩;obtain⟨p,x',y',hp,ev,eH,h1,h2⟩:=hy;have ex':=h1 vs ha;have ey':=h2 ws hb;rw[ex]at ex';rw[ey]at ey';cases ex';cases ey';subst ev;subst eH;exact GH rpk (bP hp _) aO
 stop:=fun H Γ rp=>by have rp0:Rp K H ((t,some (.ref a))::(u,some (.ref b))::Γ):=rp;obtain⟨a',vs,ea,ha,la,_⟩:=aJ e1 rp0;obtain⟨b',ws,eb,hb,lb,_⟩:=aJ e2 rp0.tail;cases ea;cases eb;refine⟨vs,ws,ha,hb,?_⟩;rw[a_,List.length_zip,la,lb];lia
theorem AI{x1:Nat}{tp:Pos}(hg:Gl X "zip")(hm:X.mg "zip"=none)(ha:GA X [a,b] fr)(hs:Oy [a,b] X.env=[(false,OK a X.env),(false,OK b X.env)]:=by rfl)(hs2:Oy [b] X.env=[(false,OK b X.env)]:=by rfl) :
  GI X (.Tuple es x1 tp) (.Call (.Name "zip" p) [a,b] [] pos) (iZp fr):=by
 rintro pins s σ H R I ⟨env,Fr,k,rs,q,c⟩;refine Gp hg hm ha hs hs2 pins s σ H R I ⟨env,Fr,_,rs,q,fun ts env1 vs H1 q1 l rs1=>?_⟩;rcases ts with _|⟨t,_|⟨u,_|⟨t3,ts⟩⟩⟩ <;> try exact q1.elim
 obtain⟨v,w,rfl⟩:=zz2 l rfl;obtain⟨as,ea,q2⟩:=aI q1;obtain⟨bs,eb,kt⟩:=aI q2;have rs1:Rs X.K H1 env1 σ ((t,some v)::(u,some w)::Fr):=rs1;have r2:Rs X.K H1 env1 σ ((er t,some v)::(u,some w)::Fr):=.of rs1.1 (pM rs1.head);have r3:Rs X.K H1 env1 σ ((er u,some w)::(er t,some v)::Fr):=.of rs1.1 (pM (r2.perm (.swap _ _ _)).head);have r4:=r3.perm (.swap _ _ _);obtain⟨e1,_⟩:=qC ea;obtain⟨e2,_⟩:=qC eb;obtain⟨a',xs,rfl,hq,l1,_⟩:=aJ e1 r4.head;obtain⟨b',ys,rfl,hq2,l2,_⟩:=aJ e2 r3.head;exact⟨_,a',_,b',rfl,⟨xs,hq⟩,⟨ys,hq2⟩,c _ _ _ [(er t,_),(er u,_)] _ kt r4 (EV e1 e2 (bf t) (bf u))⟩
end
open PySem PySem.Spec PyProof.Rows L2
noncomputable def frA(fr:List (Option Nat)):List Arg:=fr.map fun o=>match o with
 |some j=>.bor j
 |none=>.val .any
noncomputable def κc(fr:List (Option Nat))(j:Nat):Bool:=match fr[j]? with
 |some (some _)=>true
 | _=>false
theorem h9:∀(fr:List (Option Nat)) (σ:L2.St),m5 (frA fr) (cy fr σ) σ
 | [],σ=>trivial
 |none::r,σ=>h9 r σ
 |some j::r,σ=>by
  refine⟨?_,h9 r σ⟩;by_cases h:j<σ.length
  ·refine .inl ?_;show σ[j]?=some ((σ[j]?).join);rw[c_ h]
   rfl
  exact .inr (by lia)
theorem lC:∀(fr:List (Option Nat)) (τ τ':List (Option V)) (σ:L2.St),τ'.length=τ.length->(∀j,κc fr j=true->τ'[j]?=τ[j]?)->m5 (frA fr) τ σ->m5 (frA fr) τ' σ
 | [],[],τ',σ,l,_,_=>by
  have:τ'=[]:=by cases τ' with|nil=>rfl|cons _ _=>cases l
  subst this
  trivial
 | [],_::_,_,_,_,_,o=>o.elim
 |none::r,[],_,_,_,_,o=>o.elim
 |some j::r,[],_,_,_,_,o=>o.elim
 |none::r,x::τ,[],σ,l,_,_=>by cases l
 |some j::r,x::τ,[],σ,l,_,_=>by cases l
 |none::r,x::τ,y::τ',σ,l,k,o=>lC r τ τ' σ (by simpa using l) (fun j hj=>by simpa using k (j+1) hj) o
 |some i::r,x::τ,y::τ',σ,l,k,o=>by
  have e:y=x:=by have:=k 0 rfl;simpa using this
  subst e;exact⟨o.1,lC r τ τ' σ (by simpa using l) (fun j hj=>by simpa using k (j+1) hj) o.2⟩
noncomputable def Es(fr:List (Option Nat))(its:List T)(g:PG')(ft:PB)(fe:PF)(env1:Ev)(k:T->Ev->Prop):Prop:=its.length<sizeLine/\∃W:Nat->List T->Ev->Prop,W 0 [] (lend (frA fr) env1).1/\
 (∀i t acc ie,W i acc ie->its[i]?=some t->g t ie fun ie2=>ft ie2 fun b ie3=>cnd b (fe ie3 fun u ie4=>W (i+1) (acc++[u]) ie4) (W (i+1) acc ie3))/\
 ∀acc ie,W its.length acc ie->k (.lst true acc) (back (frA fr) ie (lend (frA fr) env1).2)
noncomputable def vt(fr:List (Option Nat))(fi:PIt)(g:PG')(ft:PB)(fe:PF):PF:=fun env k=>fi env fun its env1=>Es fr its g ft fe env1 k
theorem sA:∀fr:List (Option Nat),(frA fr).map oU=fr.map fun _=>T.any
 | []=>rfl
 |none::r=>by show T.any::(frA r).map oU=T.any::r.map fun _=>T.any;rw[sA r]
 |some j::r=>by show T.any::(frA r).map oU=T.any::r.map fun _=>T.any;rw[sA r]
theorem yL{K:N7}{H:Hp}{Γ:Fm}:∀(fr:List (Option Nat)) (xs:List (Option V)),Rp K H Γ->Rp K H ((fr.map fun _=>T.any).zip xs++Γ)
 | [],xs,h=>h
 | _::r,[],h=>h
 | _::r,x::xs,h=>iZ (yL r xs h)
theorem DX(fr:List (Option Nat)):(frA fr).length=fr.length:=by unfold frA;rw[a_]
theorem wx(fr:List (Option Nat))(σ:L2.St):(cy fr σ).length=fr.length:=by unfold cy;rw[a_]
variable {fe:PF}{fi:PIt}{fr:List (Option Nat)}
theorem wc{g:PG'}{ft:PB}:∀ σ H Q,wE K (vt fr fi g ft fe) σ H Q->yz (wI K fi) fr (fun _ _ _=>wG K (κc fr) g) (fun _ _ _=>wB K ft) (fun _ _ _=>wE K fe) σ H Q:=by
 rintro σ H Q ⟨env,Fr,k,rs,q,c⟩;refine⟨env,Fr,_,rs,q,?_⟩;rintro its env1 J Fg H1 ⟨hz,W,w0,wt,we⟩ rs1 ok;intro p hp s3 H3' fp;have l0:Rs K H1 env1 σ (((frA fr).map oU).zip (cy fr σ)++(Fg++Fr)):=⟨rs1.1,by refine Rp.perm ?_ (x_ _ _ _);rw[sA];exact yL fr _ rs1.2⟩
 have l1:=lT (h9 fr σ) l0;obtain⟨ie0,ou,e0⟩:∃ie0 ou,lend (frA fr) env1=(ie0,ou):=⟨_,_,rfl⟩;have lie:ie0.length=(cy fr σ).length:=by have:=j7 (frA fr) env1;rw[e0,DX]at this;rw[wx];exact this
 rw[e0]at l1 w0;have rp0:Rp K (upd H1 p (.lst [])) ((.lst true [],some (.ref p))::(ie0.zip (cy fr σ)++(Fg++(ou.zip σ++Fr)))):=by refine gB (ts:=[]) (vs:=[]) (l1.2.perm ?_) rfl hp (bP hp _) aO;show NK (ou.zip σ++(ie0.zip (cy fr σ)++(Fg++Fr))) (ie0.zip (cy fr σ)++(Fg++(ou.zip σ++Fr)));exact(x_ _ _ _).trans ((x_ _ _ _).append_left _)
 refine⟨fun i m σ' H'=>∃acc ie,W i acc ie/\Rs K H' ie σ' ((.lst true acc,some (.ref p))::(Fg++(ou.zip σ++Fr)))/\Kept (κc fr) (cy fr σ) σ'/\m+i=its.length/\acc.length<=i,⟨its.length,[],ie0,w0,.of lie rp0,.refl,rfl,b_ _⟩,?_⟩;rintro i m σ1 H2 ⟨acc,ie,w2,rs2,k2,hm,ha⟩;have rp2:Rp K H2 (Fg++((.lst true acc,some (.ref p))::(ie.zip σ1++(ou.zip σ++Fr)))):=by refine rs2.head.perm ?_;refine B_ ?_ i_.symm;exact .cons _ (x_ _ _ _)
 by_cases hlt:i<its.length
 ·have ei:its[i]?=some its[i]:=c_ hlt;obtain⟨hgo,hy⟩:=ok.turn i its[i] H2 _ ei rp2;refine .inr ⟨hgo,fun x H' hx=>?_⟩;have rp3:=hy x H' hx;have rs3:Rs K H' ie σ1 ((its[i],some x)::((.lst true acc,some (.ref p))::(Fg++(ou.zip σ++Fr)))):=.of rs2.1 (rp3.perm (.cons _ (by refine i_.trans ?_;refine B_ ?_ i_.symm;exact .cons _ (x_ _ _ _))))
  refine⟨its[i],ie,_,_,rs3,wt i its[i] acc ie w2 ei,fun ie3 σ3 H3 q3 rs4 k4=>?_⟩;refine⟨ie3,_,_,rs4,q3,fun b ie4 H4 q4 rs5=>fB ⟨fun hb=>?_,fun hb=>?_⟩⟩
  ·refine⟨ie4,_,_,rs5,q4.1 hb,fun u ie5 v H5 q5 rs6=>?_⟩;have r7:=rs6.perm (.swap _ _ _);obtain⟨a',ys,ea,hys,ly,r8⟩:=iG r7.head;cases ea;refine⟨ys,hys,by rw[<-ly];exact JK ha (Lq hlt hz),m-1,by lia,acc++[u],ie5,q5,.of r7.1 ?_,k2.trans k4,by lia,by rw[g_];simp;omega⟩;refine fO (ts:=acc++[u]) (vs:=ys++[v]) (r8.perm (.cons _ ?_)) (by rw[g_,g_,ly];rfl) Put.up;rw[mU ly,k_];refine JS _ ?_;exact i_
  exact⟨m-1,by lia,acc,ie4,q4.2 hb,rs5,k2.trans k4,by lia,by lia⟩
 have:i=its.length:=by lia
 subst this;refine .inl ⟨ok.stop H2 _ rp2,c _ _ _ _ (we acc ie w2) ?_⟩;rw[e0];have ao:m5 (frA fr) σ1 σ:=lC fr (cy fr σ) σ1 σ k2.1 k2.2 (h9 fr σ);refine mN ao (env:=ou) ⟨l1.1,?_⟩;refine rp2.part.perm ?_;refine B_ ?_ (x_ _ _ _);refine B_ i_.symm ?_;exact JS _ i_.symm
def GTs(X:Cx)(ifs:List Ov)(f:PB):Prop:=PTs X ifs (wB X.K f)
def vk:PB:=fun env k=>k true env
theorem bD{X:Cx}:GTs X [] vk:=by rintro pins s σ H Q I ⟨env,Fr,k,rs,q,c⟩;exact DC pins s σ H Q I (c _ _ _ q rs)
theorem xD{c:Ov}{f:PB}(h:GT X c f):GTs X [c] f:=DJ h
theorem bO{X:Cx}{N ps:List Str}{esc:O4}(S:FnScope N ps esc)(N':List Str)(fr:List (Option Nat))(nd:N'.Nodup){elt target iter:Ov}{ifs:List Ov}{sc:O4}{pos:Pos}{fi:PIt}{g:PG'}{ft:PB}{fe:PF}(C:jg N esc sc N' fr=true)
  (hi:GI X target iter fi) (hg:∀s3 H3 fp,GG (κc fr) (aT X N' sc s3 H3 fp) target g) (ht:∀s3 H3 fp,GTs (aT X N' sc s3 H3 fp) ifs ft) (he:∀s3 H3 fp,GE (aT X N' sc s3 H3 fp) elt fe)
  (hc:X.calm=true:=by rfl) (hN:X.N=N:=by rfl) (hS:X.env.scope=esc:=by rfl) (hs:∀x,OX iter X.env x=pure x:=by intro _;rfl):GE X (.ListComp elt [⟨target,iter,ifs,0⟩] sc pos) (vt fr fi g ft fe):=
 PE.imp (Bb S N' fr nd C hi hg ht he hc hN hS hs) wc
abbrev PM:=T->List T->(T->T->Prop)->Prop
noncomputable def MtP(X:Cx)(id:String)(m:PM):Prop:=MtM X id (fun x xs H Q=>∃t ts Γ k,ts.length=xs.length/\Rp X.K H ((t,some x)::(zz ts xs++Γ))/\m t ts k/\∀t' r v H',k t' r->Rp X.K H' ((r,some v)::(t',some x)::Γ)->Q v H')
def isL:T->Bool
 | .lst _ _=>true
 | _=>false
noncomputable def yJ(i:Nat)(m:PM)(fr:PFs):PF:=fun env k=>got (env[i]?) fun t0=>isL t0=true/\fr env fun ts env1=>got (env1[i]?) fun t=>m t ts fun t' r=>k r (env1.set i t')
variable {xp:Pos}
section
variable{X:Cx}{e o:Ov}{es:List Ov}{fr:PFs}{fe:PF}{m:PM}{name:Str}{id:String}{apos cpos pos:Pos}
theorem DL(h:isL t=true)(rp:Rp X.K H ((t,some v)::Γ)):tyV X.K "list" v H:=by
 cases t <;> first|cases h|skip
 obtain⟨a,vs,rfl,hq,l,_⟩:=ir rp;exact .inl ⟨rfl,vs,.inl hq⟩
theorem Co(h:isL t=true):isAny t=false:=by cases t <;> first|rfl|cases h
theorem El:∀ σ H Q,wE X.K (yJ i m fr) σ H Q->tBM X.K "list" (fun x xs H Q=>∃t ts Γ k,ts.length=xs.length/\Rp X.K H ((t,some x)::(zz ts xs++Γ))/\m t ts k/\∀t' r v H',k t' r->Rp X.K H' ((r,some v)::(t',some x)::Γ)->Q v H') (Gg i) (wA X.K fr) σ H Q:=by
 rintro σ H Q ⟨env,Fr,k,rs,q,c⟩;obtain⟨t0,e0,hl,q⟩:=aI q;obtain⟨y,ey,rs2⟩:=rs.slot e0;obtain⟨v,rfl⟩:=fV rs2 (Co hl);refine⟨v,ey,DL hl rs2.head,env,Fr,_,rs,q,fun ts env1 vs H1 q1 l rs1=>?_⟩;obtain⟨t,et,q1⟩:=aI q1;obtain⟨y',ey',rs3⟩:=rs1.slot et;rw[ey]at ey';cases ey';have hi:i<env1.length:=(gV.mp et).1;refine⟨t,ts,(env1.set i .any).zip σ++Fr,_,l,?_,q1,fun t' r w H' kt rp=>c _ _ _ _ kt ?_⟩
 ·refine rs3.head.perm (.cons _ ?_);exact x_ _ _ _
 have r4:Rs X.K H' (env1.set i .any) σ ((t',some v)::(r,some w)::Fr):=.of rs3.1 (rp.perm (by refine B_ (.swap _ _ _) ?_;exact .cons _ i_.symm))
 have r5:=Rs.nu (i:=i) r4 (by rw[JB];exact hi) ey;rw[MD]at r5;exact r5
theorem dy(i:Nat){x:Str}(slot:Slot "list" name id)(hty:Ug (.builtin id)=pure (.type "method_descriptor"))(hm:MtP X id m)(ha:GA X (e::es) fr)(hN:X.N[i]?=some x:=by rfl)(hv:Vis X.env.scope x:=by first|exact e_ rfl|exact r_ (e_ rfl)|exact r_ (r_ rfl))(hd:(x ==("__debug__":Str))=false:=by decide)(hcd:(x ==("__classdict__":Str))=false:=by decide)
  (hbase:Rb (.Name x xp) name X.env (OK (.Name x xp) X.env)=OK (.Name x xp) X.env:=by rfl)
  (hfew:((Qb cpos (Oy (e::es) X.env)).all (fun x=>!x.1)&&(backToKw cpos (UC [] X.env)).all (fun x=>x.1.isSome)&&decide ((e::es).length+([]:List Ts).length+(if([]:List Ts).isEmpty then 0 else 1)<30))=true:=by rfl)
  (hline:(apos.endLine == cpos.line)=true:=by rfl) (hs:Oy (e::es) X.env=(false,OK e X.env)::Oy es X.env:=by rfl) (hplain:(Qb cpos (Oy es X.env)).any (·.1)=false:=by rfl) :
  GE X (.Call (.Attribute (.Name x xp) name apos) (e::es) [] cpos) (yJ i m fr):=PE.imp (IL RC slot hty hm (gH hN hv hd hcd) ha hbase hfew hline hs hplain) El
theorem BF(i:Nat){x:Str}(slot:Slot "list" name id)(hty:Ug (.builtin id)=pure (.type "method_descriptor"))(hm:MtP X id m)(hN:X.N[i]?=some x:=by rfl)(hv:Vis X.env.scope x:=by first|exact e_ rfl|exact r_ (e_ rfl)|exact r_ (r_ rfl))(hd:(x ==("__debug__":Str))=false:=by decide)(hcd:(x ==("__classdict__":Str))=false:=by decide)
  (hbase:Rb (.Name x xp) name X.env (OK (.Name x xp) X.env)=OK (.Name x xp) X.env:=by rfl) (hline:(apos.endLine == cpos.line)=true:=by rfl) :
  GE X (.Call (.Attribute (.Name x xp) name apos) [] [] cpos) (yJ i m FR):=by
 refine PE.imp (FE RC slot hty hm (gH hN hv hd hcd) hbase hline) fun σ H Q h=>?_;obtain⟨v,ev,ty,env,Fr,k,rs,q,c⟩:=El σ H Q h;exact⟨v,ev,ty,c [] env [] H q rfl rs⟩
noncomputable def sG:PM
 | .lst true ts,[t],k=>ts.length<sizeLine/\k (.lst true (ts++[t])) .non
 | _,_,_=>False
noncomputable def tT:PM
 | .lst true ts,[.lst true us],k=>ts.length+us.length<=sizeLine/\k (.lst true (ts++us)) .non
 | _,_,_=>False
theorem bK:MtP X "list.append" sG:=by
 rintro pins s σ H x xs v us Q I rx r ⟨t,ts,Γ,k,l,rp,g,c⟩;unfold sG at g;split at g
 ·rename_i k ts t;obtain⟨y,rfl⟩:=zz1 l rfl;obtain⟨a,vs,ea,ha,la,rp2⟩:=iG rp;cases ea;refine vY pins s σ H _ _ v us Q I rx r ⟨a,vs,y,rfl,rfl,ha,by rw[<-la];exact g.1,fun H' hp=>c _ _ _ _ g.2 (bI ?_ fun _=>.non)⟩;refine fO (ts:=ts++[t]) (vs:=vs++[y]) ?_ (by rw[g_,g_,la];rfl) hp;rw[mU la,k_];exact rp2
 exact Oz g
theorem vW:MtP X "list.extend" tT:=by
 rintro pins s σ H x xs v us Q I rx r ⟨t,ts,Γ,k,l,rp,g,c⟩;unfold tT at g;split at g
 ·rename_i k ts us';obtain⟨y,rfl⟩:=zz1 l rfl;obtain⟨a,vs,ea,ha,la,rp2⟩:=iG rp;cases ea;have rp3:Rp X.K H ((.lst true us',some y)::(.bare,some (.ref a))::(zz ts vs++Γ)):=rp2.perm (by refine B_ (.cons _ i_) ?_;exact .swap _ _ _)
  obtain⟨b,ws,eb,hb,lb,rp4⟩:=iG rp3;cases eb;have rp5:Rp X.K H ((.bare,some (.ref a))::(zz (ts++us') (vs++ws)++Γ)):=by rw[mU la,k_];refine rp4.tail.perm ?_;refine i_.trans (.cons _ ?_);exact x_ _ _ _
  exact wm pins s σ H _ _ v us Q I rx r ⟨a,b,vs,ws,rfl,rfl,ha,hb,by rw[<-la,<-lb];exact g.1,fun H' hp=>c _ _ _ _ g.2 (bI (fO rp5 (by rw[g_,g_,la,lb]) hp) fun _=>.non)⟩
 exact Oz g
end
def outs(ms:List Bool)(env:Ev):List T:=ms.zipWith (fun b t=>if b then t else .any) env
def κm(ms:List Bool)(j:Nat):Bool:=match ms[j]? with
 |some b=>b
 |none=>false
theorem lU{K:N7}{H:Hp}{Γ:Fm}:∀{ms:List Bool}{env:Ev}{σ:L2.St}{vs:List V},ms.length=vs.length->(∀j,κm ms j=true->σ[j]?=(vs[j]?).map some)->Rp K H (env.zip σ++Γ)->Rp K H (zz (outs ms env) vs++Γ)
 | [],env,σ,vs,l,k,h=>h.part
 | _::_,_,_,[],l,_,_=>by cases l
 |m::ms,[],σ,v::vs,l,k,h=>h
 |m::ms,t::env,[],v::vs,l,k,h=>by
  have ih:=lU (ms:=ms) (env:=env) (σ:=[]) (vs:=vs) (by simpa using l) (fun j hj=>by have:=k (j+1) hj;simpa using this) (by simpa using h)
  cases m with
  |true=>have:=k 0 rfl;simp at this
  |false=>exact iZ ih
 |m::ms,t::env,x::σ,v::vs,l,k,h=>by
  have h:Rp K H ((t,x)::(env.zip σ++Γ)):=h;have ks:∀j,κm ms j=true->σ[j]?=(vs[j]?).map some:=fun j hj=>by have:=k (j+1) hj;simpa using this
  cases m with
  |true=>
   have e:x=some v:=by have:=k 0 rfl;simpa using this
   subst e;have h2:Rp K H (env.zip σ++((t,some v)::Γ)):=h.perm i_.symm;exact(lU (ms:=ms) (by simpa using l) ks h2).perm i_
  |false=>exact iZ (lU (ms:=ms) (by simpa using l) ks h.tail)
theorem C0(l:ts.length=vs.length)(n:Nat)(h:Rp K H (zz ts vs++Γ)):Rp K H ((ts++Kz n T.any).zip (vs.map some++Kz n none)++Γ):=by
 rw[NB (by rw[a_];exact l),k_];have:∀n,Rp K H (zz ts vs++((Kz n T.any).zip (Kz n (none:Option V))++Γ)):=by
  intro n;induction n with
  |zero=>exact h
  |succ n ih=>
   rw[M_,M_];exact(iZ (x:=none) ih).perm i_.symm
 exact this n
variable {N:List Str}
theorem br{P:Oj}{mg:Str->Option N5}{base:Ou}{x qual:Str}{f:N8}{fd:OA}{k:Nat}{Pr:FP}(F:Fun K x qual st f fd)(S:FnScope N ps (ax st))(ms:List Bool)(hms:ms.length=ps.length)
  (body:∀(cdv:N5) (A:OB) (outer:List Env) (s:N9) (H:Hp) (E:XK),Room k (A.deeper (QO qual (ax st) s.heap.objs.size f cdv))->
   ∃fb,GSs (κm ms) (xr CX0 P w K mg base N qual (ax st) f cdv A outer s H E).nox (dA st) fb/\∀ts kk,ts.length=ps.length->Pr ts kk->fb { nx:=fun env=>kk .non (outs ms env),rt:=fun t env=>kk t (outs ms env) } (ts++Kz (N.length-ps.length) .any)) :
  FnOk P w K mg base CX0 (k+1) f fd ps (aG K ps.length Pr):=by
 refine F.ok S (by rintro vs H Q E ⟨ts,Fr,kk,h1,h2,_⟩;exact h2) ?_;rintro cdv A outer s H vs Q E hr ⟨ts,Fr,kk,h1,h2,rp,pr,c⟩;obtain⟨fb,hb,q⟩:=body cdv A outer s H E hr;refine⟨_,hb,ts++Kz (N.length-ps.length) .any,Fr,_,?_,q ts kk (by rw[h1,h2]) pr,?_⟩
 ·unfold L2.start;rw[h2];refine⟨by simp[h1],C0 h1 _ rp⟩
 have kv:∀{σ'},Kept (κm ms) (L2.start N vs) σ'->∀j,κm ms j=true->σ'[j]?=(vs[j]?).map some:=fun{σ'} kp j hj=>by
  rw[kp.2 j hj];unfold L2.start;have hj2:j<vs.length:=by
   rw[h2,<-hms];unfold κm at hj;split at hj
   ·rename_i b e;exact(gV.mp e).1
   cases hj
  rw[KQ (by rw[a_];exact hj2),z_]
 refine⟨fun env' σ' H' q' rs' k'=>c _ _ _ _ q' ?_,fun t env' v σ' H' q' rs' k'=>c _ _ _ _ q' ?_,fun _ _ _ z=>z.elim,fun _ _ _ z=>z.elim⟩
 ·exact bI (lU (by rw[hms,h2]) (kv k') rs'.2) fun _=>.non
 exact(lU (Γ:=(t,some v)::Fr) (by rw[hms,h2]) (kv k') rs'.2).perm i_
open PySem PySem.Spec PyProof.Rows L2
section
variable{X:Cx}{pos:Pos}
theorem Bm{te:TE}(h:PS X st (CN te (ya i))):PS X st (fun D σ H=>te σ H fun v H'=>Gr H H'/\D.nx (σ.set i (some v)) (over H H')):=by
 intro pins s σ H D I q;have key:=h pins s σ H { nx:=fun σ' H'=>Gr H H'/\D.nx σ' (over H H'),rt:=fun _ _=>False} I q;refine thn key fun f s' hs=>?_;cases f with
 |next=>
  obtain⟨σ',H',I',g,q'⟩:=hs;exact⟨σ',over H H',pW I I' g,q'⟩
 |brk=>obtain⟨_,_,_,z⟩:=hs;exact z.elim
 |cont=>obtain⟨_,_,_,z⟩:=hs;exact z.elim
 |ret u=>obtain⟨_,_,_,_,_,z⟩:=hs;exact z.elim
theorem CJ{f:PF}{σ:L2.St}{Q:VK}(h:wE K (fQ f) σ H Q):wE K f σ H fun v H'=>Gr H H'/\Q v (over H H'):=by
 obtain⟨env,Fr,k,rs,q,c⟩:=h;have rv:Rs K H (erL env) σ ((Fr.map fun p=>(er p.1,p.2))++[(.kp H,some .non)]):=by refine⟨by rw[sE];exact rs.1,?_⟩;have:=sC rs.2;rw[v_,oq,k_]at this;exact this
 refine⟨erL env,_,_,rv,q,?_⟩;rintro t env' v H' ⟨n,kt⟩ rs';obtain⟨g,r2⟩:=sD rs.2 (Δ:=env'.zip σ++(Fr.map fun p=>(er p.1,p.2))) (by rw[k_];exact rs'.head) n;exact⟨g,c t env v _ kt (.of rs.1 r2)⟩
theorem vM{esc:O4}(S:FnScope N ps esc){x:Str}{pos pos':Pos}(N':List Str)(fr:List (Option Nat))(nd:N'.Nodup){elt target iter:Ov}{ifs:List Ov}{sc:O4}{pos2:Pos}{g:PG'}{ft:PB}(C:jg N esc sc N' fr=true)
  (hi:X.N[i]?=some x) (hx:Loc X.env.scope x) (hκ:κ i=false) (hit:GI X target iter fi) (hg:∀s3 H3 fp,GG (κc fr) (aT X N' sc s3 H3 fp) target g) (ht:∀s3 H3 fp,GTs (aT X N' sc s3 H3 fp) ifs ft) (he:∀s3 H3 fp,GE (aT X N' sc s3 H3 fp) elt fe)
  (hsw:QL (.ListComp elt [⟨target,iter,ifs,0⟩] sc pos2) (some (.Name x pos')) pos.line X.env=pure true) (hf:X.fn x=true:=by rfl)
  (hc:X.calm=true:=by rfl) (hN:X.N=N:=by rfl) (hS:X.env.scope=esc:=by rfl) (hs:∀x,OX iter X.env x=pure x:=by intro _;rfl):GS κ X (.Assign [.Name x pos'] (.ListComp elt [⟨target,iter,ifs,0⟩] sc pos2) pos) (Fx i (fQ (vt fr fi g ft fe))):=by
 refine PS.imp (Bm (Cp S N' fr nd C hi hx hit hg ht he hsw hf hc hN hS hs)) ?_;rintro D σ H ⟨env,Fr,pe,rs,q,c⟩;exact wc σ H _ (CJ (Q:=fun v H'=>D.nx (σ.set i (some v)) H') ⟨env,Fr,_,rs,q,fun t env' v H' q1 rs1=>c.nx _ _ _ q1 rs1.put (.set hκ)⟩)
theorem dN{x:Str}{n:String}(hg:Gl X x)(hm:X.mg x=none)(hv:Pz x=some (.type n))(hn:x≠"__name__":=by decide)(hd:(x ==("__debug__":Str))=false:=by decide):GE X (.Name x pos) (fK (.ty n)):=
 PE.imp (CZ (v:=.ty n) hg hm hv rfl hn hd) fun σ H Q ⟨env,Fr,k,rs,q,c⟩=>c _ _ _ _ q (eT rs fun _=>.ty)
noncomputable def Glb(K:N7)(mg:Str->Option N5)(x:Str)(t:T):Prop:=∃v u,mg x=some u/\RelV v u/\∀Hz H,RepT K Hz H t v []
theorem FN{x:Str}(G:Glb X.K X.mg x t)(hg:Gl X x)(hd:(x ==("__debug__":Str))=false:=by decide):GE X (.Name x pos) (fK t):=by obtain⟨v,u,hm,r,ht⟩:=G;exact Cm hg hm r ht hd
theorem qv:GE X (.Dict [] [] pos) (fK (.dT true [])):=PE.imp A9 (by rintro σ H Q ⟨env,Fr,k,rs,q,c⟩;exact fun p hp=>c _ _ _ _ q (.of rs.1 (E7 rs.2 hp (bP hp _) aO)))
noncomputable def F9:T->Option Ty
 | .non=>some .non
 | .bl _=>some .bl
 | .int _=>some .int
 | .str _=>some .str
 | .tup _=>some .tup
 | .cst _=>some .tup
 | .lst _ _=>some .lst
 | .dK _ _=>some .dct
 | _=>none
noncomputable def E1:String->Option Ty
 | "NoneType"=>some .non
 | "bool"=>some .bl
 | "int"=>some .int
 | "str"=>some .str
 | "list"=>some .lst
 | "tuple"=>some .tup
 | "dict"=>some .dct
 | _=>none
theorem xw{n:String}{c:Ty}(h:E1 n=some c):n=c.nm:=by unfold E1 at h;split at h <;> cases h <;> rfl
noncomputable def yw:List T->Option (List Ty)
 | []=>some []
 | .ty n::r=>match E1 n,yw r with
  |some c,some cs=>some (c::cs)
  | _,_=>none
 | _::_=>none
noncomputable def dX:P1s
 | [x,.ty n],k=>got (F9 x) fun t=>got (E1 n) fun c=>k (.bl (isA t c))
 | [x,.tup ts],k=>got (F9 x) fun t=>got (yw ts) fun cs=>k (.bl (cs.any (isA t)))
 | _,_=>False
theorem Er{n:String}(h:Rp K H ((.ty n,some y)::Γ)):y=.ty n:=by obtain⟨_,_,r,_⟩:=fE h rfl;cases r;rfl
theorem Ba{K:N7}{H:Hp}{Γ:Fm}:∀{ts:List T}{cs:List Ty}{vs:List V},yw ts=some cs->ts.length=vs.length->Rp K H (zz ts vs++Γ)->vs=cs.map fun c=>V.ty c.nm
 | [],cs,[],e,_,_=>by cases e;rfl
 | [],_,_::_,_,l,_=>by cases l
 | _::_,_,[],_,l,_=>by cases l
 |t::ts,cs,v::vs,e,l,h=>by
  cases t <;> first|cases e|skip
  rename_i n;rw[yw]at e;split at e
  ·rename_i c r e1 e2;cases e;have h:Rp K H ((.ty n,some v)::(zz ts vs++Γ)):=h;rw[Er h,xw e1,Ba e2 (by simpa using l) h.tail]
   rfl
  cases e
theorem B0{c:Ty}(e:F9 t=some c)(h:Rp K H ((t,some y)::Γ)):TyG K H y c:=by
 cases t with
 |non=>cases e;rw[sI h];exact .non
 |bl b=>cases e;rw[m7 h];exact .bl b
 |int i=>cases e;rw[aU h];exact .int i
 |str x=>cases e;rw[jW h];exact .str x
 |tup ts=>cases e;obtain⟨a,vs,rfl,hq,_⟩:=aJ rfl h;exact .tup hq
 |cst ts=>cases e;obtain⟨a,vs,rfl,hq,_⟩:=aJ rfl h;exact .tup hq
 |lst o ts=>cases e;obtain⟨a,vs,rfl,hq,_⟩:=aJ rfl h;exact .lst hq
 |dK o kvs=>
  cases o with
  |true=>cases e;obtain⟨a,vs,ea,hq,_⟩:=pY h;cases ea;exact .dct (.inl hq)
  |false=>
   cases e;obtain⟨Hz,L,r,g⟩:=fE h rfl;cases r;rename_i a vs hq _;exact .dct (g _ _ hq)
 | _=>cases e
theorem aN:fw X (.builtin "isinstance") dX:=by
 rintro pins s σ H xs us Q I r ⟨ts,Γ,k,l,rp,g,c⟩;unfold dX at g;split at g
 ·rename_i k x n;obtain⟨y,z,rfl⟩:=zz2 l rfl;have rp:Rp X.K H ((x,some y)::(.ty n,some z)::Γ):=rp;obtain⟨t,et,g⟩:=aI g;obtain⟨ct,ec,kt⟩:=aI g;rw[Er rp.tail,xw ec]at r;have e1:[ct].any (isA t)=isA t ct:=by simp
  refine nU pins s σ H _ us Q I r ⟨y,_,t,[ct],rfl,B0 et rp,.inl ⟨ct,rfl,rfl⟩,?_⟩;rw[e1];exact c _ _ _ kt (bI rp.tail.tail fun _=>.bl)
 ·rename_i k x us';obtain⟨y,z,rfl⟩:=zz2 l rfl;have rp:Rp X.K H ((x,some y)::(.tup us',some z)::Γ):=rp;obtain⟨t,et,g⟩:=aI g;obtain⟨cs,ec,kt⟩:=aI g;obtain⟨a,vs,rfl,ha,la,rp2⟩:=oA rp.tail;have hv:=Ba ec la rp2;subst hv;exact nU pins s σ H _ us Q I r ⟨y,_,t,cs,rfl,B0 et rp,.inr ⟨a,rfl,ha⟩,c _ _ _ kt (bI rp.tail.tail fun _=>.bl)⟩
 exact Oz g
end
section
variable{κ':Type}[DecidableEq κ']
theorem uO:∀{ts:List (κ'×T)}{vs:List (κ'×V)} (q:κ') (t:T) (w:V),ts.map (·.1)=vs.map (·.1)->(nE ts q t).map (·.1)=(putK vs q w).map (·.1):=by
 intro ts vs q t w e;have ha:(ts.any fun kv=>decide (kv.1=q))=(vs.any fun kv=>decide (kv.1=q)):=by
  have e1:(ts.any fun kv=>decide (kv.1=q))=(ts.map (·.1)).any fun k=>decide (k=q):=by rw[NN];rfl
  have e2:(vs.any fun kv=>decide (kv.1=q))=(vs.map (·.1)).any fun k=>decide (k=q):=by rw[NN];rfl
  rw[e1,e2,e]
 unfold nE putK;rw[ha];split
 ·rw[F_,F_];have f1:((fun x:κ'×T=>x.1) ∘ fun kv=>if kv.1=q then(kv.1,t)else kv)=fun x=>x.1:=by funext kv;show(if kv.1=q then(kv.1,t)else kv).1=kv.1;split <;> rfl
  have f2:((fun x:κ'×V=>x.1) ∘ fun kv=>if kv.1=q then(kv.1,w)else kv)=fun x=>x.1:=by funext kv;show(if kv.1=q then(kv.1,w)else kv).1=kv.1;split <;> rfl
  rw[f1,f2,e]
 rw[v_,v_,e]
 rfl
theorem qS:∀{ts:List (κ'×T)}{vs:List (κ'×V)} (q:κ') (t:T) (w:V),ts.map (·.1)=vs.map (·.1)->(vs.map (·.1)).Nodup->∃r,((t,some w)::zz (ts.map (·.2)) (vs.map (·.2))).Perm (r++zz ((nE ts q t).map (·.2)) ((putK vs q w).map (·.2))):=by
 intro ts vs q t w e nd;by_cases hm:q∈vs.map (·.1)
 ·
  have ha:(vs.any fun kv=>decide (kv.1=q))=true:=by obtain⟨kv,h1,h2⟩:=t_.mp hm;exact K6.mpr ⟨kv,h1,decide_eq_true h2⟩
  have hb:(ts.any fun kv=>decide (kv.1=q))=true:=by rw[<-e]at hm;obtain⟨kv,h1,h2⟩:=t_.mp hm;exact K6.mpr ⟨kv,h1,decide_eq_true h2⟩
  unfold nE putK;rw[if_pos ha,if_pos hb];clear ha hb;induction ts generalizing vs with
  |nil=>
   have:vs=[]:=by cases vs with|nil=>rfl|cons _ _=>cases e
   subst this;cases hm
  |cons a ts ih=>
   cases vs with
   |nil=>cases e
   |cons b vs=>
    obtain⟨k1,t1⟩:=a;obtain⟨k2,v1⟩:=b;rw[f',f',J_]at e;have ek:k1=k2:=e.1;subst ek;rw[f',D']at nd;by_cases hk:k1=q
    ·subst hk;have n1:∀kv∈ts,kv.1≠k1:=fun kv hkv z=>nd.1 (by rw[<-e.2];exact t_.mpr ⟨kv,hkv,z⟩)
     have n2:∀kv∈vs,kv.1≠k1:=fun kv hkv z=>nd.1 (t_.mpr ⟨kv,hkv,z⟩);have m1:ts.map (fun kv=>if kv.1=k1 then(kv.1,t)else kv)=ts:=by
      conv=>rhs;rw[<-Nk ts]
      exact Ky fun kv hkv=>if_neg (n1 kv hkv)
     have m2:vs.map (fun kv=>if kv.1=k1 then(kv.1,w)else kv)=vs:=by
      conv=>rhs;rw[<-Nk vs]
      exact Ky fun kv hkv=>if_neg (n2 kv hkv)
     refine⟨[(t1,some v1)],?_⟩;simp only[f',if_true,m1,m2];exact .swap _ _ _
    have hm':q∈vs.map (·.1):=by
     rcases o_.mp hm with z|z
     ·exact absurd z.symm hk
     exact z
    obtain⟨r,p⟩:=ih e.2 nd.2 hm';refine⟨r,?_⟩;simp only[f',if_neg hk];show NK ((t,some w)::(t1,some v1)::zz (ts.map (·.2)) (vs.map (·.2))) (r++((t1,some v1)::zz ((ts.map fun kv=>if kv.1=q then(kv.1,t)else kv).map (·.2)) ((vs.map fun kv=>if kv.1=q then(kv.1,w)else kv).map (·.2))));exact(K0 _ _ _).trans ((p.cons _).trans i_.symm)
 have ha:(vs.any fun kv=>decide (kv.1=q))=false:=by rw[Ll];intro z;obtain⟨kv,h1,h2⟩:=K6.mp z;exact hm (t_.mpr ⟨kv,h1,of_decide_eq_true h2⟩)
 have hb:(ts.any fun kv=>decide (kv.1=q))=false:=by rw[Ll];intro z;obtain⟨kv,h1,h2⟩:=K6.mp z;exact hm (by rw[<-e];exact t_.mpr ⟨kv,h1,of_decide_eq_true h2⟩)
 unfold nE putK;rw[ha,hb];refine⟨[],?_⟩;simp only[Jv,if_false,Mb];rw[v_,v_,mU (by rw[a_,a_];exact bY e)];exact(Km (l₁:=[(t,some w)]))
end
noncomputable def qO:T->T->T->(T->Prop)->Prop
 | .lst true ts,.int i,v,k=>got (ixN ts.length i) fun j=>k (.lst true (ts.set j v))
 | .dK true kvs,y,v,k=>got (wD y) fun q=>kvs.length<sizeLine/\k (.dK true (nE kvs q v))
 | .dT true kvs,.tup ks,v,k=>got (o8 ks) fun q=>kvs.length<sizeLine/\k (.dT true (nE kvs q v))
 | _,_,_,_=>False
section
variable{X:Cx}{κ:Nat->Bool}{pos:Pos}
theorem BS{P:Oj}{h:Ou}(ok:HOk P w H h)(e:H a=some (.dT kvs)):(kvs.map (·.1)).Nodup:=by
 obtain⟨z,y,xs,r,o,es,ep,h1,h2,h3,h4,h5⟩:=ok a _ e;have:kvs.map (·.1)=xs.map (·.1):=by
  clear h4 h5 h1 z e;induction r with
  |nil=>rfl
  |cons q _ ih=>rw[f',f',ih,q.1]
 rw[this];exact h5
theorem B5{P:Oj}{h:Ou}{kvs:List (Key×V)}(ok:HOk P w H h)(e:H a=some (.dK kvs)):(kvs.map (·.1)).Nodup:=by
 obtain⟨z,y,vs,r,o,es,ep,h1,h2,h3,h4,h5,h6⟩:=ok a _ e;have:kvs.map (·.1)=vs.map (·.1):=by
  clear h6 h5 h4 h1 z e;induction r with
  |nil=>rfl
  |cons q _ ih=>rw[f',f',ih,q.1]
 rw[this];exact h6
theorem B7:∀{ts:List T}{vs:List V}{j:Nat}{t:T}{w:V},ts.length=vs.length->j<ts.length->∃r,((t,some w)::zz ts vs).Perm (r::zz (ts.set j t) (vs.set j w))
 | [],vs,j,t,w,l,h=>by cases h
 |a::ts,[],j,t,w,l,h=>by cases l
 |a::ts,b::vs,0,t,w,l,h=>⟨(a,some b),.swap _ _ _⟩
 |a::ts,b::vs,j+1,t,w,l,h=>by obtain⟨r,p⟩:=B7 (ts:=ts) (vs:=vs) (j:=j) (t:=t) (w:=w) (by simpa using l) (by simpa using h);exact⟨r,(K0 _ _ _).trans ((p.cons _).trans (.swap _ _ _))⟩
theorem IQ(hr:Room kr X.A):vU X (fun o i v H Q=>∃t ti tv Γ k,Rp X.K H ((t,some o)::(ti,some i)::(tv,some v)::Γ)/\qO t ti tv k/\∀t' H',k t'->Rp X.K H' ((t',some o)::Γ)->Q H'):=by
 rintro pins s σ H o i v ov iv u Q I ro ri rv ⟨t,ti,tv,Γ,k,rp,g,c⟩;cases t with
 |lst own ts=>
  cases own <;> cases ti <;> first|exact Oz g|skip
  rename_i j;obtain⟨m,em,kt⟩:=aI g;rw[aU rp.tail]at ri;obtain⟨a,vs,ea,ha,la,rp2⟩:=iG rp;cases ea;have hm:m<ts.length:=by have:=(tH em).2.1;exact this
  rw[la]at em;refine zS pins s σ H _ _ v ov iv u Q I ro ri rv ⟨a,vs,j,m,rfl,rfl,ha,em,fun H' hp=>c _ _ kt ?_⟩;obtain⟨r,p⟩:=B7 (t:=tv) (w:=v) la hm;have rp3:Rp X.K H ((.bare,some (.ref a))::(zz ts vs++((tv,some v)::Γ))):=by
   have:Rp X.K H ((.int j,some i)::((.bare,some (.ref a))::(zz ts vs++((tv,some v)::Γ)))):=rp2.perm (by refine B_ (.cons _ i_) ?_;exact .swap _ _ _)
   exact this.tail
  have rp4:Rp X.K H (r::((.bare,some (.ref a))::(zz (ts.set m tv) (vs.set m v)++Γ))):=rp3.perm (by refine B_ (.cons _ (i_.trans (p.append_right Γ))) ?_;exact .swap _ _ _)
  exact fO rp4.tail (by rw[JB,JB,la]) hp
 |dK own kvs=>
  cases own <;> first|exact Oz g|skip
  have g:got (wD ti) fun q=>kvs.length<sizeLine/\k (.dK true (nE kvs q tv)):=by cases ti <;> exact g
  obtain⟨q,eq,hz,kt⟩:=aI g;rw[y0 eq rp.tail]at ri;obtain⟨a,vs,ea,ha,la,rp2⟩:=pY rp;cases ea;cases ro;have hl:vs.length<sizeLine:=by rw[<-bY la];exact hz
  refine nG (rD hr) I (.inl ⟨vs,q,ha,rfl,hl,rfl⟩) ri rv fun s' I'=>⟨_,I',c _ _ kt ?_⟩;obtain⟨r,p⟩:=qS q tv v la (B5 I.hok ha);have rp3:Rp X.K H ((.bare,some (.ref a))::(zz (kvs.map (·.2)) (vs.map (·.2))++((tv,some v)::Γ))):=by
   have:Rp X.K H ((ti,some i)::((.bare,some (.ref a))::(zz (kvs.map (·.2)) (vs.map (·.2))++((tv,some v)::Γ)))):=rp2.perm (by refine B_ (.cons _ i_) ?_;exact .swap _ _ _)
   exact this.tail
  have rp4:Rp X.K H (r++((.bare,some (.ref a))::(zz ((nE kvs q tv).map (·.2)) ((putK vs q v).map (·.2))++Γ))):=rp3.perm (by refine B_ (.cons _ (i_.trans (p.append_right Γ))) ?_;rw[k_];exact i_.symm)
  exact rY rp4.part (uO q tv v la) Put.up
 |dT own kvs=>
  cases own <;> cases ti <;> first|exact Oz g|skip
  rename_i ks;obtain⟨q,eq,hz,kt⟩:=aI g;obtain⟨b,rfl,hb⟩:=xZ eq rp.tail;obtain⟨a,vs,ea,ha,la,rp2⟩:=B2 rp;cases ea;cases ro;have hl:vs.length<sizeLine:=by rw[<-bY la];exact hz
  refine nG (rD hr) I (.inr ⟨vs,q,b,ha,rfl,hb,hl,rfl⟩) ri rv fun s' I'=>⟨_,I',c _ _ kt ?_⟩;obtain⟨r,p⟩:=qS q tv v la (BS I.hok ha);have rp3:Rp X.K H ((.bare,some (.ref a))::(zz (kvs.map (·.2)) (vs.map (·.2))++((tv,some v)::Γ))):=by
   have:Rp X.K H ((.tup ks,some (.ref b))::((.bare,some (.ref a))::(zz (kvs.map (·.2)) (vs.map (·.2))++((tv,some v)::Γ)))):=rp2.perm (by refine B_ (.cons _ i_) ?_;exact .swap _ _ _)
   exact this.tail
  have rp4:Rp X.K H (r++((.bare,some (.ref a))::(zz ((nE kvs q tv).map (·.2)) ((putK vs q v).map (·.2))++Γ))):=rp3.perm (by refine B_ (.cons _ (i_.trans (p.append_right Γ))) ?_;rw[k_];exact i_.symm)
  exact zJ rp4.part (uO q tv v la) Put.up
 | _=>cases ti <;> exact Oz g
noncomputable def Eo(i:Nat)(fi:PF):PG':=fun v env k=>got (env[i]?) fun t0=>isAny t0=false/\fi env fun ti env1=>got (env1[i]?) fun t=>qO t ti v fun t'=>k (env1.set i t')
theorem ny{x:Str}{ix:Ov}{fi:PF}(hr:Room kr X.A)(hi:GE X ix fi)(hN:X.N[i]?=some x:=by rfl)(hv:Vis X.env.scope x:=by first|exact e_ rfl|exact r_ (e_ rfl)|exact r_ (r_ rfl))(hd:(x ==("__debug__":Str))=false:=by decide)(hcd:(x ==("__classdict__":Str))=false:=by decide)
  (ha:∀v,QA (.Subscript (.Name x xp) ix pos) X.env v=(do
   let ov <-QM [v] (OK (.Name x xp) X.env)
   let iv <-QM [v,ov] (OK ix X.env)
   Tr pos
   QM [v,ov,iv] (Tq ov iv v)
   release [v,ov,iv] []):=by intro _;rfl):GG κ X (.Subscript (.Name x xp) ix pos) (Eo i fi):=by
 rintro pins s σ H v u Q I r ⟨tv,env,Fr,k,rs,q,c⟩;obtain⟨t0,e0,na,q⟩:=aI q;obtain⟨y,ey,rs2⟩:=rs.slot e0;obtain⟨w,rfl⟩:=fV rs2 na;refine Bs (gH hN hv hd hcd) hi (IQ hr) ha pins s σ H v u Q I r ⟨w,ey,env,(tv,some v)::Fr,_,rs,q,fun ti env1 iv H1 q1 rs1=>?_⟩;obtain⟨t,et,q1⟩:=aI q1;obtain⟨y',ey',rs3⟩:=rs1.slot et;rw[ey]at ey';cases ey';have hi':i<env1.length:=(gV.mp et).1;refine⟨t,ti,tv,(env1.set i .any).zip σ++Fr,_,?_,q1,fun t' H' kt rp=>c _ _ _ kt ?_ .refl⟩
 ·refine rs3.head.perm (.cons _ ?_);refine B_ i_ (.cons _ ?_);exact i_
 have r4:Rs X.K H' (env1.set i .any) σ ((t',some w)::Fr):=.of rs3.1 rp;have r5:=Rs.nu (i:=i) r4 (by rw[JB];exact hi') ey;rw[MD]at r5;exact r5
end
open PySem PySem.Spec PyProof.Rows L2
class Th (α:Type) where
 v:α
def Hc(P:FP)(ts:List T)[k:Th (T->List T->Prop)]:Prop:=P ts k.v
def jL(b:Bool)[A:Th Prop][B:Th Prop]:Prop:=cnd b A.v B.v
def dU(o:Option α)[k:Th (α->Prop)]:Prop:=got o k.v
noncomputable def Ee(fr:List (Option Nat))(its:List T)(g:PG')(ft:PB)(fe:PF)(env:Ev)[k:Th (T->Ev->Prop)]:Prop:=Es fr its g ft fe env k.v
theorem dc{u:α}{k:Th (α->Prop)}:dU (some u) (k:=k)=k.v u:=rfl
theorem aY{o:Option α}{u:α}{k:Th (α->Prop)}(e:o=some u)(h:k.v u):dU o (k:=k):=Gs e h
variable {A B:Th Prop}
theorem dD:jL true (A:=A) (B:=B)=A.v:=propext ⟨fun h=>h.1 rfl,fun h=>Ea h⟩
theorem cC:jL false (A:=A) (B:=B)=B.v:=propext ⟨fun h=>h.2 rfl,fun h=>Ep h⟩
theorem g9:jL (!b) (A:=A) (B:=B)=jL b (A:=B) (B:=A):=by cases b <;> simp only[Mr,LQ,dD,cC]
theorem An(h1:b=true->A.v)(h2:b=false->B.v):jL b (A:=A) (B:=B):=⟨h1,h2⟩
theorem aR{p:Prop}{d:Decidable p}(h1:p->A.v)(h2:¬p->B.v):jL (decide p) (A:=A) (B:=B):=⟨fun h=>h1 (of_decide_eq_true h),fun h=>h2 (of_decide_eq_false h)⟩
theorem mI(e:b=true)(h:A.v):jL b (A:=A) (B:=B):=by rw[e];exact Ea h
theorem Dj(e:b=false)(h:B.v):jL b (A:=A) (B:=B):=by rw[e];exact Ep h
variable {gt:PG'}
section
variable{f g:PF}{env:Ev}{k:T->Ev->Prop}{kb:Bool->Ev->Prop}{tc td:PB}{pe:PEn}{u v:PSt}{fs:PFs}{fa:PAs}{ks:List T->Ev->Prop}{ka:List Arg->Ev->Prop}
theorem oW:fQ f env k=f (erL env) fun t _=>bC t=true/\k t env:=rfl
theorem jU:fQT tc env kb=tc (erL env) fun b _=>kb b env:=rfl
theorem pJ:fK t env k=k t env:=rfl
theorem gf:DW i env k=dU (env[i]?) (k:=⟨fun t=>isAny t=false/\aS t=true/\k t env⟩):=by unfold DW;cases env[i]? <;> rfl
theorem kZ:fFz i env k=dU (env[i]?) (k:=⟨fun t=>isAny t=false/\k (er t) (env.set i (er t))⟩):=by unfold fFz;cases env[i]? <;> rfl
theorem kF:fMv i env k=dU (env[i]?) (k:=⟨fun t=>isAny t=false/\k t (env.set i .any)⟩):=by unfold fMv;cases env[i]? <;> rfl
theorem iO{p:P2}:zl p f g env k=f env fun x env1=>g env1 fun y env2=>p x y fun t=>k t env2:=rfl
theorem k9{p:T->(T->Prop)->Prop}:fUn p f env k=f env fun t env1=>p t fun u=>k u env1:=rfl
def asB(t:T)[k:Th (Bool->Prop)]:Prop:=match t with
 | .bl b=>k.v b
 | _=>False
theorem kA{k:Th (Bool->Prop)}:asB (.bl b) (k:=k)=k.v b:=rfl
theorem hJ:EZ f env kb=f env fun t env1=>asB t (k:=⟨fun b=>kb b env1⟩):=rfl
theorem iJ:Hf f env kb=f env fun t env1=>G5 t fun b=>kb b env1:=rfl
theorem d9{p q:P2}{h:PF}:xq p q f g h env k=f env fun x env1=>g env1 fun y env2=>aS y=true/\p x y fun z=>asB z (k:=⟨fun b=>jL b (A:=⟨h env2 fun u env3=>q y u fun t=>k t env3⟩) (B:=⟨k (.bl false) env2⟩)⟩):=rfl
theorem eP:Ek tc td env kb=tc env fun b env1=>jL b (A:=⟨td env1 kb⟩) (B:=⟨kb false env1⟩):=rfl
theorem i4:Iw tc td env kb=tc env fun b env1=>jL b (A:=⟨kb true env1⟩) (B:=⟨td env1 kb⟩):=rfl
theorem eQ:EJ tc env kb=tc env fun b env1=>kb (!b) env1:=rfl
theorem fZ:HX f g env k=f env fun t env1=>asB t (k:=⟨fun b=>jL b (A:=⟨g env1 k⟩) (B:=⟨k (.bl false) env1⟩)⟩):=rfl
theorem kG:fOr f g env k=f env fun t env1=>asB t (k:=⟨fun b=>jL b (A:=⟨k (.bl true) env1⟩) (B:=⟨g env1 k⟩)⟩):=rfl
theorem gu:Ib f env k=f env fun t env1=>asB t (k:=⟨fun b=>k (.bl (!b)) env1⟩):=rfl
theorem kR:fIf tc f g env k=tc env fun b env1=>jL b (A:=⟨f env1 k⟩) (B:=⟨g env1 k⟩):=rfl
theorem i7:FR env ks=ks [] env:=rfl
theorem eG:EH f fs env ks=f env fun t env1=>fs env1 fun ts env2=>ks (t::ts) env2:=rfl
theorem gp:HK fs env k=fs env fun ts env1=>ts.length<=sizeLine/\k (.tup ts) env1:=rfl
theorem ip:GN fs env k=fs env fun ts env1=>ts.length<=sizeLine/\k (.lst true ts) env1:=rfl
theorem lD{p:P1s}:fCl p fs env k=fs env fun ts env1=>p ts fun t=>k t env1:=rfl
theorem fY:HR env ka=ka [] env:=rfl
theorem hU:H0 f fa env ka=f env fun t env1=>fa env1 fun as env2=>ka (.val t::as) env2:=rfl
theorem gK:Fw i fa env ka=dU (env[i]?) (k:=⟨fun t=>isAny t=false/\fa env fun as env2=>ka (.bor i::as) env2⟩):=by
 unfold Fw;cases env[i]? with
 |none=>exact propext ⟨fun h=>h.1,fun h=>h.elim⟩
 |some t=>rfl
theorem iw:FC n P fa env k=fa env fun as env1=>as.length=n/\Hc P (lend as env1).1 (k:=⟨fun t ts'=>k t (back as ts' (lend as env1).2)⟩):=rfl
theorem eZ{ft:PB}:vt fr fi gt ft fe env k=fi env fun its env1=>Ee fr its gt ft fe env1 (k:=⟨k⟩):=rfl
theorem fh{m:PM}:yJ i m fs env k=dU (env[i]?) (k:=⟨fun t0=>isL t0=true/\fs env fun ts env1=>dU (env1[i]?) (k:=⟨fun t=>m t ts fun t' r=>k r (env1.set i t')⟩)⟩):=rfl
theorem eI:Ey pe env=pe.nx env:=rfl
theorem gd:He u v pe env=u {pe with nx:=v pe} env:=rfl
theorem eD:Ex f pe env=f env fun _ env1=>pe.nx env1:=rfl
theorem gy:Ha f pe env=f env fun t env1=>pe.rt t env1:=rfl
theorem kS:sIf tc u v pe env=tc env fun b env1=>jL b (A:=⟨u pe env1⟩) (B:=⟨v pe env1⟩):=rfl
theorem hV:Fx i f pe env=f env fun t env1=>pe.nx (env1.set i t):=rfl
theorem iA:Hm f gt pe env=f env fun t env1=>gt t env1 pe.nx:=rfl
def asP(ts:List T)(k:T->T->Prop):Prop:=match ts with
 | [t,u]=>k t u
 | _=>False
theorem kX{u:T}{k:T->T->Prop}:asP [t,u] k=k t u:=rfl
theorem iB:GO fi gt u pe env=fi env fun its env1=>forL its gt u pe env1:=rfl
variable{t:T}{ke:Ev->Prop}{ts:List T}{gt:PG'}{gts:tI}
theorem qG:gN i t env ke=ke (env.set i t):=rfl
theorem gG:E9 [] env ke=ke env:=propext ⟨fun h=>h.2,fun h=>⟨rfl,h⟩⟩
theorem eE:AZ gt gts (t::ts) env ke=gt t env fun env1=>gts ts env1 ke:=rfl
theorem gA:gTp n gts (.tup ts) env ke=(ts.length=n/\gts ts env ke):=rfl
theorem eJ{fi:PF}:Eo i fi t env ke=dU (env[i]?) (k:=⟨fun t0=>isAny t0=false/\fi env fun ti env1=>dU (env1[i]?) (k:=⟨fun t1=>qO t1 ti t fun t'=>ke (env1.set i t')⟩)⟩):=rfl
variable{ki:List T->Ev->Prop}
theorem fX:IB f env ki=f env fun t env1=>dU (items t) (k:=⟨fun ts=>ki (erL ts) env1⟩):=rfl
def as1(ts:List T)(k:Int->Prop):Prop:=match ts with
 | [.int j]=>k j
 | _=>False
noncomputable def as2(ts:List T)(k:Int->Int->Prop):Prop:=match ts with
 | [.int i,.int j]=>k i j
 | _=>False
theorem kC{j:Int}{k:Int->Prop}:as1 [.int j] k=k j:=rfl
theorem kD{i j:Int}{k:Int->Int->Prop}:as2 [.int i,.int j] k=k i j:=rfl
theorem kO:iR1 fs env ki=fs env fun ts env1=>as1 ts fun j=>(-(2 ^ 62)<=j/\j<2 ^ 62)/\ki (og 0 j.toNat) env1:=rfl
theorem jZ:iR2 fs env ki=fs env fun ts env1=>as2 ts fun i j=>(-(2 ^ 62)<=i/\i<2 ^ 62/\-(2 ^ 62)<=j/\j<2 ^ 62)/\ki (og i (j-i).toNat) env1:=rfl
theorem kh:iZp fs env ki=fs env fun ts env1=>asP ts fun t u=>dU (items t) (k:=⟨fun as=>dU (items u) (k:=⟨fun bs=>ki (((erL as).zip (erL bs)).map fun p=>.tup [p.1,p.2]) env1⟩)⟩):=rfl
end
section
variable{k:T->Prop}{i j l:Int}{x y:Str}{ts us:List T}{o o' b c:Bool}{t:T}
theorem ig:F4 (.int i) (.int j) k=k (.int (i+j)):=rfl
theorem gv:F4 (.lst o ts) (.lst o' us) k=(ts.length+us.length<=sizeLine/\k (.lst true (ts++us))):=rfl
theorem gC:IX (.int i) (.int j) k=k (.int (i-j)):=rfl
theorem il:HM (.int i) (.int j) k=(wd i j/\k (.int (i*j))):=rfl
theorem lG:ltT (.int i) (.int j) k=k (.bl (decide (i<j))):=rfl
theorem kW:leT (.int i) (.int j) k=k (.bl (decide (i<=j))):=rfl
theorem kB:gtT (.int i) (.int j) k=k (.bl (decide (j<i))):=rfl
theorem lA:HC (.int i) k=k (.int (-i)):=rfl
theorem kj:eqT (.int i) (.int j) k=k (.bl (decide (i=j))):=by
 unfold eqT;refine propext ⟨fun h=>?_,fun h=>⟨rfl,rfl,show(0:Nat)<190 by decide,?_⟩⟩
 ·have:=h.2.2.2;rw[dt,dt,eqD]at this;rw[J']at this;exact this
 rw[dt,dt,eqD,J'];exact h
theorem lj:neT (.int i) (.int j) k=k (.bl (!decide (i=j))):=by
 unfold neT;refine propext ⟨fun h=>?_,fun h=>⟨rfl,rfl,show(0:Nat)<190 by decide,?_⟩⟩
 ·have:=h.2.2.2;rw[dt,dt,eqD,J']at this;exact this
 rw[dt,dt,eqD,J'];exact h
theorem lE:eqT (.str x) (.str y) k=k (.bl (decide (x=y))):=by
 unfold eqT;refine propext ⟨fun h=>?_,fun h=>⟨rfl,rfl,show(0:Nat)<190 by decide,?_⟩⟩
 ·have:=h.2.2.2;rw[dt,dt,eqD,J']at this;exact this
 rw[dt,dt,eqD,J'];exact h
theorem lx:neT (.bl b) (.bl c) k=k (.bl (!(b == c))):=by
 unfold neT;refine propext ⟨fun h=>?_,fun h=>⟨rfl,rfl,show(0:Nat)<190 by decide,?_⟩⟩
 ·have:=h.2.2.2;rw[dt,dt,eqD]at this;exact this
 rw[dt,dt,eqD];exact h
def iT(ns:List Int):T:=.tup (ns.map T.int)
theorem jd{a b c d:Int}:eqT (.tup [.int a,.int b]) (.tup [.int c,.int d]) k=k (.bl (decide (a=c/\b=d))):=by
 have e:eqD (dt (.tup [.int a,.int b])) (dt (.tup [.int c,.int d]))=decide (a=c/\b=d):=by simp only[dt,dtL,eqD,eqL,J',L4,Bool.decide_and]
 unfold eqT;rw[e];exact propext ⟨fun h=>h.2.2.2,fun h=>⟨rfl,rfl,(by simp[dt,dtL,dpt,iW]),h⟩⟩
theorem gX:HV t .non k=(isV t=true/\k (.bl (qF t))):=by cases t <;> rfl
theorem gW:ixT (.tup ts) (.int i) k=dU (atI ts i) (k:=⟨k⟩):=rfl
theorem gY:ixT (.cst ts) (.int i) k=dU (atI ts i) (k:=⟨k⟩):=rfl
theorem iC:ixT (.lst o ts) (.int i) k=dU (atI ts i) (k:=⟨k⟩):=rfl
theorem eY:o8 []=some []:=rfl
theorem eC:o8 (.int i::ts)=(o8 ts).map fun ks=>Rq i::ks:=by rw[o8];cases o8 ts <;> rfl
theorem oX(a:α)(l:List α):atI (a::l) 0=some a:=cH (j:=0) rfl
theorem oR(a b:α)(l:List α):atI (a::b::l) 1=some b:=cH (j:=1) rfl
theorem pI(a b c:α)(l:List α):atI (a::b::c::l) 2=some c:=cH (j:=2) rfl
theorem qA(a b c d:α)(l:List α):atI (a::b::c::d::l) 3=some d:=cH (j:=3) rfl
theorem qx(a b c d e:α)(l:List α):atI (a::b::c::d::e::l) 4=some e:=cH (j:=4) rfl
theorem pK(a b c d e f:α)(l:List α):atI (a::b::c::d::e::f::l) 5=some f:=cH (j:=5) rfl
theorem qh(a b c d e f g:α)(l:List α):atI (a::b::c::d::e::f::g::l) 6=some g:=cH (j:=6) rfl
theorem pB(a b c d e f g h:α)(l:List α):atI (a::b::c::d::e::f::g::h::l) 7=some h:=cH (j:=7) rfl
theorem eN:A0 [.lst o ts] k=k (.int ts.length):=rfl
theorem fv:A0 [.tup ts] k=k (.int ts.length):=rfl
theorem eM:A0 [.cst ts] k=k (.int ts.length):=rfl
theorem lu:Ij [.int i] k=k (.int i.natAbs):=rfl
theorem kc:BH [.int i,.int j] k=k (.int (max i j)):=rfl
theorem kz:BH [.int i,.int j,.int l] k=k (.int (max (max i j) l)):=rfl
theorem kY:Bz [.int i,.int j] k=k (.int (min i j)):=rfl
theorem kM:Bz [.int i,.int j,.int l] k=k (.int (min (min i j) l)):=rfl
theorem lF:BH [.lst o ts] k=dU (intsOf ts) (k:=⟨fun ns=>ns≠[]/\∀r,iQ ns r->k (.int r)⟩):=rfl
theorem kU:Bz [.lst o ts] k=dU (intsOf ts) (k:=⟨fun ns=>ns≠[]/\∀r,iS ns r->k (.int r)⟩):=rfl
theorem iK:xU [.lst o ts] k=k (.lst true ts):=rfl
theorem iL:xU [.tup ts] k=k (.lst true ts):=rfl
theorem fk:si [.lst o ts] k=k (.tup ts):=rfl
theorem kq:Gq [.lst o ts] k=dU (boolsOf ts) (k:=⟨fun bs=>k (.bl (bs.all id))⟩):=rfl
theorem jY{kb:Bool->Prop}:G5 (.bl b) kb=kb b:=rfl
variable{km:T->T->Prop}
theorem cA:sG (.lst true ts) [t] km=(ts.length<sizeLine/\km (.lst true (ts++[t])) .non):=rfl
theorem cx:tT (.lst true ts) [.lst true us] km=(ts.length+us.length<=sizeLine/\km (.lst true (ts++us)) .non):=rfl
theorem kg{ti:T}:qO (.lst true ts) (.int i) t k=dU (ixN ts.length i) (k:=⟨fun j=>k (.lst true (ts.set j t))⟩):=rfl
theorem gJ{kvs:List (List Key×T)}:qO (.dT true kvs) (.tup ts) t k=dU (o8 ts) (k:=⟨fun q=>kvs.length<sizeLine/\k (.dT true (nE kvs q t))⟩):=rfl
end
theorem bX(g:α->T)(l:List α):bB (l.map g)=l.all fun x=>aS (g x):=by rw[pC,Ko];rfl
theorem bj(g:α->T)(l:List α):cq (l.map g)=l.all fun x=>bC (g x):=by rw[r6,Ko];rfl
theorem cF(l:List α):(l.all fun _=>true)=true:=by induction l with|nil=>rfl|cons _ _ ih=>rw[Mq,ih];rfl
theorem cO:isAny (.non)=false:=rfl
theorem gU:isV (.non)=true:=rfl
theorem d5:qF (.non)=true:=rfl
theorem f9:isAny (.bl b)=false:=rfl
theorem de{i:Int}:isAny (.int i)=false:=rfl
theorem gj{i:Int}:isV (.int i)=true:=rfl
theorem cQ{i:Int}:qF (.int i)=false:=rfl
theorem cZ{x:Str}:isAny (.str x)=false:=rfl
theorem cU:isAny (.tup ts)=false:=rfl
theorem gF:isV (.tup ts)=true:=rfl
theorem cV:qF (.tup ts)=false:=rfl
theorem d4:isAny (.cst ts)=false:=rfl
theorem cY:isAny (.lst o ts)=false:=rfl
theorem iH:isV (.lst o ts)=true:=rfl
theorem cM:qF (.lst o ts)=false:=rfl
theorem eB{kvs:List (List Key×T)}:isAny (.dT o kvs)=false:=rfl
theorem i9:isL (.lst o ts)=true:=rfl
theorem cX:items (.tup ts)=some ts:=rfl
theorem dr:items (.lst o ts)=some ts:=rfl
variable {its:List T}
theorem b8{g:PG'}{fb:PSt}{pe:PEn}(W:Nat->Ev->Prop)(h0:W 0 env)(ht:∀i t env,W i env->its[i]?=some t->g t env fun env2=>fb {pe with nx:=W (i+1),ct:=W (i+1),bk:=pe.nx} env2)(he:∀env,W its.length env->pe.nx env):forL its g fb pe env:=⟨W,h0,ht,he⟩
theorem aW{g:PG'}{ft:PB}{k:Th (T->Ev->Prop)}(hz:its.length<sizeLine)(W:Nat->List T->Ev->Prop)(h0:W 0 [] (lend (frA fr) env).1)(ht:∀i t acc ie,W i acc ie->its[i]?=some t->g t ie fun ie2=>ft ie2 fun b ie3=>jL b (A:=⟨fe ie3 fun u ie4=>W (i+1) (acc++[u]) ie4⟩) (B:=⟨W (i+1) acc ie3⟩))
  (he:∀acc ie,W its.length acc ie->k.v (.lst true acc) (back (frA fr) ie (lend (frA fr) env).2)):Ee fr its g ft fe env (k:=k):=⟨hz,W,h0,ht,he⟩
def sq(b:Bool)(ts:List T):T:=match b with
 |true=>.tup ts
 |false=>.lst false ts
abbrev pt(x y:Int):T:=.tup [.int x,.int y]
end PL
namespace ZG
open PySem
open Sem (wp)
theorem zY{prog:Oj}{w:Ot}{A:OB}(hh:A.handled=none)(it d:N8)(hne:d≠it)(o:Obj)(es:Array PX)(ep:Nat)(hd:o.data=.dict es ep) :
  Walks prog w A it [it,d] [it] es.size (fun i v=>∃e,es[i]?=some e/\v=e.key) (fun i h=>h.IsKeyIter it d i es.size ep/\h.get? d=some o) where
 sub:=fun b hb=>by simp at hb;simp[hb]
 frame:=fun _ _ _ st hk=>⟨st.1.at fun o e=>hk it (by simp) o e,hk d (by simp) o st.2⟩
 item:=fun i s Q E hi st hQ=>by have hx:es[i]?=some es[i]:=l_ hi;refine Ef st.1 st.2 hd hx fun h' hit' hs'=>?_;exact hQ _ h' s.toks ⟨_,hx,rfl⟩ ⟨hit',hs'.extBut d o hne st.2⟩ fun b o hb e=>hs'.extBut b o (fun z=>hb (by simp[z])) e
 done:=fun s Q E st hQ=>Hl hh st.1 st.2 hd (Kf (b_ _)) fun h' he'=>hQ h' s.toks fun b o hb e=>he' b o (fun z=>hb (by simp[z])) e
 self:=fun _ _ _ _ st hQ=>Sd st.1 hQ
theorem yD{prog:Oj}{w:Ot}{d:N8}{o:Obj}{es:Array PX}{ep:Nat}(lo:(d == OY)=false)(hc:o.ExactDict)(hd:o.data=.dict es ep) :
  PySem.W.KdlSrc prog w "dict" d d es.size (fun i v=>∃e,es[i]?=some e/\v=e.key) (fun h=>h.get? d=some o) where
 type:=fun _ hm=>⟨o,hm,hc.1⟩
 there:=fun _ hm=>⟨Ol hm,Ol hm⟩
 keep:=fun _ _ hm hk=>hk d (.inl rfl) o hm
 notList:=by decide
 notTuple:=by decide
 hint:=fun _ _ _ _ hm hq=>PySem.W.kdl_hint_dict ⟨o,hm,hc.1⟩ hq
 iter:=fun _ _ hh hm=>⟨_,_,(fun _ _ hq=>EL lo hm hc hd hq),zY hh _ d (w_ (Ol hm)) o es ep hd,⟨⟨_,Oo _ rfl,rfl,rfl⟩,Oe _ hm⟩⟩
end ZG
namespace L2
open PySem PySem.Spec PyProof.Rows
section
variable{X:Cx}
theorem wU(hc:X.calm=true):bp X (.type "list") (fun xs H Q=>∃d kvs,xs=[.ref d]/\Rd H d (.dT kvs)/\∀bs:List N8,P6 (fun(b:N8) (p:List Key×V)=>H b=some (.tup (p.1.map kV))) bs kvs->(kvs.map (·.1)).Nodup->New (.lst (bs.map V.ref)) H Q):=by
 intro pins s σ H xs us Q I r h;obtain⟨d,kvs,rfl,hd,q⟩:=h;obtain⟨u,rfl,ru⟩:=vals1 r;cases ru;obtain⟨z,lo,xs,kt,o,es,ep,g1,g2,g3,g4,g5⟩:=(show ba X.prog X.w H s.heap d (.dT kvs)from hd.ok I.hok);have hes:es.size=kvs.length:=by rw[<-h_,g4,a_];exact(Pf kt).symm
 refine PySem.W.kdl_call (ZG.yD lo g2 g3) (I.ok.hd hc) g1 (by lia) fun h' tk acc c kp e it=>?_
 have hacc:acc.toList=(xs.map fun x=>x.2.1).map OC:=by
  refine Ni fun j=>?_;rw[f_,z_,z_];by_cases hj:j<es.size
  ·have hx:j<xs.length:=by rw[<-h_,g4,a_]at hj;exact hj
   have hja:j<acc.size:=by rw[it.1];exact hj
   have ha:acc[j]?=some acc[j]:=l_ hja;obtain⟨en,e1,e2⟩:=it.2 j _ ha;rw[ha,e2,c_ hx];rw[<-f_,g4,z_,c_ hx]at e1;cases e1
   rfl
  have hx:¬j<xs.length:=by rw[<-h_,g4,a_]at hj;exact hj
  rw[Kf (by rw[it.1];lia),M1 (by lia)]
  rfl
 have rel:∀(l:List N8),Vals (l.map V.ref) (l.map OC):=fun l=>by
  induction l with
  |nil=>exact .nil
  |cons a t ih=>exact .cons rfl ih
 have hq:∀{kvs':List (List Key×V)}{xs':List (List Key×N8×N5)},KT H kvs' xs'->P6 (fun(b:N8) (p:List Key×V)=>H b=some (.tup (p.1.map kV))) (xs'.map fun x=>x.2.1) kvs':=fun{kvs' xs'} k=>by
  induction k with
  |nil=>exact .nil
  |cons h t ih=>exact .cons h.2.1 ih
 have ek:∀{kvs':List (List Key×V)}{xs':List (List Key×N8×N5)},KT H kvs' xs'->kvs'.map (·.1)=xs'.map fun x=>x.1:=fun{kvs' xs'} k=>by
  induction k with
  |nil=>rfl
  |cons h t ih=>rw[f',f',ih,h.1]
 have e':h'.get? s.heap.objs.size=some { cls:=.type "list",dict:=none,data:=.seq ((xs.map fun x=>x.2.1).map OC).toArray c,slots:=#[] }:=by rw[<-hacc];exact e
 exact⟨.ref s.heap.objs.size,_,I.laid (t':=tk) kp (b_ _) (show ba X.prog X.w _ h' _ (.lst ((xs.map fun x=>x.2.1).map V.ref))from⟨by rw[a_,a_,<-Pf kt];omega,_,c,rel _,e'⟩),rfl,(q _ (hq kt) (by rw[ek kt];exact g5)).at (I.hok.fresh (b_ _))⟩
abbrev lO(K:N7)(H:Hp):List V->List (List Int)->Prop:=P6 fun v k=>k≠[]/\∃b,v=.ref b/\SqT K H b (k.map V.int)
theorem uJ{pins:List (N8×Obj)}{σ:St}{H:Hp}{s:N9}(I:Inv X pins σ H s):∀{ys:List V}{its:List N5}{ks:List (List Int)},Vals ys its->lO X.K H ys ks->(∀v∈its,ZS.E2 s.heap v/\∃b,v=.ref b/\ZS.iV s.heap v≠[]/\SqT X.K H b ((ZS.iV s.heap v).map V.int))/\its.map (ZS.iV s.heap)=ks:=by
 intro ys its ks x;induction x generalizing ks with
 |nil=>intro r;cases r;exact⟨fun v hv=>(nomatch hv),rfl⟩
 | @cons v _ _ its hv tv ih=>
  intro r;rcases r with _|⟨hk,tk⟩;rename_i k ks;obtain⟨hne,b,rfl,hb⟩:=hk;cases hv;obtain⟨j1,j2⟩:=ih tk;obtain⟨its',r',⟨o,ho,hc,n,hd⟩,hz⟩:=I.tuple hb;obtain⟨ps,e1,e2⟩:=ck r';have kv:ZS.iV s.heap (.ref b)=k:=by
   rw[ZS.tj ho hd];show its'.map ZS.fH=k;rw[e1,F_,<-e2]
   rfl
  refine⟨fun w hw=>?_,by rw[f',kv,j2]⟩;rcases o_.mp hw with e|e
  ·subst e;refine⟨⟨b,o,_,n,rfl,ho,hc,hd,fun v hv=>?_,?_⟩,b,rfl,by rw[kv];exact hne,by rw[kv];exact hb⟩
   ·have hv:v∈its':=hv;rw[e1]at hv;obtain⟨p,_,e⟩:=t_.mp hv;exact⟨p.1,p.2,e.symm⟩
   rw[p_,e1,a_,<-a_ (f:=(·.1)),e2];exact M9.mpr hne
  exact j1 w e
theorem zD:∀{ys:List V}{us:List N5}{u:N5}{b:N8},Vals ys us->u∈us->u=.ref b->V.ref b∈ys:=by
 intro ys us u b x;induction x with
 |nil=>intro h _;cases h
 | @cons y _ _ _ r t ih=>
  intro h e;rcases o_.mp h with z|h
  ·subst z;subst e;have:y=.ref b:=RelV.inj r (show RelV (.ref b) (.ref b)from rfl);rw[this];exact n_
  exact j_ _ (ih h e)
theorem lI:bp X (.builtin "sorted") (fun xs H Q=>∃p ys ks,xs=[.ref p]/\SqL X.K H p ys/\lO X.K H ys ks/\∀zs ls,lO X.K H zs ls->(∀v∈zs,v∈ys)->ls.Perm ks->ls.Pairwise (fun x y=>ZS.ltL y x=false)->New (.lst zs) H Q):=by
 intro pins s σ H xs us Q I r h;obtain⟨p,ys,ks,rfl,hq,hr,q⟩:=h;obtain⟨u,rfl,ru⟩:=vals1 r;cases ru;obtain⟨its,rv,pl,hz⟩:=I.list hq;have hlen:=rv.length;obtain⟨f1,f2⟩:=uJ I rv hr;refine ZS.oT (kd:=TB true) (rk:=fun x=>ZS.rnk ZS.ltL ks (ZS.iV s.heap x.1)) (S:=fun x=>x.1∈its) pl.isList (by lia) (fun v hv=>hv) (fun h' kp {Q}{E} hne q=>ZS.vo (h0:=s.heap) (fun v hv=>(f1 v hv).1) (fun b o e _=>kp b o e) hne q)
  (fun h' E kp=>ZS.uF (h0:=s.heap) (ks:=ks) (fun x hx=>⟨(f1 _ hx).1,by rw[<-f2];exact JP hx⟩) fun b o e _=>kp b o e) fun o a c h' op os ha kp e=>?_
 have mem:∀v∈o,v∈its:=fun v hv=>op.mem_iff.mp hv;have mk:∀(l:List N5),(∀v∈l,v∈its)->∃zs,Vals zs l/\lO X.K H zs (l.map (ZS.iV s.heap))/\zs.length=l.length/\∀v∈zs,v∈ys:=by
  intro l;induction l with
  |nil=>exact fun _=>⟨[],.nil,.nil,rfl,fun v hv=>(by cases hv)⟩
  |cons v t ih=>
   intro hl;obtain⟨zs,k1,k2,k3,k6⟩:=ih fun v hv=>hl v (.tail _ hv);obtain⟨_,b,e,k4,k5⟩:=f1 v (hl v (.head _));refine⟨.ref b::zs,.cons e k1,.cons ⟨k4,b,rfl,k5⟩ k2,by rw[d_,d_,k3],fun w hw=>?_⟩;rcases o_.mp hw with rfl|hw
   ·exact zD rv (hl v (.head _)) e
   exact k6 w hw
 obtain⟨zs,k1,k2,k3,k6⟩:=mk o mem;refine⟨.ref a,_,I.laid (t':=s.toks) kp ha (show ba X.prog X.w _ h' _ (.lst zs)from⟨by rw[k3,op.length_eq];lia,o,c,k1,e⟩),rfl,(q zs _ k2 k6 ?_ ?_).at (I.hok.fresh ha)⟩
 ·rw[<-f2];exact op.map _
 rw[JX];refine Kr (fun{x y} hx hy hxy=>?_) os;cases z:ZS.ltL (ZS.iV s.heap y) (ZS.iV s.heap x)
 ·rfl
 have:=ZS.u6 ZS.uw (ks:=ks) (by rw[<-f2];exact JP (mem y hy)) z;exact absurd this (My.mpr hxy)
end
end L2
namespace ZS
open PySem PyProof.Rows
section
variable{prog:Oj}{w:Ot}{A:OB}{E:N5->N9->Prop}{s:N9}
theorem um{d:N8}{o:Obj}{es:Array PX}{ep:Nat}{Q:List N5->N9->Prop}(lo:(d == OY)=false)(ho:s.heap.get? d=some o)(hc:o.ExactDict)(hd:o.data=.dict es ep)(hh:A.handled=none)(hn:es.size<=sizeLine)
  (h:∀h' tk acc,s.heap.objs.size<=h'.objs.size->(∀b u,s.heap.get? b=some u->h'.get? b=some u)->UO (fun i v=>∃e,es[i]?=some e/\v=e.key) acc es.size->Q acc.toList {s with heap:=h',toks:=tk}):Of (Oq prog w) A (UP (.ref d)) Q E s:=by
 unfold UP;refine N6 (TH (P8 F.entry_proto_collect ?_));rw[PU F.plain_proto_collect _];show Of _ A.in1 (newList [] >>= fun l=>again (.builtin "list.__iadd__" ⟨[l,.ref d],[]⟩)) _ _ s;refine N6 (PQ ?_);refine Oa ⟨Sg SF _,P8 F.entry_list_iadd ?_⟩;rw[PU SF _];have hS:(s.heap.push { cls:=.type "list",data:=.seq ([]:List N5).toArray}).get? s.heap.objs.size=some { cls:=.type "list",data:=.seq ([]:List N5).toArray}:=Oo _ rfl;have hne:s.heap.objs.size≠d:=Lp (Ol ho);have fin:∀(s':N9) (h':Ou) (tk:Nat) (acc:Array N5) (c:Nat),s'={s with heap:=h',toks:=tk}->(∀b u,s.heap.get? b=some u->h'.get? b=some u)->h'.get? s.heap.objs.size=some { cls:=.type "list",dict:=none,data:=.seq acc c,slots:=#[] }->UO (fun i v=>∃e,es[i]?=some e/\v=e.key) acc es.size->
   Of (Oq prog w) A (load s.heap.objs.size >>= fun o=>match o.data with
    | .seq xs _=>pure xs.toList
    | _=>unsupported "internal:collect") Q E s':=fun s' h' tk acc c es' kp e it=>by
  subst es';refine N6 (wpAny_load e ?_);exact Oa (h h' tk acc (Jy (Ol e)) kp it)
 refine OG (PySem.W.kdl_extend (s:={s with heap:=s.heap.push { cls:=.type "list",data:=.seq ([]:List N5).toArray} }) (R:=fun r s'=>∃(h':Ou) (tk:Nat) (acc:Array N5) (c:Nat),r=.ok (.ret (.ref s.heap.objs.size))/\s'={s with heap:=h',toks:=tk}/\(∀b u,s.heap.get? b=some u->h'.get? b=some u)/\h'.get? s.heap.objs.size=some { cls:=.type "list",dict:=none,data:=.seq acc c,slots:=#[] }/\UO (fun i v=>∃e,es[i]?=some e/\v=e.key) acc es.size)
  (ZG.yD lo hc hd) hh (Oe _ ho) s.heap.objs.size hne hne (.ref s.heap.objs.size) 0 hS (fun h' tk acc c kp e it=>⟨h',tk,acc,c,rfl,rfl,fun b u eb=>kp b u (w_ (Ol eb)) (Oe _ eb),e,it⟩) hn) (fun fn s' hf=>?_) (fun e s' hf=>?_)
 ·cases fn with
  |done f=>
   obtain⟨h',tk,acc,c,ef,es',kp,e,it⟩:=hf;cases ef;exact fin s' h' tk acc c es' kp e it
  |again c'=>
   refine⟨hf.1,PY hf.2 fun r s'' hr=>?_⟩;obtain⟨h',tk,acc,c,er,es',kp,e,it⟩:=hr;subst er;exact fin s'' h' tk acc c es' kp e it
 obtain⟨_,_,_,_,ef,_⟩:=hf;cases ef
theorem v3{x:N5}{vs:List N5}{kd:Pa}{rk:N_->Nat}{S:N_->Prop}{Q:N5->N9->Prop}(hz:vs.length<=sizeLine)(hS:∀v∈vs,S (v,v))
  (coll:∀{Q':List N5->N9->Prop}{E':N5->N9->Prop},(∀h' tk,s.heap.objs.size<=h'.objs.size->(∀b u,s.heap.get? b=some u->h'.get? b=some u)->Q' vs {s with heap:=h',toks:=tk})->Of (Oq prog w) A.in1 (UP x) Q' E' s)
  (kind:∀h' tk,(∀b o,s.heap.get? b=some o->h'.get? b=some o)->∀{Q:Pa->N9->Prop}{E:N5->N9->Prop},vs≠[]->Q kd {s with heap:=h',toks:=tk}->Of (Oq prog w) A.in1.in1 (RA vs.toArray) Q E {s with heap:=h',toks:=tk})
  (lt:∀h' tk E,(∀b o,s.heap.get? b=some o->h'.get? b=some o)->cW (Oq prog w) A.in1.in1 E {s with heap:=h',toks:=tk} kd rk S)
  (h:∀(o:List N5) a c h' tk,o.Perm vs->o.Pairwise (fun x y=>rk (x,x)<=rk (y,y))->s.heap.objs.size<=a->(∀b u,s.heap.get? b=some u->h'.get? b=some u)->h'.get? a=some (OZ "list" o.toArray c)->Q (.ref a) {s with heap:=h',toks:=tk}) :
  Of (Oq prog w) A (call (.builtin "sorted") [x]) Q E s:=by
 refine Qm UK Ul Um (Uo _) ?_;unfold Qj.«sorted»;refine N6 (m:=checkCount "sorted" 1 1 _) (Oa ?_);refine N6 (coll fun h0 tk le k0=>?_);refine N6 (QI ?_ hz);have hoL:(h0.push (OZ "list" vs.toArray 0)).get? h0.objs.size=some (OZ "list" vs.toArray 0):=Oo _ rfl;have keep:∀b o,s.heap.get? b=some o->(h0.push (OZ "list" vs.toArray 0)).get? b=some o:=fun b o q=>Oe _ (k0 b o q);show Of _ _ _ _ _ {s with heap:=h0.push (OZ "list" vs.toArray 0),toks:=tk};have ne:∀b o,s.heap.get? b=some o->b≠h0.objs.size:=fun b o e=>w_ (Ol (k0 b o e));generalize h0.push (OZ "list" vs.toArray 0)=h1 at hoL keep ⊢;refine N6 (OH (O6 TC ⟨_,hoL,rfl⟩ Tn ?body (TF _)))
 case body=>
  refine rQ (s:={s with heap:=h1,toks:=tk}) (kd:=kd) (rk:=rk) (S:=S) hoL hz hS (fun h' k {Q} hne q=>kind h' tk (fun b o e=>k b o (ne b o e) (keep b o e)) hne q) (fun h' k=>lt h' tk _ fun b o e=>k b o (ne b o e) (keep b o e)) fun o c h' g1 g2 g3 g4=>?_;exact⟨_,rfl,Oa ⟨_,rfl,h o _ c h' tk g1 g2 le (fun b u e=>g3 b u (ne b u e) (keep b u e)) g4⟩⟩
end
end ZS
namespace L2
open PySem PySem.Spec PyProof.Rows
section
variable{X:Cx}
abbrev vO(H:Hp):List V->List (List Int)->Prop:=P6 fun v k=>k≠[]/\∃b,v=.ref b/\H b=some (.tup (k.map V.int))
theorem qm{α β:Type}{F:α->β->Prop}:∀{l:List α}{m:List β},P6 F l m->∀(i:Nat) (a:α) (b:β),l[i]?=some a->m[i]?=some b->F a b
 | _,_,.nil,i,a,b,h,_=>by simp at h
 | _,_,.cons f _,0,a,b,h,g=>by cases h;cases g;exact f
 | _,_,.cons _ t,i+1,a,b,h,g=>qm t i a b (by simpa using h) (by simpa using g)
theorem tF(hc:X.calm=true):bp X (.builtin "sorted") (fun xs H Q=>∃d kvs ks,xs=[.ref d]/\Rd H d (.dT kvs)/\kvs.map (·.1)=ks.map kI/\(∀k∈ks,k≠[])/\∀zs ls,vO H zs ls->ls.Perm ks->ls.Pairwise (fun x y=>ZS.ltL y x=false)->(kvs.map (·.1)).Nodup->New (.lst zs) H Q):=by
 intro pins s σ H xs us Q I r h;obtain⟨d,kvs,ks,rfl,hd,ek,hne,q⟩:=h;obtain⟨u,rfl,ru⟩:=vals1 r;cases ru;obtain⟨z,lo,xs,kt,o,es,ep,g1,g2,g3,g4,g5⟩:=(show ba X.prog X.w H s.heap d (.dT kvs)from hd.ok I.hok);have hlen:xs.length=kvs.length:=(Pf kt).symm;have hes:es.size=xs.length:=by rw[<-h_,g4,a_]
 have rel:∀(l:List N8),Vals (l.map V.ref) (l.map OC):=fun l=>by
  induction l with
  |nil=>exact .nil
  |cons a t ih=>exact .cons rfl ih
 have rows:∀{kvs':List (List Key×V)}{xs':List (List Key×N8×N5)}{ks':List (List Int)},KT H kvs' xs'->kvs'.map (·.1)=ks'.map kI->(∀k∈ks',k≠[])->lO X.K H ((xs'.map fun x=>x.2.1).map V.ref) ks':=fun{kvs' xs' ks'} k=>by
  induction k generalizing ks' with
  |nil=>
   intro e _;cases ks' with
   |nil=>exact .nil
   |cons a b=>simp at e
  |cons h t ih=>
   intro e hn;cases ks' with
   |nil=>simp at e
   |cons a b=>
    rw[f',f',J_]at e;refine .cons ⟨hn a n_,_,rfl,SqT.of ?_⟩ (ih e.2 fun k hk=>hn k (j_ _ hk));rw[h.2.1,e.1,Gx]
 have rowsH:∀{kvs':List (List Key×V)}{xs':List (List Key×N8×N5)}{ks':List (List Int)},KT H kvs' xs'->kvs'.map (·.1)=ks'.map kI->P6 (fun(v:N5) (k:List Int)=>∃b,v=.ref b/\H b=some (.tup (k.map V.int))) ((xs'.map fun x=>x.2.1).map OC) ks':=fun{kvs' xs' ks'} k=>by
  induction k generalizing ks' with
  |nil=>
   intro e;cases ks' with
   |nil=>exact .nil
   |cons a b=>simp at e
  |cons h t ih=>
   intro e;cases ks' with
   |nil=>simp at e
   |cons a b=>
    rw[f',f',J_]at e;refine .cons ⟨_,rfl,?_⟩ (ih e.2);rw[h.2.1,e.1,Gx]
 have eqk:∀{kvs':List (List Key×V)}{xs':List (List Key×N8×N5)},KT H kvs' xs'->kvs'.map (·.1)=xs'.map fun x=>x.1:=fun{kvs' xs'} k=>by
  induction k with
  |nil=>rfl
  |cons h t ih=>rw[f',f',ih,h.1]
 obtain⟨f1,f2⟩:=uJ I (rel (xs.map fun x=>x.2.1)) (rows kt ek hne);obtain⟨its,eits⟩:∃its,its=(xs.map fun x=>x.2.1).map OC:=⟨_,rfl⟩;rw[<-eits]at f1 f2;have li:its.length=xs.length:=by rw[eits,a_,a_]
 refine ZS.v3 (vs:=its) (kd:=TB true) (rk:=fun x=>ZS.rnk ZS.ltL ks (ZS.iV s.heap x.1)) (S:=fun x=>x.1∈its) (by lia) (fun v hv=>hv)
  (fun{Q' E'} hq=>ZS.um lo g1 g2 g3 (I.ok.hd hc) (by lia) fun h' tk acc le kp it=>?_)
  (fun h' tk kp {Q}{E} hne q=>ZS.vo (h0:=s.heap) (fun v hv=>(f1 v hv).1) (fun b o e _=>kp b o e) hne q)
  (fun h' tk E kp=>ZS.uF (h0:=s.heap) (ks:=ks) (fun x hx=>⟨(f1 _ hx).1,by rw[<-f2];exact JP hx⟩) fun b o e _=>kp b o e) fun o a c h' tk op os ha kp e=>?_
 ·have hacc:acc.toList=its:=by
   rw[eits];refine Ni fun j=>?_;rw[f_,z_,z_];by_cases hj:j<es.size
   ·have hx:j<xs.length:=by lia
    have hja:j<acc.size:=by rw[it.1];exact hj
    have ha:acc[j]?=some acc[j]:=l_ hja;obtain⟨en,e1,e2⟩:=it.2 j _ ha;rw[ha,e2,c_ hx];rw[<-f_,g4,z_,c_ hx]at e1;cases e1
    rfl
   rw[Kf (by rw[it.1];lia),M1 (by lia)]
   rfl
  rw[hacc];exact hq h' tk le kp
 have mem:∀v∈o,v∈its:=fun v hv=>op.mem_iff.mp hv;have raw:∀v∈its,∃b,v=.ref b/\H b=some (.tup ((ZS.iV s.heap v).map V.int)):=fun v hv=>by
  obtain⟨i,hi,ev⟩:=Ka.mp hv;have h1:its[i]?=some v:=by rw[c_ hi,ev]
  have h2:ks[i]?=some (ZS.iV s.heap v):=by rw[<-f2,z_,h1];rfl
  have pr:=rowsH kt ek;rw[<-eits]at pr;exact qm pr i _ _ h1 h2
 have mk:∀(l:List N5),(∀v∈l,v∈its)->∃zs,Vals zs l/\vO H zs (l.map (ZS.iV s.heap))/\zs.length=l.length:=by
  intro l;induction l with
  |nil=>exact fun _=>⟨[],.nil,.nil,rfl⟩
  |cons v t ih=>
   intro hl;obtain⟨zs,k1,k2,k3⟩:=ih fun v hv=>hl v (.tail _ hv);obtain⟨_,_,_,k4,_⟩:=f1 v (hl v (.head _));obtain⟨b,e,k5⟩:=raw v (hl v (.head _));exact⟨.ref b::zs,.cons e k1,.cons ⟨k4,b,rfl,k5⟩ k2,by rw[d_,d_,k3]⟩
 obtain⟨zs,k1,k2,k3⟩:=mk o mem;refine⟨.ref a,_,I.laid (t':=tk) kp ha (show ba X.prog X.w _ h' _ (.lst zs)from⟨by rw[k3,op.length_eq];lia,o,c,k1,e⟩),rfl,(q zs _ k2 ?_ ?_ (by rw[eqk kt];exact g5)).at (I.hok.fresh ha)⟩
 ·rw[<-f2];exact op.map _
 rw[JX];refine Kr (fun{x y} hx hy hxy=>?_) os;cases z:ZS.ltL (ZS.iV s.heap y) (ZS.iV s.heap x)
 ·rfl
 have:=ZS.u6 ZS.uw (ks:=ks) (by rw[<-f2];exact JP (mem y hy)) z;exact absurd this (My.mpr hxy)
end
end L2
namespace ZS
open PySem PyProof.Rows
def ltI(a b:Int):Bool:=decide (a<b)
theorem Ft:Tot ltI:=⟨fun a=>decide_eq_false (Int.lt_irrefl a),fun a b c h g=>decide_eq_true (Int.lt_trans (of_decide_eq_true h) (of_decide_eq_true g)),fun a b h g=>by have h:=of_decide_eq_false h;have g:=of_decide_eq_false g;lia⟩
variable {ns:List Int}
section
variable{prog:Oj}{w:Ot}{A:OB}{E:N5->N9->Prop}{s:N9}
theorem Az{S:N_->Prop}(hS:∀x,S x->∃i t,x.1=.int i t/\i∈ns):cW (Oq prog w) A E s S4 (fun x=>rnk ltI ns (fH x.1)) S:=by intro x y st Q sx sy kd q;obtain⟨i,t,ex,mi⟩:=hS x sx;obtain⟨j,u,ey,mj⟩:=hS y sy;rw[lt'_eq];refine Og (Qk ?_);rw[kd,ex,ey,keyLt'_oneType];refine Og (Ry (PN (oneLt_int ⟨rfl,?_⟩)));refine Om ?_;dsimp only at q;rw[xR Ft (show fH x.1∈ns by rw[ex];exact mi),ex,ey]at q;exact q
theorem Ah{M:P_}{v1:N5}{vs:List N5}{Q:Pa->N9->Prop}(hI:QZ (v1::vs) ns)(q:Q S4 s):Of M A (RA (v1::vs).toArray) Q E s:=by
 have e:RA (v1::vs).toArray=pure S4:=by
  rw[keyKind'_eq,Nj,mapM_first_ints hI];simp only[map_pure,pure_bind];rw[if_neg (by simp),if_neg (by simp),oneTypeOnly'_eq,Nj,mapM_typeOf_ints hI];simp only[map_pure,pure_bind];have hal:((JV (fun _=>Pu "int") (v1::vs)).toArray.all fun x=>x == Pu "int")=true:=by simp only[List.all_toArray,Ko,K5];exact fun _ _=>rfl
  have hz:(JV (fun _=>Pu "int") (v1::vs)).toArray[0]?=some (Pu "int"):=by simp
  rw[hz];simp only[hal,if_true,pure_bind,Na]
 rw[e];exact Oa q
end
end ZS
namespace L2
open PySem PySem.Spec PyProof.Rows
section
variable{X:Cx}
theorem sS:bp X (.builtin "sorted") (fun xs H Q=>∃p ns,xs=[.ref p]/\SqL X.K H p (ns.map V.int)/\∀ms:List Int,ms.Perm ns->ms.Pairwise (·<=·)->New (.lst (ms.map V.int)) H Q):=by
 intro pins s σ H xs us Q I r h;obtain⟨p,ns,rfl,hq,q⟩:=h;obtain⟨u,rfl,ru⟩:=vals1 r;cases ru;obtain⟨its,rv,pl,hz⟩:=I.list hq;have hlen:=rv.length;rw[a_]at hlen hz;obtain⟨ps,e1,e2⟩:=ck rv;have hI:QZ its ns:=intsAre_of rv;have each:∀v∈its,∃i t,v=.int i t/\i∈ns:=fun v hv=>by rw[e1]at hv;obtain⟨a,ha,e⟩:=t_.mp hv;exact⟨a.1,a.2,e.symm,by rw[<-e2];exact JP ha⟩
 have keys:its.map ZS.fH=ns:=by rw[e1,F_,<-e2];rfl
 refine ZS.oT (kd:=S4) (rk:=fun x=>ZS.rnk ZS.ltI ns (ZS.fH x.1)) (S:=fun x=>x.1∈its) pl.isList (by lia) (fun v hv=>hv) (fun h' kp {Q}{E} hne q=>?_) (fun h' E kp=>ZS.Az fun x hx=>each _ hx) fun o a c h' op os ha kp e=>?_
 ·obtain⟨v1,vs,ev⟩:=List.exists_cons_of_ne_nil hne;rw[ev]at hI ⊢;exact ZS.Ah hI q
 have mem:∀v∈o,v∈its:=fun v hv=>op.mem_iff.mp hv;have mk:∀(l:List N5),(∀v∈l,v∈its)->Vals ((l.map ZS.fH).map V.int) l:=by
  intro l;induction l with
  |nil=>exact fun _=>.nil
  |cons v t ih=>
   intro hl;obtain⟨i,t',e,_⟩:=each v (hl v (.head _));refine .cons ?_ (ih fun v hv=>hl v (.tail _ hv));rw[e];exact⟨t',rfl⟩
 refine⟨.ref a,_,I.laid (t':=s.toks) kp ha (show ba X.prog X.w _ h' _ (.lst ((o.map ZS.fH).map V.int))from⟨by rw[a_,a_,op.length_eq];lia,o,c,mk o mem,e⟩),rfl,(q _ ?_ ?_).at (I.hok.fresh ha)⟩
 ·rw[<-keys];exact op.map _
 rw[JX];refine Kr (fun{x y} hx hy hxy=>?_) os;by_cases z:ZS.fH x<=ZS.fH y
 ·exact z
 have:=ZS.u6 ZS.Ft (ks:=ns) (a:=ZS.fH y) (b:=ZS.fH x) (by rw[<-keys];exact JP (mem y hy)) (decide_eq_true (by lia));exact absurd this (My.mpr hxy)
end
end L2
namespace PL
open PySem PySem.Spec PyProof.Rows L2
section
variable{κ:Type}{lt:κ->κ->Bool}
noncomputable def yS(lt:κ->κ->Bool)(x:κ):List κ->List κ
 | []=>[x]
 |y::r=>if lt y x=true then y::yS lt x r else x::y::r
def zA(lt:κ->κ->Bool):List κ->List κ
 | []=>[]
 |x::r=>yS lt x (zA lt r)
theorem nk(x:κ):∀l:List κ,(yS lt x l).Perm (x::l)
 | []=>.refl _
 |y::r=>by
  rw[yS];split
  ·exact((nk x r).cons y).trans (.swap _ _ _)
  exact .refl _
theorem jK:∀l:List κ,(zA lt l).Perm l
 | []=>.refl _
 |x::r=>(nk x _).trans ((jK r).cons x)
theorem nX(T:ZS.Tot lt)(x:κ):∀{l:List κ},l.Pairwise (fun a b=>lt b a=false)->(yS lt x l).Pairwise (fun a b=>lt b a=false)
 | [],_=>MM _ _
 |y::r,h=>by
  rw[Kn]at h;rw[yS];split
  ·rename_i hy;rw[Kn];refine⟨fun b hb=>?_,nX T x h.2⟩;rcases o_.mp ((nk x r).mem_iff.mp hb)with rfl|hb
   ·cases z:lt b y
    ·rfl
    have:=T.tr _ _ _ z hy;rw[T.irr]at this;cases this
   exact h.1 b hb
  rename_i hy;have hy:lt y x=false:=Ll.mpr hy;rw[Kn];refine⟨fun b hb=>?_,Kn.mpr h⟩;rcases o_.mp hb with rfl|hb
  ·exact hy
  cases z:lt b x
  ·rfl
  have h1:=h.1 b hb;cases w:lt y b
  ·have:=T.tot _ _ h1 w;subst this;rw[z]at hy;cases hy
  have:=T.tr _ _ _ w z;rw[hy]at this;cases this
theorem jq(T:ZS.Tot lt):∀l:List κ,(zA lt l).Pairwise (fun a b=>lt b a=false)
 | []=>Lk
 |x::r=>nX T x (jq T r)
theorem nN(T:ZS.Tot lt):∀{l m:List κ},l.Perm m->l.Pairwise (fun a b=>lt b a=false)->m.Pairwise (fun a b=>lt b a=false)->l=m
 | [],m,p,_,_=>(List.Perm.nil_eq p)
 |a::l,[],p,_,_=>(List.Perm.eq_nil p)
 |a::l,b::m,p,h,g=>by
  rw[Kn]at h g;have e:a=b:=by
   have ha:a∈b::m:=p.mem_iff.mp n_;have hb:b∈a::l:=p.mem_iff.mpr n_;rcases o_.mp ha with e|ha
   ·exact e
   rcases o_.mp hb with e|hb
   ·exact e.symm
   exact T.tot _ _ (g.1 a ha) (h.1 b hb)
  subst e;rw[nN T (List.Perm.cons_inv p) h.2 g.2]
theorem lW(T:ZS.Tot lt){l m:List κ}(p:l.Perm m)(h:l.Pairwise (fun a b=>lt b a=false)):l=zA lt m:=
 nN T (p.trans (jK m).symm) h (jq T m)
end
abbrev pf(ks:List (List Int)):List (List Int):=zA ZS.ltL ks
abbrev HU(ks:List Int):List Int:=zA ZS.ltI ks
noncomputable def rowOf:T->Option (List Int)
 | .tup ts=>match intsOf ts with
  |some (n::r)=>some (n::r)
  | _=>none
 | _=>none
noncomputable def rowsOf:List T->Option (List (List Int))
 | []=>some []
 |t::r=>match rowOf t,rowsOf r with
  |some k,some ks=>some (k::ks)
  | _,_=>none
theorem AG{t:T}{k:List Int}(h:rowOf t=some k):t=iT k/\k≠[]:=by
 cases t <;> first|cases h|skip
 rename_i ts;rw[rowOf]at h;split at h
 ·rename_i n r e;cases h;exact⟨by rw[eA e];rfl,by simp⟩
 cases h
theorem BX{k:List Int}(h:k≠[]):rowOf (iT k)=some k:=by
 cases k with
 |nil=>exact absurd rfl h
 |cons n r=>
  show(match intsOf ((n::r).map T.int)with|some (n::r)=>some (n::r) | _=>none)=_;rw[wV]
theorem jA:∀{ts:List T}{ks:List (List Int)},rowsOf ts=some ks->ts=ks.map iT/\∀k∈ks,k≠[]
 | [],ks,h=>by cases h;exact⟨rfl,fun k hk=>by cases hk⟩
 |t::ts,ks,h=>by
  rw[rowsOf]at h;split at h
  ·rename_i k r e1 e2;cases h;obtain⟨h1,h2⟩:=AG e1;obtain⟨h3,h4⟩:=jA e2;refine⟨by rw[h1,h3];rfl,fun q hq=>?_⟩;rcases o_.mp hq with rfl|hq
   ·exact h2
   exact h4 q hq
  cases h
theorem wC{ks:List (List Int)}(h:∀k∈ks,k≠[]):rowsOf (ks.map iT)=some ks:=by
 induction ks with
 |nil=>rfl
 |cons k r ih=>
  rw[f',rowsOf,BX (h k n_),ih fun q hq=>h q (j_ _ hq)]
theorem nM{α:Type}(g:α->T)(f:α->List Int)(h:∀x,g x=iT (f x))(n:∀x,f x≠[])(l:List α):rowsOf (l.map g)=some (l.map f):=by
 have:l.map g=(l.map f).map iT:=by rw[F_];exact Ky fun x _=>h x
 rw[this];exact wC fun k hk=>by obtain⟨x,_,rfl⟩:=t_.mp hk;exact n x
noncomputable def xE:P1s
 | [.lst _ ts],k=>match intsOf ts with
  |some ns=>k (.lst true ((HU ns).map T.int))
  |none=>got (rowsOf ts) fun ks=>k (.lst true ((pf ks).map iT))
 | [.dT _ kvs],k=>∃ks,kvs.map (·.1)=ks.map kI/\(∀q∈ks,q≠[])/\(ks.Nodup->k (.lst true ((pf ks).map iT)))
 | _,_=>False
section
variable{X:Cx}
theorem lV{K:N7}{H:Hp}{Γ:Fm}:∀{ks:List (List Int)}{vs:List V},(∀k∈ks,k≠[])->(ks.map iT).length=vs.length->Rp K H (zz (ks.map iT) vs++Γ)->lO K H vs ks/\∀v∈vs,∃(b:N8) (k:List Int),v=.ref b/\H b=some (.tup (k.map V.int))
 | [],[],_,_,_=>⟨.nil,fun v hv=>by cases hv⟩
 | [],_::_,_,l,_=>by cases l
 | _::_,[],_,l,_=>by cases l
 |k::ks,v::vs,n,l,h=>by
  have h:Rp K H ((iT k,some v)::(zz (ks.map iT) vs++Γ)):=h;obtain⟨a,us,rfl,ha,la,h2⟩:=oA h;have eu:=fA la h2;subst eu;obtain⟨r1,r2⟩:=lV (fun q hq=>n q (j_ _ hq)) (by simpa using l) h.tail;refine⟨.cons ⟨n k n_,a,rfl,SqT.of ha⟩ r1,fun w hw=>?_⟩;rcases o_.mp hw with rfl|hw
  ·exact⟨a,k,rfl,ha⟩
  exact r2 w hw
theorem jr{K:N7}{H:Hp}{Γ:Fm}:∀{ks:List (List Int)}{vs:List V},vO H vs ks->Rp K H Γ->Rp K H (zz (ks.map iT) vs++Γ)/\(ks.map iT).length=vs.length
 | [],_,r,h=>by cases r;exact⟨h,rfl⟩
 |k::ks,_,r,h=>by rcases r with _|⟨hd,t⟩;rename_i v vs;obtain⟨_,b,e,hb⟩:=hd;obtain⟨h1,l1⟩:=jr t h;subst e;refine⟨?_,by simp at l1 ⊢;exact l1⟩;show Rp K H ((iT k,some (.ref b))::(zz (ks.map iT) vs++Γ));exact jl (ts:=k.map T.int) (vs:=k.map V.int) (rp_intsP k h1) (by rw[a_,a_]) .bW hb
where
 rp_intsP {Γ:Fm}:∀(ns:List Int),Rp K H Γ->Rp K H (zz (ns.map T.int) (ns.map V.int)++Γ)
 | [],h=>h
 | _::r,h=>bI (rp_intsP r h) fun _=>.int
theorem xB{K:N7}{H:Hp}{Γ:Fm}:∀(ns:List Int),Rp K H Γ->Rp K H (zz (ns.map T.int) (ns.map V.int)++Γ)
 | [],h=>h
 | _::r,h=>bI (xB r h) fun _=>.int
theorem xC{K:N7}{H:Hp}:∀{zs:List V}{ls:List (List Int)},(∀v∈zs,∀b,v=.ref b->∀xs,SqT K H b xs->H b=some (.tup xs))->lO K H zs ls->vO H zs ls:=by
 intro zs ls h r;induction r with
 |nil=>exact .nil
 |cons hk t ih=>
  obtain⟨n,b,e,hb⟩:=hk;exact .cons ⟨n,b,e,h _ n_ b e _ hb⟩ (ih fun v hv=>h v (j_ _ hv))
theorem GC{ms:List Int}(h:ms.Pairwise (·<=·)):ms.Pairwise (fun a b=>ZS.ltI b a=false):=h.imp fun{a b} hab=>by unfold ZS.ltI;exact decide_eq_false (by omega)
theorem mC(hc:X.calm=true):fw X (.builtin "sorted") xE:=by
 rintro pins s σ H xs us Q I r ⟨ts,Γ,k,l,rp,g,c⟩;unfold xE at g;split at g
 ·rename_i k o ts;obtain⟨x,rfl⟩:=zz1 l rfl;have rp:Rp X.K H ((.lst o ts,some x)::Γ):=rp;obtain⟨a,vs,rfl,hq,l2,rp2⟩:=ir rp;cases e:intsOf ts with
  |some ns=>
   rw[e]at g;have et:=eA e;subst et;have ev:=fA l2 rp2;subst ev;refine sS pins s σ H _ us Q I r ⟨a,ns,rfl,.inl hq,fun ms pm sm p H' hp g' e'=>c _ _ _ g ?_⟩;have es:ms=HU ns:=lW ZS.Ft pm (GC sm);rw[<-es];exact gB (xB ms rp.tail) (by rw[a_,a_]) hp g' e'
  |none=>
   rw[e]at g;obtain⟨ks,ek,kt⟩:=aI g;obtain⟨et,ne⟩:=jA ek;subst et;obtain⟨rv,ex⟩:=lV ne l2 rp2;refine lI pins s σ H _ us Q I r ⟨a,vs,ks,rfl,.inl hq,rv,fun zs ls rz mem pm sm p H' hp g' e'=>c _ _ _ kt ?_⟩;have es:ls=pf ks:=lW ZS.uw pm sm;rw[<-es];have rH:=xC (fun v hv b eb xs hs=>by obtain⟨b',k',e1,e2⟩:=ex v (mem v hv);rw[eb]at e1;cases e1;rw[e2,I.fP hs (SqT.of e2)]) rz
   obtain⟨rp3,l3⟩:=jr rH rp.tail;exact gB rp3 l3 hp g' e'
 ·rename_i k o kvs;obtain⟨x,rfl⟩:=zz1 l rfl;have rp:Rp X.K H ((.dT o kvs,some x)::Γ):=rp;obtain⟨a,vs,rfl,hq,ek,rp2⟩:=pS rp;obtain⟨ks,e1,e2,kt⟩:=g;refine tF hc pins s σ H _ us Q I r ⟨a,vs,ks,rfl,hq,by rw[<-ek];exact e1,e2,fun zs ls rz pm sm nd p H' hp g' e'=>?_⟩;have nd':ks.Nodup:=by rw[<-ek,e1]at nd;exact(JX.mp nd).imp fun{a b} h z=>h (by rw[z])
  refine c _ _ _ (kt nd') ?_;have es:ls=pf ks:=lW ZS.uw pm sm;rw[<-es];obtain⟨rp3,l3⟩:=jr rz rp.tail;exact gB rp3 l3 hp g' e'
 exact Oz g
end
section
variable{X:Cx}
variable{e a b:Ov}{fr:PFs}{p1 p2 pos1 pos2:Pos}
theorem Jh{k:Nat}{A:OB}(r:Room k A):A.units+20<cLine:=by have:=r.un;lia
end
section
variable{X:Cx}{pos:Pos}
theorem lM{κ:Type}[DecidableEq κ]:∀(a:List (κ×V)) (b:List (κ×V)),((a++b).map (·.1)).Nodup->b.foldl (fun acc kv=>putK acc kv.1 kv.2) a=a++b
 |a,[],_=>by rw[D_];rfl
 |a,(q,x)::b,h=>by
  have h':((a++[(q,x)]++b).map (·.1)).Nodup:=by rw[k_];exact h
  have nq:(a.any fun kv=>decide (kv.1=q))=false:=by rw[List.any_eq_false];intro y my e;rw[v_,KP]at h;exact h.2.2 y.1 (JP my) q (n_ ..) (of_decide_eq_true e)
  have e:putK a q x=a++[(q,x)]:=by unfold putK;rw[nq];rfl
  rw[MQ,e,lM (a++[(q,x)]) b h',k_];rfl
theorem C7{N:List Str}{esc:O4}(N':List Str)(fr:List (Option Nat))(nd:N'.Nodup){elt target iter:Ov}{ifs:List Ov}{sc:O4}{fi:PIt}{g:PG'}{ft:PB}{fe:PF}(hN:X.N=N)(hS:X.env.scope=esc)(C:jg N esc sc N' fr=true)
  (hi:GI X target iter fi) (hg:∀s3 H3 fp,GG (κc fr) (aT X N' sc s3 H3 fp) target g) (ht:∀s3 H3 fp,GTs (aT X N' sc s3 H3 fp) ifs ft) (he:∀s3 H3 fp,GE (aT X N' sc s3 H3 fp) elt fe)
  (hc:X.calm=true:=by rfl) (hs:∀x,OX iter X.env x=pure x:=by intro _;rfl):GE X (.ListComp elt [⟨target,iter,ifs,0⟩] sc pos) (vt fr fi g ft fe):=
 PE.imp (xX N' fr hc (by rw[hN,hS];exact C) hi hg ht he hs) wc
end
section
variable{b:Bool}{ts us:List T}{k:T->Prop}{i:Int}{t u:T}{env:Ev}{ke:T->Ev->Prop}
theorem bE(lo:Int)(n:Nat):(og lo n).length=n:=by rw[og,a_,JH]
theorem dW{lo:Int}{n i:Nat}{t:T}(h:(og lo n)[i]?=some t):i<n:=by have:=(gV.mp h).1;rwa[bE]at this
theorem js{lo:Int}{n i:Nat}{t:T}(h:(og lo n)[i]?=some t):t=.int (lo+(i:Int)):=by
 have hi:=dW h;rw[og,z_,Mg hi]at h;cases h
 rfl
theorem aZ{α:Type}{g:α->T}{l:List α}{i:Nat}{t:T}(h:(l.map g)[i]?=some t):∃x,l[i]?=some x/\t=g x:=by
 rw[z_]at h;cases e:l[i]? with
 |none=>rw[e]at h;cases h
 |some x=>rw[e]at h;cases h;exact⟨x,rfl,rfl⟩
end
def Ik(f g:PSt):PSt:=fun pe env=>∃W:Ev->Prop,f {pe with nx:=W} env/\∀e,W e->g pe e
theorem iz{X:Cx}{κ:Nat->Bool}{st:OF}{rest:List OF}{f g:PSt}(h1:GS κ X st f)(h2:GSs κ X rest g):GSs κ X (st::rest) (Ik f g):=by refine PSs.imp (bQ h1 h2) ?_;rintro D σ H ⟨env,Fr,pe,rs,⟨W,q,w⟩,c⟩;refine⟨env,Fr,_,rs,q,⟨fun env' σ' H' q1 rs1 k1=>⟨env',Fr,pe,rs1,w _ q1,c.later k1⟩,c.rt,c.bk,c.ct⟩⟩
theorem kl{f g:PSt}{pe:PEn}{env:Ev}(W:Ev->Prop)(h1:f {pe with nx:=W} env)(h2:∀e,W e->g pe e):Ik f g pe env:=⟨W,h1,h2⟩
open PySem L2
noncomputable def x6:P1s
 | [.dT _ kvs],k=>∃ks:List (List Int),kvs.map (·.1)=ks.map kI/\(∀q∈ks,q≠[])/\(ks.Nodup->k (.lst true (ks.map iT)))
 | _,_=>False
section
variable{X:Cx}
theorem zE{H:Hp}:∀{bs:List N8}{kvs:List (List Key×V)}{ks:List (List Int)},P6 (fun(b:N8) (p:List Key×V)=>H b=some (.tup (p.1.map kV))) bs kvs->kvs.map (·.1)=ks.map kI->(∀k∈ks,k≠[])->vO H (bs.map V.ref) ks:=by
 intro bs kvs ks h;induction h generalizing ks with
 |nil=>
  intro e _;cases ks with
  |nil=>exact .nil
  |cons a b=>simp at e
 |cons h t ih=>
  intro e hn;cases ks with
  |nil=>simp at e
  |cons a b=>
   rw[f',f',J_]at e;refine .cons ⟨hn a n_,_,rfl,?_⟩ (ih e.2 fun k hk=>hn k (j_ _ hk));rw[h,e.1,Gx]
theorem uE(hc:X.calm=true):fw X (.type "list") x6:=by
 rintro pins s σ H xs us Q I r ⟨ts,Γ,k,l,rp,g,c⟩;unfold x6 at g;split at g
 ·rename_i k o kvs;obtain⟨x,rfl⟩:=zz1 l rfl;have rp:Rp X.K H ((.dT o kvs,some x)::Γ):=rp;obtain⟨a,vs,rfl,hq,ek,rp2⟩:=pS rp;obtain⟨ks,e1,e2,kt⟩:=g;refine wU hc pins s σ H _ us Q I r ⟨a,vs,rfl,hq,fun bs pr nd p H' hp g' e'=>?_⟩;have nd':ks.Nodup:=by rw[<-ek,e1]at nd;exact(JX.mp nd).imp fun{a b} h z=>h (by rw[z])
  refine c _ _ _ (kt nd') ?_;obtain⟨rp3,l3⟩:=jr (zE pr (by rw[<-ek];exact e1) e2) rp.tail;exact gB rp3 l3 hp g' e'
 exact Oz g
end
theorem Bo{o:Bool}{kvs:List (List Key×T)}{k:T->Prop}:x6 [.dT o kvs] k=∃ks:List (List Int),kvs.map (·.1)=ks.map kI/\(∀q∈ks,q≠[])/\(ks.Nodup->k (.lst true (ks.map iT))):=rfl
end PL
namespace L2
open PySem PySem.Spec PyProof.Rows
section
variable{X:Cx}
theorem zb(hc:X.calm=true):bp X (.builtin "sum") (fun xs H Q=>∃(a:N8) (ns:List Int),xs=[.ref a]/\SqL X.K H a (ns.map V.int)/\Q (.int ns.sum) H):=by
 intro pins s σ H xs us Q I r h;obtain⟨a,ns,rfl,hq,q⟩:=h;obtain⟨u,rfl,ru⟩:=vals1 r;cases ru;obtain⟨its,rv,p,z⟩:=I.list hq;obtain⟨ps,e1,e2⟩:=ck rv;subst e1;have hl:s.heap.IsList a (OM ps.toArray):=by
  have e:OM ps.toArray=(ps.map fun p=>O5 p.1 p.2).toArray:=by simp[OM]
  rw[e];exact p.isList
 have hlen:ps.length=ns.length:=by rw[<-e2];simp
 have k:∀i,i<=ns.length->preSum (P5 ps.toArray) i=(ns.take i).sum:=fun i=>by
  induction i with
  |zero=>exact fun _=>rfl
  |succ i ih=>
   intro hi;show preSum (P5 ps.toArray) i+P5 ps.toArray i=_;rw[ih (by lia),cL e2 hi,JR,c_ hi,List.sum_append_int];simp
 refine sum_intListG (I.ok.hd hc) hl fun h' tk t' hk=>?_;rw[p_,hlen,k _ (b_ _),y_];exact⟨.int _,H,I.kept (t':=tk) hk,⟨t',rfl⟩,q⟩
end
end L2
namespace PL
open PySem L2
def FV:P1s
 | [.lst _ ts],k=>got (intsOf ts) fun ns=>k (.int ns.sum)
 | _,_=>False
section
variable{X:Cx}
theorem yY(hc:X.calm=true):fw X (.builtin "sum") FV:=by
 rintro pins s σ H xs us Q I r ⟨ts,Γ,k,l,rp,g,c⟩;unfold FV at g;split at g
 ·rename_i k o ts;obtain⟨x,rfl⟩:=zz1 l rfl;have rp:Rp X.K H ((.lst o ts,some x)::Γ):=rp;obtain⟨a,vs,rfl,hq,l2,rp2⟩:=ir rp;obtain⟨ns,en,kt⟩:=aI g;have:=eA en;subst this;have:=fA l2 rp2;subst this;exact zb hc pins s σ H _ us Q I r ⟨a,ns,rfl,.inl hq,c _ _ _ kt (bI rp.tail fun _=>.int)⟩
 exact Oz g
end
variable {ts:List T}
theorem kH{o:Bool}{k:T->Prop}:FV [.lst o ts] k=dU (intsOf ts) (k:=⟨fun ns=>k (.int ns.sum)⟩):=rfl
open PySem PySem.Spec PyProof.Rows L2
variable {H:Hp}{K:N7}
theorem DR{Hz:Hp}(vs:List V):RepTs K Hz H (vs.map T.hole) vs []:=by
 induction vs with
 |nil=>exact .nil
 |cons v vs ih=>exact .cons (L:=[]) (M:=[]) rfl .hole ih
variable {vs:List V}
theorem AE{Hz:Hp}:∀{us:List V}{L:List N8},RepTs K Hz H (vs.map T.hole) us L->us=vs:=by
 induction vs with
 |nil=>intro us L h;cases h;rfl
 |cons v vs ih=>
  intro us L h;cases h with
  |cons e h c=>cases h;rw[ih c]
theorem BY{x:Option V}{Γ:Fm}(h:Rp K H ((.lst true ts,x)::Γ)):∃a vs,x=some (.ref a)/\ts.length=vs.length/\Rp K H ((.lst true (vs.map T.hole),some (.ref a))::(zz ts vs++Γ)):=by
 obtain⟨Hz,N,h,nd,g,d⟩:=h;cases h with
 |cons e h c=>
  rcases h with⟨h,_⟩|⟨v,rfl,h⟩
  ·cases h
  cases h with
  |lstO h1 c1=>exact⟨_,_,rfl,c1.len,Hz,N,.cons (L:=[_]) (M:=_++_) (by rw[e];rfl) (.inr ⟨_,rfl,.lstO h1 (DR _)⟩) (c1.toL.app c),nd,g,d⟩
theorem wM{us:List V}{Γ:Fm}(h:Rp K H (zz (vs.map T.hole) us++Γ))(l:vs.length=us.length):us=vs:=by obtain⟨Hz,N,h,nd,g,d⟩:=h;obtain⟨L,M,_,h1,_⟩:=h.split;exact AE (h1.xc (by rw[a_];exact l))
def κx(κ:Nat->Bool)(j:Nat):Nat->Bool:=fun x=>κ x || decide (x=j)
variable {κ:Nat->Bool}
theorem Kept.of {j:Nat}{σ σ':L2.St}(h:Kept (κx κ j) σ σ'):Kept κ σ σ':=⟨h.1,fun i e=>h.2 i (by unfold κx;rw[e];rfl)⟩
noncomputable def Eh(j:Nat)(g:PG')(fb:PSt):PSt:=fun pe env=>∃us,env[j]?=some (.lst true us)/\∃W:Nat->Ev->Prop,W 0 (env.set j .any)/\(∀i t e,W i e->us[i]?=some t->g t e fun e2=>fb { nx:=W (i+1),rt:=fun _ _=>False,bk:=fun _=>False,ct:=W (i+1) } e2)/\∀e hs,W us.length e->hs.length=us.length->pe.nx (e.set j (.lst true hs))
theorem E4{X:Cx}{pos p':Pos}{tg:Ov}{x:Str}(j:Nat){body:List OF}{g:PG'}{fb:PSt}(hp:TL (Oq X.prog X.w) X.A X.env X.xe)(hc:X.calm=true)(hg:GG (κx κ j) X tg g)(hb:GSs (κx κ j) X body fb)
  (hN:X.N[j]?=some x:=by rfl) (hv:Vis X.env.scope x:=by first|exact e_ rfl|exact r_ (e_ rfl)|exact r_ (r_ rfl)) (hd:(x ==("__debug__":Str))=false:=by decide) (hcd:(x ==("__classdict__":Str))=false:=by decide) (hs:∀y,OX (.Name x p') X.env y=pure y:=by intro _;rfl) :
  GS κ X (.For tg (.Name x p') body [] pos) (Eh j g fb):=by
 refine PS.imp (AX hp hc (AK (gH hN hv hd hcd)) hg hb hs) ?_;rintro D σ H ⟨env,Fr,pe,rs,⟨us,et,W,w0,wt,we⟩,c⟩;obtain⟨y,ey,rs2⟩:=rs.slot et;obtain⟨a,vs,rfl,l,rp⟩:=BY rs2.head;have hj:j<σ.length:=(gV.mp ey).1;have rs3:Rs X.K H (env.set j .any) σ ((.lst true (vs.map T.hole),some (.ref a))::(zz us vs++Fr)):=.of rs2.1 (rp.perm (.cons _ (x_ _ _ _)));have look:∀{H':Hp}{e':Ev}{σ':L2.St}{F:Fm},Rs X.K H' e' σ' ((.lst true (vs.map T.hole),some (.ref a))::F)->SqG false X.K H' a vs:=fun r=>by obtain⟨a',vs',ea,hq,l',rp'⟩:=aJ rfl r.head;cases ea;rw[a_]at l';rw[wM rp' l']at hq;exact hq
 refine⟨_,ey,false,a,vs,rfl,look rs3,fun i m σ' H'=>∃e',W i e'/\Rs X.K H' e' σ' ((.lst true (vs.map T.hole),some (.ref a))::(zz (us.drop i) (vs.drop i)++Fr))/\Kept (κx κ j) σ σ'/\m+i=us.length,⟨us.length,_,w0,rs3,.refl,rfl⟩,?_⟩;rintro i m σ1 H2 ⟨e2,w2,rs4,k2,hm⟩;have hq:=look rs4;by_cases hlt:i<us.length
 ·have hv2:i<vs.length:=by lia
  have d1:us.drop i=us[i]::us.drop (i+1):=KW hlt;have d2:vs.drop i=vs[i]::vs.drop (i+1):=KW hv2;refine .inr ⟨Aa hq rfl i H2 .bW hv2,fun σ' H'=>∃e',W (i+1) e'/\Rs X.K H' e' σ' ((.lst true (vs.map T.hole),some (.ref a))::(zz (us.drop (i+1)) (vs.drop (i+1))++Fr))/\Kept (κx κ j) σ σ',fun σ' H' ⟨e',w',r',k'⟩=>⟨m-1,by lia,e',w',r',k',by lia⟩,fun x H' hx=>?_⟩;obtain⟨rfl,ex⟩:=ye hq .bW hx;rw[c_ hv2]at ex;cases ex;rw[d1,d2]at rs4;have rs5:Rs X.K H' e2 σ1 ((us[i],some vs[i])::((.lst true (vs.map T.hole),some (.ref a))::(zz (us.drop (i+1)) (vs.drop (i+1))++Fr))):=⟨rs4.1,rs4.2.perm (.append_left _ (.swap _ _ _))⟩;refine⟨us[i],e2,_,_,rs5,wt i us[i] e2 w2 (c_ hlt),fun env3 σ3 H3 q3 rs6 k4=>?_⟩;exact⟨env3,_,_,rs6,q3,⟨fun env' σ' H' w' r' k'=>⟨env',w',r',k2.trans (k4.trans k')⟩,fun t env' v σ' H' p r' k'=>p.elim,fun env' σ' H' p r' k'=>p.elim,fun env' σ' H' w' r' k'=>⟨env',w',r',k2.trans (k4.trans k')⟩⟩⟩
 have:i=us.length:=by lia
 subst this;have e1:us.drop us.length=[]:=List.drop_length;rw[e1]at rs4;have ej:σ1[j]?=some (some (.ref a)):=(k2.2 j (by unfold κx;rw[decide_eq_true rfl,Bool.or_true])).trans ey;have rs7:Rs X.K H2 e2 σ1 ((.lst true (vs.map T.hole),some (.ref a))::Fr):=rs4;exact .inl ⟨vj hq l.symm H2 .bW,c.nx _ _ _ (we e2 _ w2 (by rw[a_];exact l.symm)) (Rs.nu rs7 (by rw[rs7.1];exact(gV.mp ej).1) ej) k2.of⟩
theorem DO{j:Nat}{g:PG'}{fb:PSt}{pe:PEn}{env:Ev}{us:List T}(W:Nat->Ev->Prop)(h:env[j]?=some (.lst true us))(w0:W 0 (env.set j .any))(wt:∀i t e,W i e->us[i]?=some t->g t e fun e2=>fb { nx:=W (i+1),rt:=fun _ _=>False,bk:=fun _=>False,ct:=W (i+1) } e2)(we:∀e hs,W us.length e->hs.length=us.length->pe.nx (e.set j (.lst true hs))):Eh j g fb pe env:=⟨us,h,W,w0,wt,we⟩
end PL
namespace L2
open PySem PySem.Spec PyProof.Rows
noncomputable def Itf(o:Obj)(d:N8):It:=
  ⟨fun i H=>∃kvs,Rd H d (.frz o (.dT kvs))/\i<kvs.length,
   fun i H v H'=>H'=H/\∀kvs,Rd H d (.frz o (.dT kvs))->∃k x b,kvs[i]?=some (k,x)/\v=.ref b/\H b=some (.tup (k.map kV)),
   fun i H=>∃kvs,Rd H d (.frz o (.dT kvs))/\kvs.length<=i⟩
theorem CC{H:Hp}{d:N8}{o:Obj}{a b:List (List Key×V)}(h:Rd H d (.frz o (.dT a)))(g:Rd H d (.frz o (.dT b))):a=b:=by rcases h with h|⟨o1,h⟩ <;> rcases g with g|⟨o2,g⟩ <;> rw[h]at g <;> cases g <;> rfl
theorem uU{X:Cx}{pins:List (N8×Obj)}{σ:St}{H:Hp}{s:N9}{o:Obj}{d:N8}{kvs:List (List Key×V)}(I:Inv X pins σ H s)(e:Rd H d (.frz o (.dT kvs))) :
  s.heap.get? d=some o/\(d == OY)=false/\∃xs es ep,KT H kvs xs/\o.ExactDict/\o.data=.dict es ep/\es.toList=xs.map (R4 (Qn (bg X.prog X.w)))/\es.size=kvs.length:=by
 obtain⟨h0,h1,h2,xs,kt,o',es,ep,g1,g2,g3,g4,g5⟩:=(show ba X.prog X.w H s.heap d (.frz o (.dT kvs))from e.ok I.hok);rw[h0]at g1;cases g1;refine⟨h0,h2,xs,es,ep,kt,g2,g3,g4,?_⟩;rw[<-h_,g4,a_];exact(Pf kt).symm
theorem wF{P:Oj}{w:Ot}{K:N7}{tg:Ov}(o:Obj)(d it:N8)(es:Array PX)(ep:Nat)(hdat:o.data=.dict es ep):Turn P w K tg (Itf o d) [it] it (fun i h=>h.IsKeyIter it d i es.size ep) where
 mem:=by simp
 obj:=fun i h st b hb=>by
  have e:b=it:=by simpa using hb
  subst e;obtain⟨oi,q1,q2,q3⟩:=st;exact⟨oi,q1,fun v z=>by rw[q3]at z;cases z⟩
 keep:=fun i h h' st k=>st.at fun oo e=>k it (by simp) oo e
 item:=by
  intro X hP hw hK hc i pins s σ H E I hf st hg;subst hP hw hK;obtain⟨kvs,hq,hx⟩:=hg;obtain⟨h0,h1,xs,es',ep',kt,g2,g3,g4,g5⟩:=uU I hq;rw[hdat]at g3;cases g3;obtain⟨f0,f1,f2,f3,f4,f5⟩:=hf it (by simp);have hi:i<es.size:=by lia
  have hxs:i<xs.length:=by rw[<-h_,g4,a_]at hi;exact hi
  have he:es[i]?=some (R4 (Qn (bg X.prog X.w)) xs[i]):=by
   rw[<-f_,g4,z_,c_ hxs]
   rfl
  refine ZG.Ef st h0 hdat he fun h' st' sb=>?_;have I1:Inv X pins σ H {s with heap:=h'}:=I.turned (t':=s.toks) (fun b ob hb e=>(sb.2 b hb).trans e) f0 f1 f3 f4 f5;obtain⟨oi,q1,q2,q3⟩:=id st';refine⟨_,rfl,yn (s:={s with heap:=h'}) q1 q2 q3 (by decide) ⟨.ref xs[i].2.1,H,I1,rfl,⟨rfl,fun kvs' hk'=>?_⟩,st',fun b hb=>(hf b hb).1⟩⟩;cases CC hq hk';obtain⟨p,p1,p2,p3,p4⟩:=oS kt (c_ hxs);exact⟨p.1,p.2,_,p1,rfl,p3⟩
 done:=by intro X hP hw hK hc i pins s σ H E I hf st hg;subst hP hw hK;obtain⟨kvs,hq,hx⟩:=hg;obtain⟨h0,h1,xs,es',ep',kt,g2,g3,g4,g5⟩:=uU I hq;rw[hdat]at g3;cases g3;obtain⟨f0,f1,f2,f3,f4,f5⟩:=hf it (by simp);exact ZG.Hl (I.ok.hd hc) st h0 hdat (by rw[Kf];lia) fun h' eb=>⟨rfl,I.turned (t':=s.toks) (fun b ob hb e=>eb b ob hb e) f0 f1 f3 f4 f5⟩
 self:=fun _ _ _ _ _ st h=>Sd st h
noncomputable def HN(te:TE):TI:=fun σ H R=>te σ H fun x H1=>∃d kvs,x=.ref d/\((H1 d=some (.dT kvs)/\∀o H2,Put H1 d (.frz o (.dT kvs)) H2->R (Itf o d) H2)\/∃o,H1 d=some (.frz o (.dT kvs))/\R (Itf o d) H1)
theorem A8{X:Cx}{tg l:Ov}{tl:TE}(hl:PE X l tl):PI X tg l (HN tl):=by
 intro pins s σ H R I h;refine thn (hl pins s σ H _ I h) ?_;rintro v s1 ⟨x,H1,I1,r1,q1⟩;obtain⟨d,kvs,e,q1⟩:=q1;subst e;cases r1;have key:∀(o:Obj) (H2:Hp),Inv X pins σ H2 s1->H2 d=some (.frz o (.dT kvs))->R (Itf o d) H2->Of (Oq X.prog X.w) X.A (Ru (.ref d)) (PIE X pins σ tg R) X.xe s1:=fun o H2 I2 e2 q2=>by
  obtain⟨h0,h1,xs,es,ep,kt,g2,g3,g4,g5⟩:=Dq I2 e2;refine ZG.EL h1 h0 g2 g3 ⟨s1.heap.objs.size,[s1.heap.objs.size],_,_,H2,rfl,I2.kept (t':=s1.toks) fun b ob z=>Oe _ z,wF o d _ es ep g3,⟨_,Oo _ rfl,rfl,rfl⟩,fun b hb=>?_,q2⟩;have e:b=s1.heap.objs.size:=by simpa using hb
  subst e;exact I2.xo (b_ _) (I2.hok.fresh (b_ _))
 rcases q1 with⟨e1,q⟩|⟨o,e1,q⟩
 ·obtain⟨z,hd,xs,kt,o,es,ep,g1,g2,g3,g4,g5⟩:=(show ba X.prog X.w H1 s1.heap d (.dT kvs)from I1.hok d _ e1);refine key o (upd H1 d (.frz o (.dT kvs))) ?_ aO (q o _ Put.up);refine oj (h':=s1.heap) (t':=s1.toks) (ob:=.frz o (.dT kvs)) I1 (by rw[e1];exact Py) ⟨rfl,fun _ _=>rfl⟩ ⟨o,g1⟩ ⟨g1,z,hd,xs,KT.keeps kt fun c zs ec=>?_,o,es,ep,g1,g2,g3,g4,g5⟩;rw[aL (C3 ec e1 (fun z=>nomatch z))];exact ec
 exact key o H1 I1 e1 q
end L2
namespace PL
open PySem PySem.Spec PyProof.Rows L2
def kyI:Key->T
 | .inl i=>.int i
 | .inr (some s)=>.str s
 | .inr none=>.non
def kyT(k:List Key):T:=.tup (k.map kyI)
noncomputable def kpG(o:Obj)(d:N8)(vs:List (List Key×V)):Hp:=fun b=>if b=d then some (.frz o (.dT vs))else none
variable {vs:List (List Key×V)}
section
variable{K:N7}
theorem yx{H H2:Hp}{d:N8}{o:Obj}{ts:List (List Key×T)}{Γ:Fm}(h:Rp K H ((.dT false ts,some (.ref d))::Γ))(h1:H d=some (.dT vs)\/H d=some (.frz o (.dT vs)))(h2:H2 d=some (.frz o (.dT vs)))(h3:∀b,b≠d->H2 b=H b):Rp K H2 ((.kp (kpG o d vs),some .non)::(.dT false ts,some (.ref d))::Γ):=by
 obtain⟨Hz,N,h,nd,g,dj⟩:=h;have hz:∃w,Hz d=some w:=by
  cases h with
  |cons e h c=>
   rcases h with⟨z,_⟩|⟨v,ev,h⟩
   ·cases z
   cases ev;cases h with
   |dTZ r _=>exact Rd.some r
 let Z:Hp:=fun b=>if b=d then some (.frz o (.dT vs))else Hz b
 have zd:Z d=some (.frz o (.dT vs)):=if_pos rfl;have ze:∀b,b≠d->Z b=Hz b:=fun b hb=>if_neg hb;have gz:Gr Hz Z:=fun b u r=>by
  by_cases e:b=d
  ·subst e;rcases g b u r with q|⟨o',q⟩ <;> rcases h1 with h1|h1 <;> rw[h1]at q <;> cases q
   ·exact .inr ⟨o,zd⟩
   ·exact .inl zd
   exact .inr ⟨o,zd⟩
  unfold Rd at *;rw[ze b e];exact r
 have gh:Gr Z H2:=fun b u r=>by
  by_cases e:b=d
  ·subst e;unfold Rd at *;rw[zd]at r;rw[h2];exact r
  unfold Rd at r;rw[ze b e]at r;have:=g b u r;unfold Rd at *;rw[h3 b e];exact this
 have hd:∀b∈N,b≠d:=fun b m z=>by obtain⟨w,e⟩:=hz;rw[<-z,dj b m]at e;cases e
 refine⟨Z,[]++N,.cons rfl (.inr ⟨_,rfl,.kp fun b u r=>?_⟩) (h.move (fun b xs e=>?_) gz fun b m u e=>?_),nd,gh,fun b m=>?_⟩
 ·by_cases e:b=d
  ·subst e;unfold Rd kpG at r;rw[if_pos rfl]at r;unfold Rd;rw[zd];exact r
  unfold Rd kpG at r;rw[if_neg e]at r;rcases r with r|⟨_,r⟩ <;> cases r
 ·by_cases z:b=d
  ·subst z;rcases h1 with h1|h1 <;> rw[h1]at e <;> cases e
  rw[h3 b z];exact e
 ·rw[h3 b (hd b m)];exact⟨e,fun n=>n⟩
 have m:b∈N:=m;rw[ze b (hd b m)];exact dj b m
theorem sr{H:Hp}{Γ:Fm}:∀(k:List Key),Rp K H Γ->Rp K H (zz (k.map kyI) (k.map kV)++Γ)
 | [],h=>h
 | .inl _::r,h=>bI (sr r h) fun _=>.int
 | .inr (some _)::r,h=>bI (sr r h) fun _=>.str
 | .inr none::r,h=>bI (sr r h) fun _=>.non
theorem Ay{o:Obj}{d:N8}:ItOk K (Itf o d) (vs.map fun p=>kyT p.1) [(.kp (kpG o d vs),some .non)] where
 turn:=fun i t H Γ ei rp=>by
  have rd:Rd H d (.frz o (.dT vs)):=by
   obtain⟨Hz,N,h,_,g,_⟩:=rp;cases h with
   |cons e h c=>
    rcases h with⟨z,_⟩|⟨v,ev,h⟩
    ·cases z
    cases h with
    |kp gr=>exact g _ _ (gr d _ (.inl (if_pos rfl)))
  rw[z_]at ei;cases e:vs[i]? with
  |none=>rw[e]at ei;cases ei
  |some p=>
   rw[e]at ei;cases ei;refine⟨⟨vs,rd,(gV.mp e).1⟩,fun x H' hy=>?_⟩;obtain⟨rfl,hy⟩:=hy;obtain⟨k,w,b,e1,rfl,hb⟩:=hy vs rd;rw[e]at e1;cases e1;exact jl (ts:=k.map kyI) (vs:=k.map kV) (sr k rp) (by rw[a_,a_]) .bW hb
 stop:=fun H Γ rp=>by
  have rd:Rd H d (.frz o (.dT vs)):=by
   obtain⟨Hz,N,h,_,g,_⟩:=rp;cases h with
   |cons e h c=>
    rcases h with⟨z,_⟩|⟨v,ev,h⟩
    ·cases z
    cases h with
    |kp gr=>exact g _ _ (gr d _ (.inl (if_pos rfl)))
  exact⟨vs,rd,by rw[a_];exact b_ _⟩
end
noncomputable def F7(fe:PF):PIt:=fun env k=>fe env fun t env1=>match t with
 | .dT _ kvs=>k (kvs.map fun p=>kyT p.1) env1
 | _=>False
section
variable{X:Cx}{pos:Pos}{e tg:Ov}{fe:PF}
theorem xI(h:GE X e fe):GI X tg e (F7 fe):=by
 rintro pins s σ H R I ⟨env,Fr,k,rs,q,c⟩;refine A8 h pins s σ H R I ⟨env,Fr,_,rs,q,fun t env1 v H1 q1 rs1=>?_⟩;cases t <;> first|exact q1.elim|skip
 rename_i o ts;have rf:Rp X.K H1 ((.dT false (erT ts),some v)::(env1.zip σ++Fr)):=pM rs1.head;obtain⟨d,vs,rfl,hq,ek,rp2⟩:=pS rf;have ek2:ts.map (·.1)=vs.map (·.1):=by
  rw[<-ek];clear ek rf q1 rs1 rp2;induction ts with
  |nil=>rfl
  |cons a l ih=>rw[erT,f',f',ih]
 have e3:(ts.map fun p=>kyT p.1)=vs.map fun p=>kyT p.1:=by have:=congrArg (JV kyT) ek2;rw[F_,F_]at this;exact this
 have q1:k (ts.map fun p=>kyT p.1) env1:=q1;rw[e3]at q1;refine⟨d,vs,rfl,?_⟩;rcases hq with hq|⟨ob,hq⟩
 ·refine .inl ⟨hq,fun ob H2 p=>c _ _ _ [(.kp (kpG ob d vs),some .non)] _ q1 ?_ Ay⟩;have r:=yx (o:=ob) (H2:=H2) rf (.inl hq) p.at_ fun b hb=>p.else_ b hb;exact .of rs1.1 (r.perm (.swap _ _ _)).tail
 refine .inr ⟨ob,hq,c _ _ _ [(.kp (kpG ob d vs),some .non)] _ q1 ?_ Ay⟩;have r:=yx (o:=ob) (H2:=H1) rf (.inr hq) hq fun b hb=>rfl;exact .of rs1.1 (r.perm (.swap _ _ _)).tail
end
noncomputable def asD(t:T)[k:Th (List (List Key×T)->Prop)]:Prop:=match t with
 | .dT _ kvs=>k.v kvs
 | _=>False
theorem qp{o:Bool}{kvs:List (List Key×T)}{k:Th (List (List Key×T)->Prop)}:asD (.dT o kvs) (k:=k)=k.v kvs:=rfl
theorem gZ{env:Ev}{fe:PF}{ki:List T->Ev->Prop}:F7 fe env ki=fe env fun t env1=>asD t (k:=⟨fun kvs=>ki (kvs.map fun p=>kyT p.1) env1⟩):=by unfold F7 asD;refine congrArg (fe env) (funext fun t=>funext fun env1=>?_);cases t <;> rfl
end PL
namespace ZT
open PySem
abbrev Up(l:List Nat):Prop:=l.Pairwise (·<·)
theorem C1{l:List Nat}(h:Up l){i j:Nat}{x y:Nat}(hi:l[i]?=some x)(hj:l[j]?=some y)(hij:i<j):x<y:=by obtain⟨a,rfl⟩:=gV.mp hi;obtain⟨b,rfl⟩:=gV.mp hj;exact KY.mp h i j a b hij
theorem tX{xs:Array Nat}{j:Nat}(hu:Up xs.toList):∀(f lo hi:Nat),lo<=hi->hi<=xs.size->hi-lo<=f->(∀k x,k<lo->xs[k]?=some x->x<j)->(∀k x,hi<=k->xs[k]?=some x->j<=x)->
  Qy xs j f lo hi<=xs.size/\(∀k x,k<Qy xs j f lo hi->xs[k]?=some x->x<j)/\∀k x,Qy xs j f lo hi<=k->xs[k]?=some x->j<=x
 |0,lo,hi,h1,h2,h3,a,b=>by
  have e:lo=hi:=by omega
  subst e;exact⟨h2,a,b⟩
 |f+1,lo,hi,h1,h2,h3,a,b=>by
  unfold Qy;by_cases hl:lo<hi
  ·rw[if_pos hl];have hm:(lo+hi)/2<xs.size:=by omega
   have e:xs.getD ((lo+hi)/2) j=xs[(lo+hi)/2]:=by rw[G',l_ hm];rfl
   have em:xs.toList[(lo+hi)/2]?=some xs[(lo+hi)/2]:=by rw[f_];exact l_ hm
   dsimp only;rw[e];by_cases hx:xs[(lo+hi)/2]<j
   ·rw[if_pos hx];refine tX hu f _ _ (by omega) h2 (by omega) (fun k x hk ek=>?_) b;by_cases hk2:k=(lo+hi)/2
    ·subst hk2;rw[l_ hm]at ek;cases ek;exact hx
    exact Lq (C1 hu (by rw[f_];exact ek) em (by omega)) hx
   rw[if_neg hx];refine tX hu f _ _ (by omega) (by omega) (by omega) a fun k x hk ek=>?_
   by_cases hk2:k=(lo+hi)/2
   ·subst hk2;rw[l_ hm]at ek;cases ek;exact JC hx
   have:=C1 hu em (by rw[f_];exact ek) (by omega);omega
  rw[if_neg hl];have e:lo=hi:=by omega
  subst e;exact⟨h2,a,b⟩
variable {xs:Array Nat}
theorem qe(j:Nat)(hu:Up xs.toList):OJ xs j<=xs.size/\(∀k x,k<OJ xs j->xs[k]?=some x->x<j)/\∀k x,OJ xs j<=k->xs[k]?=some x->j<=x:=
 tX hu _ _ _ (E_ _) (b_ _) (by omega) (fun k x hk=>by omega) fun k x hk ek=>by rw[Kf hk]at ek;cases ek
theorem yQ{j:Nat}(hu:Up xs.toList)(hj:xs[OJ xs j]?≠some j):Up (OQ xs (OJ xs j) j).toList:=by
 obtain⟨h1,h2,h3⟩:=qe j hu;rw[Uq];have sp:xs.toList=xs.toList.take (OJ xs j)++xs.toList.drop (OJ xs j):=(Jw _ _).symm;have hu':=hu;rw[sp]at hu';obtain⟨p,q,r⟩:=C'.mp hu';have lt:∀x∈xs.toList.take (OJ xs j),x<j:=fun x hx=>by obtain⟨k,hk,e⟩:=Ka.mp hx;rw[G_]at hk;rw[List.getElem_take]at e;exact h2 k x (by omega) (by rw[<-f_,gV];exact⟨by omega,e⟩)
 have gt:∀x∈xs.toList.drop (OJ xs j),j<x:=fun x hx=>by
  obtain⟨k,hk,e⟩:=Ka.mp hx;rw[JL]at hk;rw[List.getElem_drop]at e;have e2:xs[OJ xs j+k]?=some x:=by rw[<-f_,gV];exact⟨by omega,e⟩
  refine Ld (h3 _ x (by omega) e2) fun z=>?_
  subst z;by_cases k0:k=0
  ·subst k0;exact hj e2
  have hb:OJ xs j<xs.size:=by rw[h_]at hk;omega
  have g:=C1 hu (i:=OJ xs j) (j:=OJ xs j+k) (by rw[f_];exact l_ hb) (by rw[f_];exact e2) (by omega);have:=h3 _ _ (b_ _) (l_ hb);omega
 exact C'.mpr ⟨p,Kn.mpr ⟨gt,q⟩,fun a ha b hb=>by
  rcases o_.mp hb with e|hb
  ·rw[e];exact lt a ha
  exact r a ha b hb⟩
theorem sN(j:Nat):Vk #[] j=false:=rfl
open PySem PyProof.Rows
section
variable{prog:Oj}{w:Ot}{A:OB}{E:N5->N9->Prop}{s:N9}
abbrev bt(w:Ot):Bool:=w.params.followText "set-order"
theorem stored{h:Ou}{a:N8}{o:Obj}{es:Array (Int×N5)}{ep:Nat}{t:Q4}{es':Array (Int×N5)}{t':Q4}(ho:h.get? a=some o)(hd:o.data=.set es ep t) :
  (h.update a (Ro es' t')).get? a=some {o with data:=.set es' (ep+1) t'}:=by
 have e:=Qc (Ro es' t') ho (by rw[putSet_of es' t' hd];rfl);rw[putSet_of es' t' hd]at e;exact e
end
open PySem PyProof.Rows
section
variable{prog:Oj}{w:Ot}{A:OB}{E:N5->N9->Prop}{s:N9}
abbrev nob(w:Ot):Obj:={ cls:=.type "set",dict:=none,data:=.set #[] 0 (.fresh 0 0 (!bt w)) }
theorem DF(a:N5){Q:N5->N9->Prop}(h:Q (.ref s.heap.objs.size) {s with heap:=s.heap.push (nob w) }):Qh (Oq prog w) A (.call (.builtin "set.__new__") ⟨[.type "set",a],[]⟩) (wants Q E) s:=by
 refine To ?_;show Of _ A.in1 (checkBuiltinCall "set.__new__" ⟨[.type "set",a],[]⟩ >>= fun _=>again (.builtin "set.__new__" ⟨[.type "set",a],[]⟩)) _ _ s;refine N6 (Q7 (F.newCall_set_1 a) (Oa ⟨Sg Tp _,P8 F.entry_set_new ?_⟩));rw[PU Tp _];unfold Qj.«set.__new__» T9;have hsub:=sub_set_self;obtain⟨hp,g,d,tk,os⟩:=s;dsimp only
 wp_walk
 refine wpAny_askSetting (Oa ?_);dsimp only;simp only[newObj];refine N6 (wpAny_alloc (Oa ?_));exact Oa h
end
end ZT
namespace PL
open PySem PySem.Spec PyProof.Rows L2
def Ht:PSt:=fun _ _=>False
section
variable{X:Cx}{pos:Pos}{e:Ov}{es:List Ov}{fe:PF}{fr:PFs}{m:PM}{name:Str}{id:String}{apos cpos spos xp yp kp vp p1 pos1:Pos}{x:Str}{κ:Nat->Bool}{kn:Nat}
theorem ot{st:OF}:GS κ X st Ht:=by rintro pins s σ H D I ⟨env,Fr,pe,rs,q,c⟩;exact q.elim
end
def wa:PM
 | .lst true _,[],k=>k (.lst true []) .non
 | _,_,_=>False
section
variable{X:Cx}{e:Ov}{es:List Ov}{fr:PFs}{m:PM}{name:Str}{id:String}{apos cpos spos xp yp:Pos}{x:Str}{kn:Nat}
theorem zK:MtP X "list.clear" wa:=by
 rintro pins s σ H x xs v us Q I rx r ⟨t,ts,Γ,k,l,rp,g,c⟩;unfold wa at g;split at g
 ·rename_i k ts;have:xs=[]:=by cases xs with|nil=>rfl|cons _ _=>cases l
  subst this;obtain⟨a,vs,ea,ha,la,rp2⟩:=iG rp;cases ea;have rp3:Rp X.K H ((.bare,some (.ref a))::(zz [] []++Γ)):=((rp2.perm i_.symm).part);exact Bd pins s σ H _ _ v us Q I rx r ⟨a,vs,rfl,rfl,ha,c _ _ _ _ g (bI (fO (ts:=[]) (vs:=[]) rp3 rfl Put.up) fun _=>.non)⟩
 exact Oz g
end
theorem d8{ts:List T}{k:T->T->Prop}:wa (.lst true ts) [] k=k (.lst true []) .non:=rfl
noncomputable def sO:P1s
 | [.lst _ ts],k=>got (rowsOf ts) fun ks=>k (.lst true ((pf ks).map iT))
 | _,_=>False
theorem jO{X:Cx}:fw X (.builtin "sorted") sO:=by
 rintro pins s σ H xs us Q I r ⟨ts,Γ,k,l,rp,g,c⟩;unfold sO at g;split at g
 ·rename_i k o ts;obtain⟨x,rfl⟩:=zz1 l rfl;have rp:Rp X.K H ((.lst o ts,some x)::Γ):=rp;obtain⟨a,vs,rfl,hq,l2,rp2⟩:=ir rp;obtain⟨ks,ek,kt⟩:=aI g;obtain⟨et,ne⟩:=jA ek;subst et;obtain⟨rv,ex⟩:=lV ne l2 rp2;refine lI pins s σ H _ us Q I r ⟨a,vs,ks,rfl,.inl hq,rv,fun zs ls rz mem pm sm p H' hp g' e'=>c _ _ _ kt ?_⟩;have es:ls=pf ks:=lW ZS.uw pm sm;rw[<-es];have rH:=xC (fun v hv b eb xs hs=>by obtain⟨b',k',e1,e2⟩:=ex v (mem v hv);rw[eb]at e1;cases e1;rw[e2,I.fP hs (SqT.of e2)]) rz
  obtain⟨rp3,l3⟩:=jr rH rp.tail;exact gB rp3 l3 hp g' e'
 exact Oz g
end PL
namespace ZV
open PySem
theorem pU:∀j:Nat,∃m,5 ^ 2 ^ j=1+2 ^ (j+2)*(2*m+1)
 |0=>⟨0,rfl⟩
 |j+1=>by
  obtain⟨m,e⟩:=pU j;refine⟨m+2 ^ j*((2*m+1)*(2*m+1)),?_⟩;rw[JA 2 j,NY,e,show j+1+2=j+3 from rfl,show(2:Nat) ^ (j+3)=2*2 ^ (j+2)from by rw[JA];exact Nat.mul_comm _ _,show(2:Nat) ^ (j+2)=4*2 ^ j from by rw[JA,JA];omega];generalize 2 ^ j=a;generalize hc:2*m+1=c;rw[show 2*(m+a*(c*c))+1=c+2*(a*(c*c)) by omega,Nat.pow_two];clear e hc
  grind
theorem nW{M x:Nat}(h:x%M=1%M):∀n,x ^ n%M=1%M
 |0=>rfl
 |n+1=>by rw[JA,L0,nW h n,h,<-L0]
theorem vH:∀(k n:Nat),5 ^ n%2 ^ (k+2)=1->2 ^ k ∣ n
 |0,n,_=>Nat.one_dvd _
 |k+1,n,h=>by
  have h0:5 ^ n%2 ^ (k+2)=1:=by have:5 ^ n%2 ^ (k+1+2)%2 ^ (k+2)=5 ^ n%2 ^ (k+2):=Nat.mod_mod_of_dvd _ ⟨2,by rw[<-JA]⟩;rw[h]at this;rw[<-this];exact ME (Nd (by omega))
  obtain⟨q,rfl⟩:=vH k n h0;rcases Nat.mod_two_eq_zero_or_one q with e|e
  ·obtain⟨r,rfl⟩:=MU e;exact⟨r,by rw[JA,L5]⟩
  exfalso;obtain⟨m,em⟩:=pU k;obtain⟨r,rfl⟩:∃r,q=2*r+1:=⟨q/2,by omega⟩;have s2:5 ^ 2 ^ (k+1)%2 ^ (k+3)=1%2 ^ (k+3):=by obtain⟨m',e'⟩:=pU (k+1);rw[e',show k+1+2=k+3 from rfl,KZ]
  have e1:5 ^ (2 ^ k*(2*r+1))=(5 ^ 2 ^ (k+1)) ^ r*5 ^ 2 ^ k:=by rw[<-NY,<-NZ];congr 1;rw[N0,Nl,JA,L5]
  have h1:5 ^ (2 ^ k*(2*r+1))%2 ^ (k+3)=1:=h;rw[e1,L0,nW s2 r,<-L0,N1,em,show(2:Nat) ^ (k+3)=2 ^ (k+2)*2 from JA ..]at h1;have p:0<2 ^ (k+2):=JT _;have:(1+2 ^ (k+2)*(2*m+1))%(2 ^ (k+2)*2)=1+2 ^ (k+2):=by
   rw[show 1+2 ^ (k+2)*(2*m+1)=1+2 ^ (k+2)+2 ^ (k+2)*2*m by rw[N0,Nl,L5];omega,KZ];refine ME ?_;have:4<=2 ^ (k+2):=by rw[JA,JA];have:=JT k;omega
   omega
  omega
def lp(k:Nat):Nat->Nat->Nat
 |0,i=>i
 |n+1,i=>lp k n ((i*5+1)%2 ^ k)
theorem EB{k:Nat}:∀{n i:Nat},i<2 ^ k->lp k n i<2 ^ k
 |0,_,h=>h
 |n+1,i,_=>EB (n:=n) (i:=(i*5+1)%2 ^ k) (Mc _ (JT k))
theorem sW{k:Nat}:∀(n i:Nat),(4*lp k n i+1)%2 ^ (k+2)=5 ^ n*(4*i+1)%2 ^ (k+2)
 |0,i=>by rw[NO,N1];rfl
 |n+1,i=>by
  have e:(4*((i*5+1)%2 ^ k)+1)%2 ^ (k+2)=5*(4*i+1)%2 ^ (k+2):=by
   rw[show(2:Nat) ^ (k+2)=4*2 ^ k from by rw[JA,JA];omega];have d:=Nat.div_add_mod (i*5+1) (2 ^ k);rw[show 5*(4*i+1)=4*((i*5+1)%2 ^ k)+1+4*2 ^ k*((i*5+1)/2 ^ k) by rw[L5];omega,KZ]
  rw[lp,sW n,L0,e,<-L0,show 5 ^ (n+1)=5 ^ n*5 from JA ..,L5]
variable {i:Nat}
theorem Al{k:Nat}:∀{m n:Nat},m<=n->n<2 ^ k->lp k m i=lp k n i->m=n:=by
 intro m n hmn hn h;have f1:=sW (k:=k) m i;have f2:=sW (k:=k) n i;rw[h]at f1;have e:5 ^ m*(4*i+1)%2 ^ (k+2)=5 ^ n*(4*i+1)%2 ^ (k+2):=f1.symm.trans f2;obtain⟨d,rfl⟩:∃d,n=m+d:=⟨n-m,by omega⟩;have le:5 ^ m*(4*i+1)<=5 ^ (m+d)*(4*i+1):=Nat.mul_le_mul_right _ (M6 (by decide) hmn);have dv:2 ^ (k+2) ∣ 5 ^ (m+d)*(4*i+1)-5 ^ m*(4*i+1):=MU (Nat.sub_mod_eq_zero_of_mod_eq e.symm);have ee:5 ^ (m+d)*(4*i+1)-5 ^ m*(4*i+1)=5 ^ m*(4*i+1)*(5 ^ d-1):=by rw[Nat.mul_sub,Nl,NZ,Nat.mul_right_comm]
 rw[ee]at dv;have co:Nat.Coprime (2 ^ (k+2)) (5 ^ m*(4*i+1)):=by refine Nat.Coprime.pow_left _ (Nat.Coprime.mul_right (Nat.Coprime.pow_right _ (by decide)) ?_);show Nat.gcd 2 (4*i+1)=1;rw[Nat.gcd_rec,show(4*i+1)%2=1 by omega];exact Nat.gcd_one_left 2
 have dd:=co.dvd_of_dvd_mul_left dv;have p5:0<5 ^ d:=Nat.pow_pos (by decide);have m1:5 ^ d%2 ^ (k+2)=1:=by obtain⟨c,hc⟩:=dd;rw[show 5 ^ d=1+2 ^ (k+2)*c by omega,KZ];exact ME (Nd (by omega))
 obtain⟨c,hc⟩:=vH k d m1;cases c with
 |zero=>omega
 |succ c=>
  have:2 ^ k<=d:=by rw[hc,NP];omega
  omega
variable {α:Type}
theorem EG{l m:List α}(nd:l.Nodup)(h:∀z∈l,z∈m):l.length<=m.length:=by
 haveI:DecidableEq α:=fun a b=>Uv (a=b)
 induction l generalizing m with
 |nil=>exact E_ _
 |cons a l ih=>
  obtain⟨n1,n2⟩:=D'.mp nd;have hm:a∈m:=h a n_;have:=ih (m:=m.erase a) n2 fun z hz=>(M7 (fun e:z=a=>n1 (by rw[<-e];exact hz))).mpr (h z (j_ _ hz))
  rw[MF hm]at this;have:=MV hm;rw[d_];omega
theorem FH{N:Nat}:∀{l:List Nat},l.Nodup->(∀x∈l,x<N)->N<=l.length->∀j,j<N->j∈l:=by
 intro l nd h hl j hj;refine PV fun hn=>?_;have sub:∀x∈j::l,x∈u_ N:=fun x m=>B'.mpr ((o_.mp m).elim (fun e=>by rw[e];exact hj) (h x))
 have nd2:(j::l).Nodup:=D'.mpr ⟨hn,nd⟩;have:=EG nd2 sub;rw[d_,JH]at this;omega
variable {j:Nat}
theorem FU{k:Nat}(hi:i<2 ^ k)(hj:j<2 ^ k):∃n,n<2 ^ k/\lp k n i=j:=by
 have nd:((u_ (2 ^ k)).map fun n=>lp k n i).Nodup:=by
  refine JX.mpr (Kr (fun{a b} ha hb hab e=>?_) MG);have ha:=B'.mp ha;have hb:=B'.mp hb;rcases Nat.le_total a b with h|h
  ·exact hab (Al h hb e)
  exact hab (Al h ha e.symm).symm
 have:=FH nd (fun x m=>by obtain⟨n,_,rfl⟩:=t_.mp m;exact EB hi) (by rw[a_,JH];exact b_ _) j hj;obtain⟨n,hn,e⟩:=t_.mp this;exact⟨n,B'.mp hn,e⟩
noncomputable def hd(k:Nat):Nat->Nat->Nat->Nat
 |0,i,_=>i
 |n+1,i,p=>hd k n ((i*5+1+p/32)%2 ^ k) (p/32)
theorem HW{k:Nat}:∀{n i:Nat},hd k n i 0=lp k n i
 |0,_=>rfl
 |n+1,i=>by show hd k n ((i*5+1+0/32)%2 ^ k) (0/32)=lp k n ((i*5+1)%2 ^ k);rw[Nat.zero_div,LH,HW]
theorem xg{k j:Nat}(hj:j<2 ^ k):∀{m i p:Nat},p<32 ^ m->i<2 ^ k->∃n,n<m+2 ^ k/\hd k n i p=j
 |0,i,p,hp,hi=>by
  have e:p=0:=by rw[NO]at hp;omega
  subst e;obtain⟨n,hn,e⟩:=FU hi hj;exact⟨n,by omega,by rw[HW,e]⟩
 |m+1,i,p,hp,hi=>by obtain⟨n,hn,e⟩:=xg hj (m:=m) (i:=(i*5+1+p/32)%2 ^ k) (p:=p/32) (by rw[JA]at hp;omega) (Mc _ (JT k));exact⟨n+1,by omega,e⟩
open PySem ZT
variable {p:O2}
section
variable{t:Q4}{k:Nat}
def adv(t:Q4):Nat->O2->O2
 |0,p=>p
 |n+1,p=>adv t n (t.advance p)
structure GoP (k:Nat) (p:O2):Prop where
 i:p.i<2 ^ k
 more:p.more<=9
 pb:p.perturb<32 ^ 13
 no:p.dummy=none
theorem Ae{mask:Nat}:QT mask i-i<=9:=by unfold QT;split <;> omega
theorem yf{h:Int}:Pn h<32 ^ 13:=by unfold Pn;have:=Le h (show(0:Int)<2 ^ 64 by decide);have:=LD h (show((2:Int) ^ 64)≠0 by decide);omega
theorem vL(hm:t.mask+1=2 ^ k)(h:Int):GoP k (t.probeStart h):=⟨by show Pn h%(t.mask+1)<2 ^ k;rw[hm];exact Mc _ (JT k),Ae,yf,rfl⟩
theorem F6(hm:t.mask+1=2 ^ k)(g:GoP k p):GoP k (t.advance p):=by
 unfold QJ;split
 ·exact⟨g.i,m_ (JQ _ _) g.more,g.pb,g.no⟩
 refine⟨?_,Ae,JK (NC _ _) g.pb,g.no⟩;show(p.i*5+1+p.perturb/32)%(t.mask+1)<2 ^ k;rw[hm];exact Mc _ (JT k)
theorem oO(hm:t.mask+1=2 ^ k):∀{m:Nat}{p:O2},p.more=m->∃q,adv t (m+1) p=q/\q.j=q.i/\q.i=(p.i*5+1+p.perturb/32)%2 ^ k/\q.perturb=p.perturb/32
 |0,p,e=>by refine⟨_,rfl,?_⟩;show(t.advance p).j=(t.advance p).i/\(t.advance p).i=_/\(t.advance p).perturb=_;unfold QJ;rw[if_neg (by omega)];refine⟨rfl,?_,rfl⟩;show(p.i*5+1+p.perturb/32)%(t.mask+1)=_;rw[hm]
 |m+1,p,e=>by
  have e1:t.advance p={p with j:=p.j+1,more:=p.more-1}:=by unfold QJ;rw[if_pos (by omega)]
  obtain⟨q,h1,h2⟩:=oO hm (m:=m) (p:=t.advance p) (by rw[e1];show p.more-1=m;omega);refine⟨q,h1,?_⟩;rw[e1]at h2;exact h2
theorem xM{a b:Nat}:∀{p:O2},adv t (a+b) p=adv t b (adv t a p):=by
 induction a with
 |zero=>intro p;rw[Kq];rfl
 |succ a ih=>intro p;rw[Nat.succ_add];exact ih
theorem sT(hm:t.mask+1=2 ^ k):∀{n:Nat}{p:O2},GoP k p->GoP k (adv t n p)
 |0,_,g=>g
 |n+1,_,g=>sT hm (n:=n) (F6 hm g)
theorem Am(hm:t.mask+1=2 ^ k):∀{n:Nat}{p:O2},GoP k p->∃M,M<=10*(n+1)/\(adv t M p).j=hd k (n+1) p.i p.perturb
 |0,p,g=>by obtain⟨q,h1,h2,h3,h4⟩:=oO hm (p:=p) rfl;exact⟨p.more+1,by have:=g.more;omega,by rw[h1,h2,h3];rfl⟩
 |n+1,p,g=>by
  obtain⟨q,h1,h2,h3,h4⟩:=oO hm (p:=p) rfl;have gq:GoP k q:=by rw[<-h1];exact sT hm g
  obtain⟨M,hM,e⟩:=Am hm (n:=n) gq;refine⟨p.more+1+M,by have:=g.more;omega,?_⟩;rw[xM,h1,e,h3,h4]
  rfl
theorem Gn(hm:t.mask+1=2 ^ k)(g:GoP k p)(hj:j<2 ^ k):∃M,M<=10*(13+2 ^ k)/\(adv t M p).j=j:=by obtain⟨n,hn,e⟩:=xg hj (m:=13) (i:=(p.i*5+1+p.perturb/32)%2 ^ k) (p:=p.perturb/32) (JK (NC _ _) g.pb) (Mc _ (JT k));obtain⟨M,hM,e2⟩:=Am hm (n:=n) g;exact⟨M,by omega,e2.trans e⟩
theorem CQ(hm:t.mask+1=2 ^ k)(hu:Up t.place.toList)(hn:t.dummies=#[])(hf:t.place.size<=t.mask):∃j,j<2 ^ k/\t.slot j=.empty:=by
 refine PV fun hc=>?_;have all:∀j∈u_ (2 ^ k),j∈t.place.toList:=fun j mj=>by refine PV fun nj=>hc ⟨j,B'.mp mj,?_⟩;unfold Rg;dsimp only;rw[if_neg,hn,sN,if_neg C_];intro z;exact nj (F' (by rw[f_];exact eq_of_beq z))
 have:=EG MG all;rw[JH,h_]at this;omega
theorem reach(hm:t.mask+1=2 ^ k)(hu:Up t.place.toList)(hn:t.dummies=#[])(hf:t.place.size<=t.mask)(g:GoP k p):∃M,M<10*Pq t.mask/\t.slot (adv t M p).j=.empty:=by obtain⟨j,hj,e⟩:=CQ hm hu hn hf;obtain⟨M,hM,e2⟩:=Gn hm g hj;exact⟨M,by unfold Pq;omega,by rw[e2];exact e⟩
theorem CP(hn:t.dummies=#[])(j:Nat):t.slot j≠.dummy:=by
 unfold Rg;dsimp only;split
 ·exact fun z=>by cases z
 rw[hn,sN,if_neg C_];exact fun z=>by cases z
theorem vD(hn:t.dummies=#[]){hashAt:Nat->Int}{h:Int}:∀{M:Nat}{p:O2}{f:Nat},p.dummy=none->t.slot (adv t M p).j=.empty->M<f->
  (∃j,Rk t hashAt h f p=some (.empty j none)/\t.slot j=.empty)\/∃m i,m<M/\Rk t hashAt h f p=some (.candidate (adv t m p).j i (adv t (m+1) p))/\t.slot (adv t m p).j=.live i/\hashAt i=h
 |M,p,0,_,_,l=>absurd l (LB _)
 |M,p,f+1,nd,e,l=>by
  unfold Rk;cases hs:t.slot p.j with
  |empty=>exact .inl ⟨p.j,by rw[nd],hs⟩
  |dummy=>exact absurd hs (CP hn _)
  |live i=>
   dsimp only;cases M with
   |zero=>rw[show adv t 0 p=p from rfl,hs]at e;cases e
   |succ M=>
    by_cases hh:(hashAt i == h)=true
    ·rw[if_pos hh];exact .inr ⟨0,i,NQ _,rfl,hs,eq_of_beq hh⟩
    rw[if_neg hh];have nd':(t.advance p).dummy=none:=by unfold QJ;split <;> exact nd
    rcases vD hn (M:=M) (p:=t.advance p) (f:=f) nd' e (L3 l)with h1|⟨m,i',hm,h1,h2,h3⟩
    ·exact .inl h1
    exact .inr ⟨m+1,i',Nat.succ_lt_succ hm,h1,h2,h3⟩
end
open PySem ZT
variable {owner:Array (Option Nat)}
section
variable{k mask:Nat}
theorem yN(hm:mask+1=2 ^ k){owner:Array (Option Nat)}:∀{n i p f:Nat},owner.getD (hd k n i p) (some 0)=none->n<f->∃j,P9 mask owner f i p=some j/\owner.getD j (some 0)=none
 |n,i,p,0,_,l=>absurd l (LB _)
 |n,i,p,f+1,e,l=>by
  unfold P9;cases hf:(u_ (QT mask i+1-i)).find? fun x=>(owner.getD (i+x) (some 0)).isNone with
  |some x=>
   have:=ND hf;exact⟨i+x,rfl,Option.isNone_iff_eq_none.mp this⟩
  |none=>
   dsimp only;cases n with
   |zero=>
    have:=Nf.mp hf 0 (B'.mpr (by unfold QT;split <;> omega));rw[LH,show owner.getD i (some 0)=none from e]at this;exact absurd rfl this
   |succ n=>
    have e':owner.getD (hd k n ((i*5+1+p/32)%(mask+1)) (p/32)) (some 0)=none:=by rw[hm];exact e
    exact yN hm e' (L3 l)
theorem vf{α:Type}{p q:α->Bool}{j:α}(hp:p j=false)(hq:q j=true)(he:∀x,x≠j->q x=p x):∀{l:List α},l.Nodup->j∈l->(l.filter q).length=(l.filter p).length+1
 | [],_,m=>by cases m
 |x::l,nd,m=>by
  obtain⟨n1,n2⟩:=D'.mp nd;by_cases h:x=j
  ·subst h;rw[JN,JN,hp,hq,if_pos rfl,if_neg C_,d_];congr 2;exact Mw fun y hy=>he y fun z=>n1 (by rw[<-z];exact hy)
  have ih:=vf hp hq he n2 ((o_.mp m).resolve_left fun z=>h z.symm);rw[JN,JN,he x h];split
  ·rw[d_,d_,ih]
  exact ih
structure Own (k:Nat) (owner:Array (Option Nat)) (c:Nat):Prop where
 sz:owner.size=2 ^ k
 cnt:((u_ (2 ^ k)).filter fun j=>(owner.getD j none).isSome).length=c
 lt:∀j x,owner.getD j none=some x->x<c
theorem IG:Own k (Array.replicate (2 ^ k) none) 0 where
 sz:=Array.size_replicate
 cnt:=by rw[List.length_eq_zero_iff,List.filter_eq_nil_iff];intro j hj;rw[G',MI];split <;> exact C_
 lt:=fun j x e=>by rw[G',MI]at e;split at e <;> cases e
theorem BW{c:Nat}(o:Own k owner c)(hc:c<2 ^ k):∃j,j<2 ^ k/\owner.getD j (some 0)=none:=by
 refine PV fun hn=>?_;have all:((u_ (2 ^ k)).filter fun j=>(owner.getD j none).isSome)=u_ (2 ^ k):=by
  refine M'.mpr fun j mj=>?_;have hj:=B'.mp mj;cases h:owner.getD j none with
  |some x=>rfl
  |none=>
   refine absurd ⟨j,hj,?_⟩ hn;have hs:j<owner.size:=by rw[o.sz];exact hj
   rw[G',l_ hs]at h ⊢;exact h
 have:=o.cnt;rw[all,JH]at this;omega
theorem Dn{c:Nat}(o:Own k owner c)(e:owner.getD j (some 0)=none):Own k (owner.setIfInBounds j (some c)) (c+1):=by
 have hs:j<owner.size:=by refine MB fun z=>?_;rw[G',Kf z]at e;cases e
 have e0:owner.getD j none=none:=by rw[G',l_ hs]at e ⊢;exact e
 have g1:(owner.setIfInBounds j (some c)).getD j none=some c:=by
  rw[G',Array.getElem?_setIfInBounds_self_of_lt hs]
  rfl
 have g2:∀x,x≠j->(owner.setIfInBounds j (some c)).getD x none=owner.getD x none:=fun x hx=>by rw[G',G',Array.getElem?_setIfInBounds_ne (Qs hx)]
 refine⟨by rw[LJ];exact o.sz,?_,fun x y h=>?_⟩
 ·rw[vf (p:=fun x=>(owner.getD x none).isSome) (j:=j) (by rw[e0];rfl) (by rw[g1];rfl) (fun x hx=>by rw[g2 x hx]) MG (B'.mpr (by rw[<-o.sz];exact hs)),o.cnt]
 by_cases z:x=j
 ·rw[z,g1]at h;cases h;exact Nu _
 rw[g2 x z]at h;exact Ln (o.lt x y h)
theorem uA(hm:mask+1=2 ^ k):∀(hs:List Int) {owner:Array (Option Nat)}{c:Nat},Own k owner c->c+hs.length<2 ^ k->
  ∃owner',Own k owner' (c+hs.length)/\hs.foldl (fun(acc:Option (Array (Option Nat)×Nat)) h=>do
   let (owner,k) <-acc
   let j <-P9 mask owner (Pq mask) (Pn h%(mask+1)) (Pn h)
   pure (owner.setIfInBounds j (some k),k+1)) (some (owner,c))=some (owner',c+hs.length)
 | [],owner,c,o,_=>⟨owner,o,rfl⟩
 |h::hs,owner,c,o,l=>by rw[d_]at l;obtain⟨j,hj,e⟩:=BW o (by omega);obtain⟨n,hn,eh⟩:=xg hj (m:=13) (i:=Pn h%(mask+1)) (p:=Pn h) yf (by rw[hm];exact Mc _ (JT k));obtain⟨j',e1,e2⟩:=yN hm (owner:=owner) (n:=n) (f:=Pq mask) (by rw[eh];exact e) (by unfold Pq;omega);obtain⟨o',h1,h2⟩:=uA hm hs (Dn o e2) (by omega);refine⟨o',by rw[d_,<-La,Mj];exact h1,?_⟩;rw[MQ];show hs.foldl _ ((P9 mask owner (Pq mask) (Pn h%(mask+1)) (Pn h)).bind fun j=>some (owner.setIfInBounds j (some c),c+1))=_;rw[e1];rw[d_,<-La,Mj];exact h2
theorem pN{α β:Type}{f:α->Option β}:∀{l:List α},(l.filterMap f).length=(l.filter fun x=>(f x).isSome).length
 | []=>rfl
 |x::l=>by
  rw[Ly,JN];cases h:f x with
  |none=>exact pN
  |some y=>
   show(y::l.filterMap f).length=(x::_).length;rw[d_,d_,pN]
theorem E3(hm:mask+1=2 ^ k){f m:Nat}{led plain:Bool}{hs:Array Int}(hl:hs.size<=mask):∃t order,T_ mask f m led plain hs=some (t,order)/\t.mask=mask/\t.dummies=#[]/\t.led=led/\Up t.place.toList/\t.place.size=hs.size/\order.size=hs.size/\∀x∈order.toList,x<hs.size:=by
 obtain⟨owner,o,e⟩:=uA hm hs.toList (IG (k:=k)) (by rw[h_];omega);rw[Kq,h_]at o e;have e2:SG mask hs=some owner:=by
  unfold SG;rw[<-Array.foldl_toList,hm];rw[hm]at e;rw[e]
  rfl
 unfold T_;rw[e2];refine⟨_,_,rfl,rfl,rfl,rfl,?_,?_,?_,?_⟩
 ·show Up (((u_ (mask+1)).filterMap fun j=>(owner.getD j none).map (j,·)).map (·.1));refine JX.mpr (List.pairwise_filterMap.mpr (List.pairwise_lt_range.imp fun{a b} hab x hx y hy=>?_));obtain⟨u,_,rfl⟩:=Lg.mp hx;obtain⟨v,_,rfl⟩:=Lg.mp hy;exact hab
 ·show(((u_ (mask+1)).filterMap fun j=>(owner.getD j none).map (j,·)).map (·.1)).length=_;rw[a_,pN,<-o.cnt,hm];congr 1;refine Mw fun j _=>?_;rw[Mu]
 ·show(((u_ (mask+1)).filterMap fun j=>(owner.getD j none).map (j,·)).map (·.2)).length=_;rw[a_,pN,<-o.cnt,hm];congr 1;refine Mw fun j _=>?_;rw[Mu]
 intro x hx;obtain⟨⟨j,y⟩,hy,rfl⟩:=t_.mp hx;obtain⟨j',_,h⟩:=LF.mp hy;obtain⟨v,hv,e⟩:=Lg.mp h;cases e;exact o.lt _ _ hv
theorem vG{n:Nat}:∀(f a:Nat),n<2 ^ (a+f)->∃b,a<=b/\R0 n f (2 ^ a)=2 ^ b/\n<2 ^ b/\(b=a\/2 ^ b<=2*n)
 |0,a,h=>⟨a,b_ _,rfl,h,.inl rfl⟩
 |f+1,a,h=>by
  unfold R0;by_cases c:2 ^ a<=n
  ·rw[if_pos c,<-JA];obtain⟨b,h1,h2,h3,h4⟩:=vG f (a+1) (by rw[Mj];exact h);refine⟨b,by omega,h2,h3,.inr ?_⟩;rcases h4 with rfl|h4
   ·rw[JA];omega
   exact h4
  rw[if_neg c];exact⟨a,b_ _,rfl,by omega,.inl rfl⟩
theorem Bc{n:Nat}(h:n<1000000):∃b,PJ n=2 ^ b/\3<=b/\n<2 ^ b/\(b=3\/2 ^ b<=2*n):=by obtain⟨b,h1,h2,h3,h4⟩:=vG (n:=n) 64 3 (s_ h (by decide));exact⟨b,h2,h1,h3,h4⟩
end
open PySem ZT PyProof.Rows
variable {Q:Bool->N9->Prop}{b:N8}{h h':Ou}
section
variable{prog:Oj}{w:Ot}{A:OB}{E:N5->N9->Prop}{s:N9}
noncomputable def TI(h:Ou)(row:List Int)(b:N8):Prop:=∃o n,∃ps:List (Int×Tok),h.get? b=some o/\o.cls=.type "tuple"/\o.data=.seq (ps.map fun p=>O5 p.1 p.2).toArray n/\ps.map (·.1)=row
theorem fN:∀{ps:List (Int×Tok)},ItemsAre (UM prog w) (ps.map (·.1)) (ps.map fun p=>O5 p.1 p.2)
 | []=>.nil
 |p::ps=>.cons (intKind_is _ _ _ _) fN
theorem TI.key {row:List Int}(x:TI h row b):IsTupleKey (UM prog w) h row b:=by obtain⟨o,n,ps,h1,h2,h3,rfl⟩:=x;exact⟨o,_,n,h1,h2,h3,fN⟩
theorem TI.at {row:List Int}(x:TI h row b)(k:∀o,h.get? b=some o->h'.get? b=some o):TI h' row b:=let ⟨o,n,ps,h1,r⟩:=x;⟨o,n,ps,k o h1,r⟩
theorem ve{row:List Int}(x:TI s.heap row b)(q:Q false s):Of (Oq prog w) A (Qz 8 (.ref b)) Q E s:=by
 have hT:=(x.key (prog:=prog) (w:=w)).typeIs;obtain⟨o,n,ps,h1,h2,h3,h4⟩:=x;unfold Qz;refine N6 (wpAny_typeOf hT ?_);dsimp only;refine N6 (Oa ?_);rw[if_neg (by decide)];refine N6 (O8 h1 h3 ?_);refine N6 ?_;show Of _ _ (forIn (ps.map fun p=>O5 p.1 p.2).toArray _ _) _ _ s;rw[<-Ng];refine RB _ (fun rest r s'=>r.1=none/\s'=s/\∀v∈rest,∃i t,v=O5 i t) _ ?_ ?_ _ _ ⟨rfl,rfl,fun v hv=>?_⟩
 ·rintro v rest r s' ⟨hr,rfl,hall⟩;obtain⟨i,t,rfl⟩:=hall v n_;refine N6 (?_:Of _ _ (Qz 7 (.int i t)) _ _ _);unfold Qz;refine Oa ?_;simp only[Jv,if_false];exact Oa ⟨rfl,rfl,fun u hu'=>hall u (j_ _ hu')⟩
 ·rintro⟨r1,r2⟩ s' ⟨hr,rfl,_⟩;simp only at hr;subst hr;exact Oa q
 obtain⟨p,_,rfl⟩:=t_.mp (show v∈ps.map fun p=>O5 p.1 p.2 from hv);exact⟨_,_,rfl⟩
theorem Bh{row:List Int}(x:TI s.heap row b)(q:Q true s):Of (Oq prog w) A (RS 8 (.ref b)) Q E s:=by
 have hT:=(x.key (prog:=prog) (w:=w)).typeIs;obtain⟨o,n,ps,h1,h2,h3,h4⟩:=x;unfold RS;refine N6 (RG hT F.slot_tuple_hash.lookup ?_);dsimp only;refine N6 (O8 h1 h3 ?_);refine N6 ?_;show Of _ _ (forIn (ps.map fun p=>O5 p.1 p.2).toArray _ _) _ _ s;rw[<-Ng];refine RB _ (fun rest r s'=>r.1=none/\s'=s/\∀v∈rest,∃i t,v=O5 i t) _ ?_ ?_ _ _ ⟨rfl,rfl,fun v hv=>?_⟩
 ·rintro v rest r s' ⟨hr,rfl,hall⟩;obtain⟨i,t,rfl⟩:=hall v n_;refine N6 (?_:Of _ _ (RS 7 (.int i t)) _ _ _);unfold RS;refine Oa ?_;simp only[Mr,Jv,if_false];exact Oa ⟨rfl,rfl,fun u hu'=>hall u (j_ _ hu')⟩
 ·rintro⟨r1,r2⟩ s' ⟨hr,rfl,_⟩;simp only at hr;subst hr;exact Oa q
 obtain⟨p,_,rfl⟩:=t_.mp (show v∈ps.map fun p=>O5 p.1 p.2 from hv);exact⟨_,_,rfl⟩
theorem BM{row:List Int}(x:TI s.heap row b){vs:List N5}(hv:∀v∈vs,∃c r,v=.ref c/\TI s.heap r c)(q:Q false s):Of (Oq prog w) A (SH (.ref b) vs) Q E s:=by
 unfold SH;refine N6 ?_;refine RB _ (fun rest r s'=>r.1=none/\s'=s/\∀v∈rest,∃c r,v=.ref c/\TI s.heap r c) _ ?_ ?_ _ _ ⟨rfl,rfl,hv⟩
 ·rintro v rest r s' ⟨hr,rfl,hall⟩;obtain⟨c,r',rfl,y⟩:=hall v n_;dsimp only;have fin:(none:Option Bool)=none/\s'=s'/\∀v∈rest,∃c r,v=.ref c/\TI s'.heap r c:=⟨rfl,rfl,fun u hu'=>hall u (j_ _ hu')⟩;refine QU (fun _=>Oa fin) (fun _=>?_);refine N6 (R1 (x.key (prog:=prog) (w:=w)) ?_);rw[if_neg (by decide)];refine N6 (R1 (y.key (prog:=prog) (w:=w)) ?_);rw[if_neg (by decide)];refine N6 (ve x ?_);rw[if_neg (by decide)];refine N6 (ve y ?_);rw[if_neg (by decide)];exact Oa fin
 rintro⟨r1,r2⟩ s' ⟨hr,rfl,_⟩;simp only at hr;subst hr;exact Oa q
end
open PySem ZT PyProof.Rows
section
variable{prog:Oj}{w:Ot}{A:OB}{E:N5->N9->Prop}{s:N9}
structure SV (L:Nat) (h:Ou) (o:Obj) (es:Array (Int×N5)) (ep:Nat) (t:Q4) (k:Nat) (S:List (List Int)):Prop where
 ex:o.ExactSet
 dat:o.data=.set es ep t
 k3:3<=k
 pw:t.mask+1=2 ^ k
 up:Up t.place.toList
 no:t.dummies=#[]
 pl:t.place.size=es.size
 nf:es.size*5<t.mask*3
 ub:t.mask+1<=8*es.size+8
 sz:es.size=S.length
 el:∀e∈es.toList,∃b row,e.2=.ref b/\row∈S/\b<L/\TI h row b
variable{L:Nat}{a b:N8}{o:Obj}{es:Array (Int×N5)}{ep k:Nat}{t:Q4}{S:List (List Int)}{row:List Int}
theorem SV.ft (V:SV L h o es ep t k S):t.fits es.size=true:=by unfold T' Rh;rw[V.pl,V.no,beq_self_eq_true,JI];refine decide_eq_true ?_;show es.size+0<=t.mask;have:=V.nf;omega
theorem SV.way (V:SV L h o es ep t k S):t.gaveWay=false:=by
 unfold Vd;have:t.mask%2=1:=by have h1:=V.pw;have h3:=V.k3;obtain⟨j,rfl⟩:∃j,k=j+1:=⟨k-1,by omega⟩;rw[JA]at h1;omega
 rw[this]
 rfl
theorem yT(h:t.slot j=.live i):t.place[i]?=some j:=by
 unfold Rg at h;dsimp only at h;split at h
 ·rename_i e;cases h;exact eq_of_beq e
 split at h <;> cases h
theorem rK(ho:s.heap.get? a=some o)(V:SV L s.heap o es ep t k S)(hx:TI s.heap row b)(hn:row ∉ S)(hu:A.units<cLine){hs:Int}{Q:SetFound->N9->Prop}(q:∀j,t.slot j=.empty->Q (.free j false) s) :
  ∀{f M:Nat}{st:Option O2},GoP k (st.getD (t.probeStart hs))->t.slot (adv t M (st.getD (t.probeStart hs))).j=.empty->M<10*Pq t.mask->M<f->Of (Oq prog w) A (Ua a (.ref b) hs true f st) Q E s
 |0,M,st,_,_,_,l=>absurd l (LB _)
 |f+1,M,st,g,e,lt,l=>by
  unfold Ua;refine N6 (Qa ho V.dat V.ft ?_);dsimp only;rw[V.way,if_neg C_];have pg:=vD V.no (hashAt:=fun i=>(es[i]?.map (·.1)).getD 0) (h:=hs) g.no e lt;split
  ·rename_i met heq;rcases pg with⟨j,h1,h2⟩|⟨m,i,hm,h1,h2,h3⟩
   ·have z:some met=some (U9 j none):=heq.symm.trans h1;cases z;exact Oa (q j h2)
   have z:some met=some (UL (adv t m (st.getD (t.probeStart hs))).j i (adv t (m+1) (st.getD (t.probeStart hs)))):=heq.symm.trans h1;cases z;clear heq h1;have pi:=yT h2;have hi:i<es.size:=by rw[<-V.pl];exact(Lx.mp pi).1
   obtain⟨⟨h',y⟩,ei⟩:∃p,es[i]?=some p:=⟨_,l_ hi⟩;obtain⟨c,r,ec,mr,_,hc⟩:=V.el (h',y) (Lw.mpr (M3 ei));have ec:y=.ref c:=ec;subst ec;have gn:GoP k (adv t (m+1) (st.getD (t.probeStart hs))):=sT V.pw g;have en:t.slot (adv t (M-(m+1)) (adv t (m+1) (st.getD (t.probeStart hs)))).j=.empty:=by rw[<-xM,show m+1+(M-(m+1))=M by omega];exact e
   have ih:=rK ho V hx hn hu (hs:=hs) q (f:=f) (M:=M-(m+1)) (st:=some (adv t (m+1) (st.getD (t.probeStart hs)))) gn en (by omega) (by omega);dsimp only;generalize (adv t m (st.getD (t.probeStart hs))).j=j at *;generalize adv t (m+1) (st.getD (t.probeStart hs))=nx at *;refine QU (fun _=>N6 (BM hx (fun v hv=>?_) ?sa)) (fun z=>?sb)
   ·obtain⟨e',me,rfl⟩:=t_.mp hv;obtain⟨c',r',h4,_,_,h6⟩:=V.el e' (by have:=Lw.mp me;exact Lw.mpr (Array.mem_filter.mp this).1);exact⟨c',r',h4,h6⟩
   case' sb=>clear z
   case' sa=>
    rw[if_neg C_];refine ?sb
   case sb=>
    rw[ei];dsimp only;refine N6 (OH (wpAny_eqBool_tuple hu (hc.key (prog:=prog) (w:=w)) (hx.key (prog:=prog) (w:=w)) ?_));rw[decide_eq_false (fun z:r=row=>hn (z▸mr))];refine N6 (Qa ho V.dat V.ft ?_);dsimp only;rw[if_neg (by decide),show t.sameMemory t.moves t.mask=some true by unfold U1;rw[if_pos (beq_self_eq_true _)]];dsimp only;rw[if_pos rfl,h2];dsimp only;rw[ei];dsimp only;refine N6 (wpAny_isSame_ref_self ?_);refine N6 (Oa ?_);rw[if_pos rfl];dsimp only;rw[if_neg C_];exact ih
  rename_i hne;rcases pg with⟨j,h1,h2⟩|⟨m,i,hm,h1,h2,h3⟩
  ·exact absurd h1 (hne _)
  exact absurd h1 (hne _)
noncomputable def SW(L:Nat)(h:Ou)(a:N8)(S:List (List Int)):Prop:=∃o es ep t k,h.get? a=some o/\SV L h o es ep t k S
theorem SV.at (V:SV L h o es ep t k S)(kp:∀b row,b<L->TI h row b->TI h' row b):SV L h' o es ep t k S:=⟨V.ex,V.dat,V.k3,V.pw,V.up,V.no,V.pl,V.nf,V.ub,V.sz,fun e me=>by obtain⟨c,r,h1,h2,h4,h3⟩:=V.el e me;exact⟨c,r,h1,h2,h4,kp c r h4 h3⟩⟩
theorem DM{xs:Array α}{p:Nat}{x y:α}(h:y∈(OQ xs p x).toList):y=x\/y∈xs.toList:=by
 unfold OQ at h;rw[Jx,KO,A_,A_,A']at h;have sub:∀{i j:Nat},y∈(xs.extract i j).toList->y∈xs.toList:=fun{i j} h=>by rw[KS]at h;exact KR (JF (by simpa using h))
 rcases h with (h|h)|h
 ·exact .inr (sub h)
 ·exact .inl h
 exact .inr (sub h)
theorem qo{xs:Array α}{p:Nat}{x:α}(h:p<=xs.size):(OQ xs p x).size=xs.size+1:=by unfold OQ;rw[Array.size_append,Array.size_push,LK,LK];omega
theorem va(ho:s.heap.get? a=some o)(V:SV L s.heap o es ep t k S)(hx:TI s.heap row b)(bL:b<L)(na:∀c r,TI s.heap r c->c≠a)(hl:S.length<1000){es2:Array (Int×N5)}{t2:Q4}
  (e1:t2.mask=t.mask) (e2:Up t2.place.toList) (e3:t2.dummies=#[]) (e4:t2.place.size=es2.size) (e5:es2.size=es.size+1) (e6:∀e∈es2.toList,e.2=.ref b\/e∈es.toList) {Q:Bool->N9->Prop}
  (q:∀h',O1 a s.heap h'->SW L h' a (row::S)->Q true {s with heap:=h'}) :
  Of (Oq prog w) A (storeSet a es2 t2 >>= fun _=>if(!false&&t2.tooFull)=true then setRelay a (R3 (es.size+1)) >>= fun _=>pure true else pure true) Q E s:=by
 have n1:=V.sz;have kp:∀{h'},O1 a s.heap h'->∀c r,TI s.heap r c->TI h' r c:=fun{h'} sb c r x=>x.at fun o' e=>sb.extBut _ _ (na c r x) e;have mem:∀{h'},O1 a s.heap h'->∀e∈es2.toList,∃c r,e.2=.ref c/\r∈row::S/\c<L/\TI h' r c:=fun{h'} sb e me=>by
  rcases e6 e me with h|h
  ·exact⟨b,row,h,n_,bL,kp sb _ _ hx⟩
  obtain⟨c,r,h1,h2,h4,h3⟩:=V.el e h;exact⟨c,r,h1,j_ _ h2,h4,kp sb _ _ h3⟩
 refine N6 (SI ho V.dat ?_ (by rw[e5,n1];show _<=16777216;omega));have s1:=stored (es':=es2) (t':=t2) ho V.dat;have b1:=Pp s.heap a (Ro es2 t2);generalize s.heap.update a (Ro es2 t2)=h1 at s1 b1 ⊢;have ub:=V.ub;by_cases c:t2.tooFull=true
 ·rw[if_pos (by rw[c];rfl)];have cc:t.mask*3<=(es.size+1)*5:=by have:decide (t2.fill*5>=t2.mask*3)=true:=c;have:=of_decide_eq_true this;unfold Rh at this;rw[e1,e3,e4,e5]at this;exact this
  have f2:t2.fits es2.size=true:=by unfold T' Rh;rw[e4,e3,beq_self_eq_true,JI];refine decide_eq_true ?_;show es2.size+0<=t2.mask;rw[e1,e5];have:=V.nf;have h3:=V.k3;have pw:=V.pw;have:2 ^ 3<=2 ^ k:=M6 (by decide) h3;omega
  have gw:R3 (es.size+1)=(es.size+1)*4:=by unfold R3;rw[if_neg (by omega)]
  obtain⟨kb,a1,a2,a3,a4⟩:=Bc (n:=(es.size+1)*4) (by omega);rw[gw];unfold setRelay;refine N6 (N6 (Qa s1 rfl f2 ?_));dsimp only;have le:PJ ((es.size+1)*4)<=8*(es.size+1)+8:=by rw[a1];rcases a4 with rfl|a4 <;> omega
  rw[if_neg (show ¬PJ ((es.size+1)*4) > sizeLine by show ¬_ > 16777216;omega)];obtain⟨t3,od,l1,l2,l3,l4,l5,l6,l7,l8⟩:=E3 (k:=kb) (mask:=PJ ((es.size+1)*4)-1) (f:=t2.finger) (m:=t2.movedTo (PJ ((es.size+1)*4)-1)) (led:=t2.led) (plain:=t2.plain) (hs:=es2.map (·.1)) (by rw[a1];have:=JT kb;omega) (by rw[NJ,e5,a1];omega);rw[show t2.relaid (es2.map (·.1)) ((es.size+1)*4)=some (t3,od)from l1];rw[NJ]at l6 l7 l8;have fs:(od.filterMap (es2[·]?)).size=es2.size:=by rw[<-h_,MW,pN,M'.mpr (fun x hx=>by rw[l_ (l8 x hx)];rfl),h_,l7]
  have fm:∀e∈(od.filterMap (es2[·]?)).toList,e∈es2.toList:=fun e me=>by rw[MW]at me;obtain⟨x,_,h⟩:=LF.mp me;exact Lw.mpr (M3 h)
  refine N6 (QU (fun z=>absurd z ?_) (fun _=>Oa ?_))
  ·rw[fs,bne_self_eq_false];exact C_
  refine SI s1 rfl ?_ (by rw[fs,e5,n1];show _<=16777216;omega);have s3:=stored (es':=od.filterMap (es2[·]?)) (t':=t3) s1 rfl;have b3:=b1.trans (Pp h1 a (Ro (od.filterMap (es2[·]?)) t3));refine Oa (q _ b3 ⟨_,_,_,t3,kb,s3,V.ex,rfl,a2,by rw[l2,a1];have:=JT kb;omega,l5,l3,by rw[l6,fs],?_,?_,by rw[fs,e5,n1];rfl,fun e me=>mem b3 e (fm e me)⟩)
  ·rw[fs,l2,e5,a1];omega
  rw[fs,l2,e5];have:0<PJ ((es.size+1)*4):=by rw[a1];exact JT kb
  omega
 rw[if_neg (by rw[LQ,JI];exact c)];refine Oa (q _ b1 ⟨_,es2,_,t2,k,s1,V.ex,rfl,V.k3,by rw[e1];exact V.pw,e2,e3,e4,?_,by rw[e1,e5];omega,by rw[e5,n1];rfl,mem b1⟩);have:¬decide (t2.fill*5>=t2.mask*3)=true:=c;rw[decide_eq_true_eq]at this;unfold Rh at this;rw[e3,e4]at this;show es2.size*5<t2.mask*3;have z:(#[]:Array Nat).size=0:=rfl;omega
theorem D7(hS:SW L s.heap a S)(hx:TI s.heap row b)(bL:b<L)(hn:row ∉ S)(hu:A.units<cLine)(hl:S.length<1000){hs:Int}
  (q:∀h',O1 a s.heap h'->SW L h' a (row::S)->Q true {s with heap:=h'}):Of (Oq prog w) A (Ur a (.ref b) hs) Q E s:=by
 obtain⟨o,es,ep,t,k,ho,V⟩:=hS;have na:∀c r,TI s.heap r c->c≠a:=fun c r ⟨o',n,ps,e,_,hd,_⟩ z=>by rw[z,ho]at e;cases e;rw[V.dat]at hd;cases hd
 unfold Ur setAddHashedIn;refine OH (N6 (Qa ho V.dat V.ft ?_));dsimp only;rw[if_neg (show ¬byScan (.ref b) es=true from fun z=>by unfold byScan at z;rw[JD,JD]at z;exact absurd (show false=true from z.1.1) C_)];obtain⟨M,hM,e⟩:=reach V.pw V.up V.no (by have:=V.nf;have:=V.pl;omega) (vL V.pw hs);refine N6 (rK ho V hx hn hu (st:=none) (M:=M) (fun j hj=>?_) (vL V.pw hs) e hM (by have h1:=V.ub;have h2:=V.sz;unfold Pq at hM;omega))
 dsimp only;refine N6 (Qa ho V.dat V.ft ?_);dsimp only;have bl:=(qe (xs:=t.place) j V.up).1;have pe:t.place[OJ t.place j]?≠some j:=fun z=>by unfold Rg at hj;dsimp only at hj;rw[if_pos (by rw[z];exact beq_self_eq_true _)]at hj;cases hj
 have dm:(t.put j).1.dummies=#[]:=by unfold Vl;dsimp only;rw[V.no,sN,if_neg C_]
 have pl:=V.pl;have f4:(t.put j).1.place.size=(OQ es (t.put j).2 (hs,OC b)).size:=by show(OQ t.place (OJ t.place j) j).size=(OQ es (OJ t.place j) (hs,OC b)).size;rw[qo bl,qo (by omega),pl]
 have f5:(OQ es (t.put j).2 (hs,OC b)).size=es.size+1:=qo (show OJ t.place j<=es.size by omega);have f6:∀e∈(OQ es (t.put j).2 (hs,OC b)).toList,e.2=.ref b\/e∈es.toList:=fun e me=>(DM me).imp (fun z=>by rw[z]) id
 have f2:Up (t.put j).1.place.toList:=yQ V.up pe;refine QU (fun _=>?_) (fun _=>?_)
 ·refine N6 (Bh hx ?_);rw[if_pos rfl];exact va (t2:=(t.put j).1) (es2:=OQ es (t.put j).2 (hs,OC b)) ho V hx bL na hl rfl f2 dm f4 f5 f6 q
 refine N6 (Oa ?_);rw[if_pos rfl];exact va (t2:=(t.put j).1) (es2:=OQ es (t.put j).2 (hs,OC b)) ho V hx bL na hl rfl f2 dm f4 f5 f6 q
end
open PySem ZT PyProof.Rows
variable {L:Nat}{row:Nat->List Int}
section
variable{prog:Oj}{w:Ot}{A:OB}{R:Result->N9->Prop}{I:N8}{fp wr:List N8}{G:Array SN->Array SN->Prop}{n:Nat}{P:Nat->N5->Prop}{St:Nat->N9->Prop}
def dS(row:Nat->List Int)(i:Nat):List (List Int):=((u_ i).map row).reverse
theorem BP:dS row (i+1)=row i::dS row i:=by
 unfold dS;rw[Lf,v_,K9]
 rfl
theorem BU{n:Nat}(h:∀j,j<i->row j≠row i):row i ∉ dS row i:=fun m=>by obtain⟨j,hj,e⟩:=t_.mp (K4.mp m);exact h j (B'.mp hj) e
theorem SW.at {a:N8}{S:List (List Int)}(x:SW L h a S)(k:∀b o,h.get? b=some o->b=a\/b<L->h'.get? b=some o):SW L h' a S:=by obtain⟨o,es,ep,t,kk,e,V⟩:=x;exact⟨o,es,ep,t,kk,k _ _ e (.inl rfl),V.at fun b row hb y=>y.at fun o e=>k b o e (.inr hb)⟩
theorem zG(W:WalksS prog w A.in1 I fp wr G n P St)(S:N8)(hSf:S ∉ fp)(hSL:L<=S)(hwL:∀b∈wr,L<=b)(row:Nat->List Int)(adr:Nat->N8)(hval:∀i v,P i v->v=.ref (adr i))(hb:n<1000)(hu:A.in1.units<cLine)(hnd:∀i j,j<i->i<n->row j≠row i) :
  ∀(k i:Nat) (s:N9),n-i=k->i<=n->St i s->SW L s.heap S (dS row i)->(∀j,j<n->TI s.heap (row j) (adr j)/\adr j<L)->(∀s',Moved (S::wr) G s s'->SW L s'.heap S (dS row n)->R (.ok (.ret .none)) s')->Qh (Oq prog w) A (.builtin "set.update.loop" ⟨[.ref S,.ref I],[]⟩) R s:=by
 have hSw:S ∉ wr:=fun h=>hSf (W.sub _ h);have hsub:∀b∈wr,b∈S::wr:=fun b hb=>j_ _ hb;have low:∀b,b=S\/b<L->b ∉ wr:=fun b h m=>h.elim (fun z=>hSw (z▸m)) fun z=>absurd (hwL b m) (Nat.not_le.mpr z);intro k;induction k with
 |zero=>
  intro i s hk hi hst hS hT hR;obtain rfl:i=n:=by omega
  refine P8 RD ?_;rw[PU Qw _];show Of _ A.in1 (Qe (.ref I) >>= _) _ _ s;refine N6 (W.done s _ _ hst fun s' hm=>?_);show Of _ A.in1 (ret OL) _ _ s';exact Oa (hR s' (hm.mono hsub) (hS.at fun b o e h=>hm.heap b o (low b h) e))
 |succ k ih=>
  intro i s hk hi hst hS hT hR;have hlt:i<n:=by omega
  refine P8 RD ?_;rw[PU Qw _];show Of _ A.in1 (Qe (.ref I) >>= _) _ _ s;refine N6 (W.item i s _ _ hlt hst fun v s' hP hst' hm=>?_);obtain rfl:=hval i v hP;have hS':SW L s'.heap S (dS row i):=hS.at fun b o e h=>hm.heap b o (low b h) e;have hT':∀j,j<n->TI s'.heap (row j) (adr j)/\adr j<L:=fun j hj=>⟨(hT j hj).1.at fun o e=>hm.heap _ o (low _ (.inr (hT j hj).2)) e,(hT j hj).2⟩;show Of _ A.in1 (QM [OC (adr i)] (setAdd S (.ref (adr i))) >>= _) _ _ s';refine N6 (OH ?_);unfold setAdd;refine OH (N6 (wpAny_pyHash_tuple hu ((hT' i hlt).1.key (prog:=prog) (w:=w)) ?_));refine D7 (s:={s' with toks:=s'.toks+((row i).length+1) }) hS' (hT' i hlt).1 (hT' i hlt).2 (BU (n:=n) fun j hj=>hnd i j hj hlt) hu (by unfold dS;rw[Jz,a_,JH];omega) fun h' sb hS2=>?_
  rw[<-BP]at hS2;refine Oa ⟨Sg Qw _,ih (i+1) _ (by omega) hlt (W.frame _ s' _ _ hst' (KC _ _) fun b hb o e=>?_) hS2 (fun j hj=>⟨(hT' j hj).1.at fun o e=>?_,(hT' j hj).2⟩) fun s'' hm'' hS''=>?_⟩
  ·rw[sb.2 b (fun h:b=S=>hSf (by rw[<-h];exact hb))];exact e
  ·rw[sb.2 _ (fun h:adr j=S=>absurd (hT' j hj).2 (by rw[h];exact My.mpr hSL))];exact e
  refine hR s'' (Moved.trans W.gtrans ((hm.mono hsub).then_heap (KC _ _) fun b o hb e=>?_) hm'') hS'';rw[sb.2 b (fun h:b=S=>hb (by rw[h];exact n_))];exact e
end
open PySem ZT PyProof.Rows
section
variable{prog:Oj}{w:Ot}{A:OB}{E:N5->N9->Prop}{s:N9}
theorem Gk:SW L (h.push (nob w)) h.objs.size (dS row 0):=
 ⟨_,#[],0,_,3,Oo _ rfl,⟨rfl,rfl,rfl⟩,rfl,b_ _,rfl,Lk,rfl,rfl,by show 0*5<7*3;decide,by show 7+1<=8*0+8;decide,rfl,fun e he=>(nomatch he)⟩
set_option maxHeartbeats 3200000 in
theorem zv{l:N8}{items:Array N5}{adr:Nat->N8}{Q:N5->N9->Prop}(hh:A.handled=none)(hl:s.heap.IsList l items)(hi:∀(i:Nat) (v:N5),items[i]?=some v->v=.ref (adr i))(hTup:∀j,j<items.size->TI s.heap (row j) (adr j))(hb:items.size<1000)(hu:A.in1.in1.in1.units<cLine)(hnd:∀i j,j<i->i<items.size->row j≠row i)
  (h:∀(h':Ou) (tk:Nat),SW s.heap.objs.size h' s.heap.objs.size (dS row items.size)->(∀b o,b<s.heap.objs.size->s.heap.get? b=some o->h'.get? b=some o)->Q (.ref s.heap.objs.size) {s with heap:=h',toks:=tk}) :
  Of (Oq prog w) A (call (.type "set") [.ref l]) Q E s:=by
 obtain⟨c,tl,hmro⟩:=P4.mro;have hmade:=P4.made;have hsub:=P4.sub;refine wpAny_call (To ?_);show Of _ _ (callAny (.type "set") _) _ _ _;refine Oa ⟨Code.quiet_builtin _ (by decide +kernel),P8 F.entry_type_call ?_⟩;rw[Around.under_plain (weight_type_call_type "set" [.ref l] []) rfl];have h1:=P4.notType;have h2:=P4.canCreate;have hct:=F.typeCall_set_1 (.ref l)
 repeat (any_goals (first|assumption|wp_step))
 refine PY (DF (.ref l) (E:=E) (Q:=fun obj s₁=>obj=.ref s.heap.objs.size/\s₁={s with heap:=s.heap.push (nob w) }) ⟨rfl,rfl⟩) fun r s₁ hr=>?_;cases r with
 |error e=>exact hr
 |ok fl=>
  cases fl with
  |ret obj=>
   obtain⟨rfl,rfl⟩:=hr;have hS:(s.heap.push (nob w)).get? s.heap.objs.size=some (nob w):=Oo _ rfl;have hT:Shared.TypeIs {s with heap:=s.heap.push (nob w) } (.ref s.heap.objs.size) "set":=⟨_,hS,rfl⟩;have hli:=P4.init.lookup;have hbi:=P4.init.bind (.ref s.heap.objs.size)
   repeat (any_goals (first|assumption|wp_step))
   refine PY (codeAny_call_builtin (R:=wants (fun r s₂=>r=.none/\∃h' tk,s₂={s with heap:=h',toks:=tk}/\SW s.heap.objs.size h' s.heap.objs.size (dS row items.size)/\(∀b o,b<s.heap.objs.size->s.heap.get? b=some o->h'.get? b=some o)) E) P4.init.plain F.entry_set_init (check_set_init_1 hT ?_)) fun r₂ s₂ hr₂=>?_
   ·obtain⟨ol,hol,hcl,nl,hdl⟩:=hl;obtain⟨ocls,odict,odata,oslots⟩:=ol;simp only at hcl hdl;subst hcl;subst hdl;have hol':(s.heap.push (nob w)).get? l=some { cls:=.type "list",dict:=odict,data:=.seq items nl,slots:=oslots}:=Oe _ hol;have hsls:=F.sub_list_set;have hslf:=F.sub_list_frozenset;have hne:(Pu "list" == Pu "dict")=false:=by decide
    have hl1:(s.heap.push (nob w)).IsList l items:=⟨_,hol',rfl,nl,rfl⟩;unfold Qj.«set.__init__» noKeywords TJ;generalize hPI:Ru=PI
    wp_walk
    subst hPI;refine Pm hl1 ?_;refine N6 (TH ?_);have hlS:l<s.heap.objs.size:=Ol hol;have hh3:A.in1.in1.in1.handled=none:=by simp[hh]
    have hneI:l≠(s.heap.push (nob w)).objs.size:=by rw[O_];exact w_ (Ln hlS)
    have hSf:s.heap.objs.size ∉ [(s.heap.push (nob w)).objs.size,l]:=by rw[O_];simp only[o_,A',JO,or_false,not_or];exact⟨w_ (Nu _),Lp hlS⟩
    refine zG (L:=s.heap.objs.size) ((UR hh3 _ l hneI items).toS) s.heap.objs.size hSf (b_ _) (fun b hb=>?hwL) row adr hi hb hu hnd (items.size-0) 0 _ (by omega) (E_ _) ⟨⟨_,Oo _ rfl,rfl,rfl⟩,(hl1.push _)⟩ ?hS0 (fun j hj=>⟨(hTup j hj).at fun o e=>Oe _ (Oe _ e),?hlt⟩) ?hR
    case hwL=>rw[A'.mp hb,O_];exact NX _
    case hlt=>obtain⟨o,_,_,e,_⟩:=hTup j hj;exact Ol e
    case hS0=>exact Gk.at fun b o e _=>Oe _ e
    case hR=>
     intro s' hm hS';obtain⟨h',g',d',tk',os'⟩:=s';have eg:g'=s.gens:=hm.gens;have ed:d'=s.drawn:=hm.drawn;have eo:os'=s.os:=hm.os;subst eg;subst ed;subst eo;refine Oa ?_;show Of _ _ (ret OL) _ _ _;refine Oa ⟨rfl,h',tk',rfl,hS',fun b o hb e=>?_⟩;refine hm.heap b o ?_ (Oe _ (Oe _ e));rw[O_];simp only[o_,A',JO,or_false,not_or];exact⟨w_ hb,w_ (Ln hb)⟩
   ·cases r₂ with
    |error e=>exact hr₂
    |ok fl₂=>
     cases fl₂ with
     |ret r=>
      obtain⟨rfl,h',tk,rfl,hS',hk'⟩:=hr₂
      repeat (any_goals (first|assumption|wp_step))
      exact h _ _ hS' hk'
     | _=>exact hr₂.elim
  | _=>exact hr.elim
end
end ZV
namespace L2
open PySem PySem.Spec PyProof.Rows
variable {pins:List (N8×Obj)}
section
variable{X:Cx}
theorem IA{σ:St}{H:Hp}{s:N9}{b:N8}{k:List Int}(I:Inv X pins σ H s)(h:SqT X.K H b (k.map V.int)):ZV.TI s.heap k b:=by obtain⟨its,r,⟨o,ho,hc,n,hd⟩,hz⟩:=I.tuple h;obtain⟨ps,rfl,e⟩:=ck r;exact⟨o,n,ps,ho,hc,hd,e⟩
theorem D6{σ:St}{H:Hp}{s:N9}(I:Inv X pins σ H s){ys:List V}{its:List N5}{ks:List (List Int)}(r:Vals ys its):lO X.K H ys ks->its.length=ks.length/\∃adr:Nat->N8,(∀(i:Nat) (v:N5),its[i]?=some v->v=.ref (adr i))/\∀j,j<its.length->ZV.TI s.heap (ks.getD j []) (adr j):=by
 induction r generalizing ks with
 |nil=>
  intro q;cases q;exact⟨rfl,fun _=>0,fun i v e=>by simp at e,fun j h=>absurd h (LB _)⟩
 |cons hv tv ih=>
  intro q;rcases q with _|⟨hk,tk⟩;rename_i k ks;obtain⟨_,b,rfl,hb⟩:=hk;cases hv;obtain⟨l,adr,h1,h2⟩:=ih tk;refine⟨by rw[d_,d_,l],fun i=>if i=0 then b else adr (i-1),fun i v e=>?_,fun j hj=>?_⟩
  ·cases i with
   |zero=>cases e;rfl
   |succ i=>exact h1 i v e
  cases j with
  |zero=>exact IA I hb
  |succ j=>exact h2 j (L3 hj)
theorem yW{e:Ov}{te:TE}{p1 p2 pos1 pos2:Pos}(hc:X.calm=true)(hu:X.A.units+20<cLine)(hg1:Gl X "len")(hm1:X.mg "len"=none)(hg2:Gl X "set")(hm2:X.mg "set"=none)(he:PE X e te)
  (hs1:Oy [e] X.env=[(false,OK e X.env)]:=by rfl) (hs2:Oy [.Call (.Name "set" p2) [e] [] pos2] X.env=[(false,OK (.Call (.Name "set" p2) [e] [] pos2) X.env)]:=by rfl) :
  PE X (.Call (.Name "len" p1) [.Call (.Name "set" p2) [e] [] pos2] [] pos1) (fun σ H Q=>te σ H fun x H1=>∃l vs,∃ks:List (List Int),x=.ref l/\SqL X.K H1 l vs/\lO X.K H1 vs ks/\ks.Nodup/\ks.length<1000/\Q (.int ks.length) H1):=by
 intro pins s σ H Q I h;refine P7 (j9 I hg1 hm1 boot_len (callWith_builtin1 ?_ (by rw[hs2];rfl) rfl));rw[hs2];refine Q8 ?_;refine P7 (j9 I hg2 hm2 boot_set (callWith_type1 ?_ (by rw[hs1];rfl) rfl));rw[hs1];refine Q8 (thn (he pins s σ H _ I h) ?_);rintro u s1 ⟨x,H1,I1,r1,l,vs,ks,ex,hl,rv,nd,hz,q⟩;subst ex;cases r1;obtain⟨its,rr,pl,_⟩:=I1.list hl;obtain⟨ln,adr,h1,h2⟩:=D6 I1 rr rv;refine Oa (ZV.zv (items:=its.toArray) (row:=fun j=>ks.getD j []) (adr:=adr) (I1.ok.hd hc) pl.isList (fun i v e=>h1 i v (by simpa using e)) (fun j hj=>h2 j (by simpa using hj)) (by rw[p_];omega) (by show X.A.units+1+1+1<cLine;omega) (fun i j hj hi=>?_) fun h' tk SW kp=>?_)
 ·rw[p_,ln]at hi;show ks.getD j []≠ks.getD i [];rw[JE,JE,c_ (Lq hj hi),c_ hi];exact KY.mp nd j i (Lq hj hi) hi hj
 have k1:∀b o,s1.heap.get? b=some o->h'.get? b=some o:=fun b o e=>kp b o (Ol e) e;have I2:Inv X pins σ H1 {s1 with heap:=h',toks:=tk}:=I1.kept (t':=tk) k1;obtain⟨o,es,ep,t,k,ho,V⟩:=SW;have sz:es.size=ks.length:=by rw[V.sz];unfold ZV.dS;rw[Jz,a_,JH,p_,ln]
 refine Oa (call_len_set (s:={s1 with heap:=h',toks:=tk}) ho V.ex V.dat V.ft (by rw[sz];omega) ?_);exact⟨.int ks.length,H1,I2.kept (t':=tk+1+1) (fun b o e=>e),⟨_,by rw[sz]⟩,q⟩
end
end L2
namespace PL
open PySem PySem.Spec PyProof.Rows L2
section
variable{X:Cx}
noncomputable def lnS:T->(T->Prop)->Prop
 | .lst _ ts,k=>got (rowsOf ts) fun ks=>ks.Nodup/\ks.length<1000/\k (.int ks.length)
 | _,_=>False
theorem qu{o:Bool}{ts:List T}{k:T->Prop}:lnS (.lst o ts) k=dU (rowsOf ts) (k:=⟨fun ks=>ks.Nodup/\ks.length<1000/\k (.int ks.length)⟩):=rfl
theorem zF{e:Ov}{fe:PF}{p1 p2 pos1 pos2:Pos}{kr:Nat}(hr:Room kr X.A)(hc:X.calm=true)(hg1:Gl X "len")(hm1:X.mg "len"=none)(hg2:Gl X "set")(hm2:X.mg "set"=none)(he:GE X e fe)
  (hs1:Oy [e] X.env=[(false,OK e X.env)]:=by rfl) (hs2:Oy [.Call (.Name "set" p2) [e] [] pos2] X.env=[(false,OK (.Call (.Name "set" p2) [e] [] pos2) X.env)]:=by rfl) :
  GE X (.Call (.Name "len" p1) [.Call (.Name "set" p2) [e] [] pos2] [] pos1) (fUn lnS fe):=by
 refine PE.imp (yW hc (Jh hr) hg1 hm1 hg2 hm2 he hs1 hs2) ?_;rintro σ H Q ⟨env,Fr,k,rs,q,c⟩;refine⟨env,Fr,_,rs,q,fun t env1 x H1 q1 rs1=>?_⟩;cases t <;> try exact q1.elim
 rename_i o ts;obtain⟨ks,ek,nd,hz,kt⟩:=aI q1;obtain⟨et,ne⟩:=jA ek;subst et;obtain⟨a,vs,rfl,hq,l2,rp2⟩:=ir rs1.head;obtain⟨rv,_⟩:=lV ne l2 rp2;exact⟨a,vs,ks,rfl,.inl hq,rv,nd,hz,c _ _ _ _ kt (.of rs1.1 (bI rs1.head.tail fun _=>.int))⟩
end
end PL
namespace Mp
open PySem L2
noncomputable def top(i:Nat):OF:=PySem.Challenge.pw_millpath_k54_octos_of_programs.main.body.getD i (.Pass ⟨0,0,0,0⟩)
abbrev nz:OF:=top 3
abbrev jT:OF:=top 4
abbrev fG:OF:=top 5
abbrev jt:OF:=top 7
abbrev pT:OF:=top 8
abbrev fJ:OF:=top 9
abbrev nA:OF:=top 11
abbrev nK:OF:=top 12
abbrev n9:OF:=top 13
abbrev kP:OF:=top 14
abbrev tE:OF:=top 15
abbrev tW:OF:=top 16
abbrev fF:OF:=top 17
abbrev mS:OF:=top 18
abbrev sg:OF:=top 19
abbrev ni:OF:=top 21
abbrev sJ:OF:=top 22
abbrev j8:OF:=top 24
abbrev mT:OF:=top 25
abbrev nI:OF:=top 26
abbrev oD:OF:=top 28
abbrev tL:OF:=top 29
abbrev wL:OF:=top 30
abbrev wj:OF:=top 31
abbrev nH:OF:=top 32
abbrev s_same:OF:=top 33
abbrev sZ:OF:=top 34
abbrev oZ:OF:=top 35
abbrev mO:OF:=top 36
abbrev Ad:OF:=top 37
abbrev fL:OF:=top 38
abbrev jo:OF:=top 39
theorem uB{kvs:List (Key×V)}{k:Key}{v:V}:eX ((k,v)::kvs) k=some v:=by
 unfold eX;rw[JZ,show(decide ((k,v).1=k))=true from decide_eq_true rfl]
 rfl
theorem rG{kvs:List (Key×V)}{k k':Key}{v:V}(h:¬k=k'):eX ((k,v)::kvs) k'=eX kvs k':=by unfold eX;rw[JZ,show(decide ((k,v).1=k'))=false from decide_eq_false h]
theorem key_ne:¬((OE (some ("cells":Str)):Key)=OE (some ("turn":Str))):=by decide +kernel
noncomputable def stK(c:N8)(t:Int):List (Key×V):=[(OE (some ("cells":Str)),V.ref c),(OE (some ("turn":Str)),V.int t)]
theorem uZ(c:N8)(t:Int):eX (stK c t) (OE (some ("cells":Str)))=some (.ref c):=uB
theorem yP(c:N8)(t:Int):eX (stK c t) (OE (some ("turn":Str)))=some (.int t):=by unfold stK;rw[rG key_ne];exact uB
theorem GF(c:N8)(t u:Int):putK (stK c t) (OE (some ("turn":Str))) (.int u)=stK c u:=by
 have e:((stK c t).any fun kv=>decide (kv.1=(OE (some ("turn":Str)):Key)))=true:=by rw[ml,yP];rfl
 unfold putK;rw[if_pos e];show [(if(OE (some ("cells":Str)):Key)=OE (some ("turn":Str))then _ else _),(if(OE (some ("turn":Str)):Key)=OE (some ("turn":Str))then _ else _)]=stK c u;rw[if_neg key_ne,if_pos rfl]
 rfl
structure StAt (H:Hp) (st c:N8) (cs:List Int) (t:Int):Prop where
 d:H st=some (.dK (stK c t))
 l:H c=some (.lst (cs.map V.int))
 pos:0<cs.length
 len:cs.length<=63
variable {H:Hp}{c st:N8}{cs:List Int}
theorem StAt.ne {t:Int}(S:StAt H st c cs t):st≠c:=C3 S.d S.l (by intro z;cases z)
variable {H':Hp}
theorem StAt.same {t:Int}(S:StAt H st c cs t)(e:bH H H'):StAt H' st c cs t:=⟨e _ _ S.d,e _ _ S.l,S.pos,S.len⟩
structure Txt (mg:Str->Option N5):Prop where
 len:mg "len"=none
 list:mg "list"=none
 divmod:mg "divmod"=none
 isinstance:mg "isinstance"=none
 dict:mg "dict"=none
 tuple:mg "tuple"=none
 str:mg "str"=none
 int:mg "int"=none
 bool:mg "bool"=none
 all:mg "all"=none
 any:mg "any"=none
 zip:mg "zip"=none
 range:mg "range"=none
 max:mg "max"=none
 min:mg "min"=none
 abs:mg "abs"=none
 sum:mg "sum"=none
 sorted:mg "sorted"=none
 enumerate:mg "enumerate"=none
 set:mg "set"=none
 reversed:mg "reversed"=none
noncomputable def Dg(K:N7):Sp:=fun vs H Q _=>∃(a:N8) (ns:List Int),vs=[.ref a]/\SqL K H a (ns.map V.int)/\ns.length<=63/\∀(st c:N8) (cs:List Int) (H':Hp),H st=none->H c=none->StAt H' st c cs 0->bH H H'->Q (.ref st) H'
noncomputable def Gj:Sp:=fun vs H Q _=>∃(st c:N8) (cs:List Int) (t m:Int),vs=[.ref st,.int m]/\StAt H st c cs t/\0<=t/\t<2 ^ 40/\0<m/\m<1073741824/\
 ∀(r:Int) (cs':List Int) (H':Hp),0<=r->r<m->StAt H' st c cs' (t+1)->Kp st c H H'->Q (.int r) H'
variable {f:N8}{fd:OA}
section
variable{P:Oj}{w:Ot}{K:N7}{mg:Str->Option N5}{base:Ou}
theorem scB:FnScope ["_law_script","_law_cells"] ["_law_script"] (ax oD):=⟨rfl,rfl,rfl,by decide +kernel,rfl,by decide +kernel,by decide +kernel⟩
theorem A2(F:Fun K "_law_begin" "_law_begin" oD f fd)(T:Txt mg):FnOk P w K mg base CX0 1 f fd ["_law_script"] (Dg K):=by
 refine F.ok scB (fun vs H Q E h=>?_) (fun cdv A outer s H vs Q E hr h=>?_)
 ·obtain⟨a,ns,rfl,_⟩:=h
  rfl
 obtain⟨a,ns,rfl,hS,h63,q⟩:=h;have sc:=@scB;refine⟨_,(bQ (jn (i:=1) sc.nd rfl (e_ rfl) (qQ mJ (by rfl) T.list (by decide +kernel) (fx (As CY (pv 0) DY (Cs cf)) ko)))
  (bQ (BN (t5 BG (pv 1) (Av ko) (aF _)) (lL (jn (i:=1) sc.nd rfl (e_ rfl) (Av (fx cf ko)))) tB)
  (lL (rZ (D9 (vg jf (pv 1) (vg jf cf Ci)) rfl rfl (by intro z;cases z) (by decide)))))),?_⟩
 refine⟨_,rfl,_,rfl,a,_,rfl,hS,fun p hp=>⟨p,_,rfl,.inl (SqL.of aO),fun l hl=>?_⟩⟩;obtain⟨zs,ez,lz⟩:∃zs:List Int,qH (ns.map V.int) none (some 63)=zs.map V.int/\zs.length<=63:=by refine⟨_,by unfold qH;rw[<-List.map_drop,<-List.map_take],?_⟩;exact m_ (Md _ _) (m_ (by rw[JL];omega) h63)
 have hp0:H p=none:=hp;have hl0:H l=none:=(bP hp _).none hl;have g1:bH H (upd (upd H p (.lst (qH (ns.map V.int) none (some 63)))) l (.lst (qH (ns.map V.int) none (some 63)))):=(bP hp _).trans' (bP hl _);refine⟨_,rfl,(by show 0<=sizeLine;decide),fun e he=>?_⟩;have hul:∀o,upd (upd (upd H p (.lst (qH (ns.map V.int) none (some 63)))) l (.lst (qH (ns.map V.int) none (some 63)))) e o l=some (.lst (zs.map V.int)):=fun o=>by rw[aL (bN aO he),aO,ez]
 have he0:H e=none:=g1.none he;have g2:=g1.trans' (bP he (.lst []));refine⟨.lst (di zs),.lst (di []),uY (SqL.of (hul _)),uY (SqL.of aO),?_,_,rfl,?_⟩
 ·have:=rD hr;rw[dpt,rB];exact this
 have fin:∀(c:N8) (cs:List Int) (H2:Hp),H c=none->bH H H2->H2 c=some (.lst (cs.map V.int))->0<cs.length->cs.length<=63->∀p,H2 p=none->StAt (upd (upd H2 p (.dK [])) p (.dK (jm [] [(OE (some ("cells":Str)),V.ref c),(OE (some ("turn":Str)),V.int 0)]))) p c cs 0/\bH H (upd (upd H2 p (.dK [])) p (.dK (jm [] [(OE (some ("cells":Str)),V.ref c),(OE (some ("turn":Str)),V.int 0)]))):=fun c cs H2 hc g h1 h2 h3 p hp=>by
  have em:jm [] [((OE (some ("cells":Str)):Key),V.ref c),(OE (some ("turn":Str)),V.int 0)]=stK c 0:=by
   show putK (putK ([]:List (Key×V)) (OE (some ("cells":Str))) (V.ref c)) (OE (some ("turn":Str))) (V.int 0)=stK c 0;rw[lM _ (show eX ([]:List (Key×V)) (OE (some ("cells":Str)))=none from rfl),Mb,lM _ (show eX [((OE (some ("cells":Str)):Key),V.ref c)] (OE (some ("turn":Str)))=none by rw[rG key_ne];rfl)]
   rfl
  rw[em,DT];exact⟨⟨aO,by rw[aL (bN h1 hp)];exact h1,h2,h3⟩,g.trans' (bP hp _)⟩
 refine Iq (fun c=>?_) (fun c=>?_)
 ·
  refine⟨(by show 1<=sizeLine;decide),fun c7 h7=>?_⟩;have g3:=g2.trans' (bP h7 (.lst [V.int 7]));intro p' hp';obtain⟨S,g4⟩:=fin c7 [7] _ (g2.none h7) g3 aO (by decide) (by decide) p' hp';refine⟨_,rfl,?_,[(OE (some ("cells":Str)),V.ref c7),(OE (some ("turn":Str)),V.int 0)],rfl,(by show 2<=15;decide),?_⟩
  ·exact aO
  exact q p' c7 [7] _ (g3.none hp') (g2.none h7) S g4
 have c0:0<zs.length:=by
  cases zs with
  |nil=>rw[jk]at c;cases c
  |cons a r=>exact NQ _
 intro p' hp';obtain⟨S,g4⟩:=fin l zs _ hl0 g2 (hul _) c0 lz p' hp';refine⟨_,rfl,?_,[(OE (some ("cells":Str)),V.ref l),(OE (some ("turn":Str)),V.int 0)],rfl,(by show 2<=15;decide),?_⟩
 ·exact aO
 exact q p' l zs _ (g2.none hp') hl0 S g4
theorem scT:FnScope ["_law_state","_law_many","_law_turn","_law_place","_law_cell","_law_digit","_law_mixed"] ["_law_state","_law_many"] (ax tL):=⟨rfl,rfl,rfl,by decide +kernel,rfl,by decide +kernel,by decide +kernel⟩
theorem Cj(F:Fun K "_law_take" "_law_take" tL f fd)(T:Txt mg):FnOk P w K mg base CX0 1 f fd ["_law_state","_law_many"] Gj:=by
 refine F.ok scT (fun vs H Q E h=>?_) (fun cdv A outer s H vs Q E hr h=>?_)
 ·obtain⟨st,c,cs,t,m,rfl,_⟩:=h
  rfl
 obtain⟨st,c,cs,t,m,rfl,S,ht0,ht,hm0,hm1,q⟩:=h;have sc:=@scT;have hu:=rD hr;refine⟨_,(bQ (jn (i:=2) sc.nd rfl (e_ rfl) (cK p9 (oz hu (pv 0) jf (fun _ _=>rfl)) cf))
  (bQ (DI hu (pv 0) jf (pv 2) rfl)
  (bQ (jn (i:=3) sc.nd rfl (e_ rfl) (cK nJ (pv 2) (pO lJ (by rfl) T.len (by decide +kernel) (fx (oz hu (pv 0) jf (fun _ _=>rfl)) ko))))
  (bQ (jn (i:=4) sc.nd rfl (e_ rfl) (Eu y3 (oz hu (pv 0) jf (fun _ _=>rfl)) (pv 3) (fun _ _=>rfl)))
  (bQ (BN (t5 Ip (pv 4) (cK Fy cf cf) (aF _)) (bQ (Aq (pO vi (by rfl) T.divmod (by decide +kernel) (fx (pv 4) (fx (pv 1) ko))) (Ai rfl (pH (Bs (oz hu (pv 0) jf (fun _ _=>rfl)) (pv 3) set_list) (pH (yG (i:=5) sc.nd rfl (e_ rfl)) yq))))
  (lL (rZ (pv 5)))) tB)
  (bQ (jn (i:=6) sc.nd rfl (e_ rfl) (cK nJ (cK kQ (cK p9 (cK p9 (cK nJ (pv 4) cf) (cK kQ (cK kQ (pv 2) (pv 2)) cf)) cf) cf) cf))
  (bQ (jn (i:=6) sc.nd rfl (e_ rfl) (cK nJ (cK kQ (pv 6) (pv 6)) cf))
  (lL (rZ (cK nJ (cK CF (cK nJ (cK kQ (cK p9 (pv 6) (cK kQ (pv 2) cf)) cf) cf) cf) (pv 1))))))))))),?_⟩
 have D0:nZ H st (.str ("turn":Str)) (some (.int t)):=by rw[<-yP c t];exact nZ.k (k:=OE (some ("turn":Str))) S.d
 refine⟨_,rfl,st,_,rfl,D0,_,_,rfl,rfl,?_⟩;have hP:zP H st (.str ("turn":Str)) (.int (t+1)) (upd H st (.dK (stK c (t+1)))):=by rw[<-GF c t (t+1)];exact zP.k (k:=OE (some ("turn":Str))) S.d (by show 2<sizeLine;decide)
 refine⟨_,rfl,_,rfl,st,_,rfl,hP,?_⟩;have S1:StAt (upd H st (.dK (stK c (t+1)))) st c cs (t+1):=⟨aO,by rw[aL S.ne.symm];exact S.l,S.pos,S.len⟩;have K1:Kp st c H (upd H st (.dK (stK c (t+1)))):=fun b o e n1 n2=>by rw[aL n1];exact e
 generalize upd H st (.dK (stK c (t+1)))=H1 at S1 K1 ⊢;have D1:nZ H1 st (.str ("cells":Str)) (some (.ref c)):=by rw[<-uZ c (t+1)];exact nZ.k (k:=OE (some ("cells":Str))) S1.d
 have hl:(cs.map V.int).length=cs.length:=a_ _;have hpos:(0:Int)<(((cs.map V.int).length:Nat):Int):=by rw[hl];have:=S.pos;omega
 refine⟨_,rfl,_,rfl,st,_,rfl,D1,c,_,rfl,.inl (SqL.of S1.l),_,_,rfl,rfl,hpos,?_⟩;have j0:0<=(t+1)%(((cs.map V.int).length:Nat):Int):=LD _ (by omega);have j1:(t+1)%(((cs.map V.int).length:Nat):Int)<(cs.length:Int):=by have:=Le (t+1) hpos;rw[hl]at this ⊢;exact this
 obtain⟨v,hat⟩:∃v:Int,atI (cs.map V.int) ((t+1)%(((cs.map V.int).length:Nat):Int))=some (.int v):=⟨_,BR j0 j1⟩;refine⟨_,rfl,st,_,rfl,D1,_,rfl,c,_,_,_,rfl,rfl,SqL.of S1.l,hat,?_⟩;refine⟨_,rfl,_,_,rfl,rfl,⟨by decide,by decide,by decide⟩,_,_,rfl,rfl,_,rfl,?_⟩;refine Iq (fun hc=>?_) (fun hc=>?_)
 ·
  refine⟨_,rfl,_,rfl,_,_,rfl,⟨hm0,hm1⟩,fun p hp=>?_⟩;have g:=bP hp (.tup [.int (v/m),.int (v%m)]);have S2:=S1.same g;have D2:nZ (upd H1 p (.tup [.int (v/m),.int (v%m)])) st (.str ("cells":Str)) (some (.ref c)):=by rw[<-uZ c (t+1)];exact nZ.k (k:=OE (some ("cells":Str))) S2.d
  refine⟨p,_,rfl,SqT.of aO,rfl,_,_,rfl,?_⟩;refine⟨_,rfl,st,_,rfl,D2,_,rfl,c,_,_,((t+1)%(((cs.map V.int).length:Nat):Int)).toNat,rfl,rfl,S2.l,xQ j0 (by rw[hl];rw[hl]at j1;exact j1),?_⟩;refine⟨_,_,rfl,rfl,?_⟩;refine⟨_,rfl,?_⟩;have es:∀j:Nat,(cs.map V.int).set j (.int (v/m))=(cs.set j (v/m)).map V.int:=fun j=>by rw[List.map_set]
  refine q (v%m) (cs.set ((t+1)%(((cs.map V.int).length:Nat):Int)).toNat (v/m)) _ (LD _ (by omega)) (Le _ hm0) ⟨?_,?_,?_,?_⟩ ?_
  ·rw[aL S2.ne];exact S2.d
  ·rw[aO,es]
  ·rw[JB];exact S.pos
  ·rw[JB];exact S.len
  intro b o e n1 n2;rw[aL n2];exact g b o (K1 b o e n1 n2)
 
 have mulR:∀(x y:Int),-(2 ^ 64)<y->y<2 ^ 64->wd x y:=fun x y h1 h2=>.inr ⟨h1,h2⟩;refine⟨_,rfl,_,_,rfl,rfl,(by show(0:Int)<2147483629;decide),_,rfl,_,rfl,_,_,rfl,rfl,mulR _ _ (by omega) (by omega),_,_,rfl,rfl,mulR _ _ (by decide) (by decide),_,_,rfl,rfl,_,_,rfl,rfl,_,_,rfl,rfl,mulR _ _ (by decide) (by decide),_,_,rfl,rfl,(by show(0:Int)<2147483647;decide),?_⟩;generalize hM:(v%2147483629+(t+1)*(t+1)*7919+11)*48271%2147483647=M;have m0:0<=M:=by rw[<-hM];exact LD _ (by decide)
 have m1:M<2147483647:=by rw[<-hM];exact Le _ (by decide)
 refine⟨_,rfl,_,rfl,_,_,rfl,rfl,mulR _ _ (by omega) (by omega),_,_,rfl,rfl,(by show(0:Int)<2147483587;decide),?_⟩;refine⟨_,rfl,_,rfl,_,_,rfl,rfl,mulR _ _ (by decide) (by decide),_,_,rfl,rfl,_,_,rfl,rfl,mulR _ _ (by decide) (by decide),_,_,rfl,rfl,(by show(0:Int)<2147483629;decide),_,_,rfl,rfl,⟨by decide,by decide⟩,_,rfl,_,_,rfl,rfl,hm0,?_⟩;exact q _ cs H1 (LD _ (by omega)) (Le _ hm0) S1 K1
end
open PySem L2 PL
structure Cells where
 cs:List Int
 pos:0<cs.length
 len:cs.length<=63
noncomputable def stT(c:Cells)(n:Nat):T:=.dK true [(OE (some ("cells":Str)),.lst true (c.cs.map T.int)),(OE (some ("turn":Str)),.int (n:Int))]
variable {n:Nat}
theorem hG{c:Cells}:isAny (stT c n)=false:=rfl
noncomputable def Scr(K:N7)(t:T)(ns:List Int):Prop:=t=.lst false (ns.map T.int)\/∃a,t=.hole (.ref a)/\∀H,SqL K H a (ns.map V.int)
noncomputable def tM(K:N7):FP:=fun ts k=>∃t,∃ns:List Int,ts=[t]/\Scr K t ns/\ns.length<=63/\∀c,k (stT c 0) ts
noncomputable def jV:FP:=fun ts k=>∃c n m,ts=[stT c n,.int m]/\n<2 ^ 40/\0<m/\m<1073741824/\∀r c',0<=r->r<m->k (.int r) [stT c' (n+1),.int m]
variable {Γ:Fm}{α β:Type}
section
variable{P:Oj}{w:Ot}{K:N7}{mg:Str->Option N5}{base:Ou}
theorem ug{l:List (α×β)}{a b:α}(h:[a,b]=l.map (·.1)):∃v w,l=[(a,v),(b,w)]:=by
 cases l with
 |nil=>cases h
 |cons x l=>
  cases l with
  |nil=>cases h
  |cons y l=>
   cases l with
   |nil=>
    have h1:=(L6 h).1;have h2:=(L6 (L6 h).2).1;exact⟨x.2,y.2,by rw[h1,h2]⟩
   |cons z l=>cases (L6 (L6 h).2).2
theorem vq{a:N8}{o:HO}(h:H a=some o):Put H a o H:=⟨h,fun _ _=>rfl⟩
theorem HG{c:Cells}{v:V}(h:Rp K H ((stT c n,some v)::Γ)):∃st l,v=.ref st/\StAt H st l c.cs n/\Rp K H ((.bare,some (.ref st))::(.bare,some (.ref l))::Γ):=by
 obtain⟨st,kvs,ev,hs,ek,h2⟩:=pY h;cases ev;obtain⟨v1,v2,rfl⟩:=ug ek;have h2:Rp K H ((.bare,some (.ref st))::(.lst true (c.cs.map T.int),some v1)::(.int (n:Int),some v2)::Γ):=h2;have e2:v2=.int n:=aU h2.tail.tail;subst e2;have h3:=h2.perm (.swap _ _ _);obtain⟨l,vs,el,hl,ll,h4⟩:=iG h3;cases el;have ev:vs=c.cs.map V.int:=fA ll h4.tail;subst ev;refine⟨st,l,rfl,⟨hs,hl,c.pos,c.len⟩,?_⟩;have h5:Rp K H ((.bare,some (.ref l))::(.bare,some (.ref st))::(.int (n:Int),some (.int n))::Γ):=by have:Rp K H (zz (c.cs.map T.int) (c.cs.map V.int)++((.bare,some (.ref l))::(.bare,some (.ref st))::(.int (n:Int),some (.int n))::Γ)):=h4.perm i_.symm;exact this.part
 exact(h5.perm (by refine B_ (.cons _ (.swap _ _ _)) ?_;refine B_ (.swap _ _ _) ?_;exact .cons _ (.swap _ _ _))).tail
theorem vC{H:Hp}{Γ:Fm}:∀(ns:List Int),Rp K H Γ->Rp K H (zz (ns.map T.int) (ns.map V.int)++Γ)
 | [],h=>h
 |n::r,h=>bI (vC r h) fun _=>.int
theorem AS{l:N8}(S:StAt H st l cs n)(h:Rp K H ((.bare,some (.ref st))::(.bare,some (.ref l))::Γ)):∃c,Rp K H ((stT c n,some (.ref st))::Γ):=by
 refine⟨⟨cs,S.pos,S.len⟩,?_⟩;have h1:Rp K H ((.bare,some (.ref l))::(zz (cs.map T.int) (cs.map V.int)++((.bare,some (.ref st))::Γ))):=(vC cs (h.perm (.swap _ _ _))).perm i_;have h2:=fO h1 (by rw[a_,a_]) (vq S.l);have h3:Rp K H ((.bare,some (.ref st))::((.lst true (cs.map T.int),some (.ref l))::(.int (n:Int),some (.int n))::Γ)):=by refine(bI (t:=.int (n:Int)) h2 fun _=>.int).perm ?_;refine B_ (.swap _ _ _) ?_;refine B_ (.cons _ (.swap _ _ _)) ?_;exact .swap _ _ _
 exact rY (ts:=[(OE (some ("cells":Str)),.lst true (cs.map T.int)),(OE (some ("turn":Str)),.int (n:Int))]) (vs:=stK l n) h3 rfl (vq S.d)
theorem Im{a:N8}(h:Rp K H ((.bare,some (.ref a))::(.bare,some (.ref c))::Γ))(k:Kp a c H H')(ha:∃u,H' a=some u/\∀xs,u≠.tup xs)(hc:∃u,H' c=some u/\∀xs,u≠.tup xs):Rp K H' ((.bare,some (.ref a))::(.bare,some (.ref c))::Γ):=by
 obtain⟨ua,ea,na⟩:=ha;obtain⟨uc,ec,nc⟩:=hc;obtain⟨Hz,N,h,nd,g,d⟩:=h;cases h with
 |cons e1 h1 c1=>
  cases c1 with
  |cons e2 h2 c2=>
   rcases h1 with⟨z,_⟩|⟨v1,ev1,h1⟩
   ·cases z
   rcases h2 with⟨z,_⟩|⟨v2,ev2,h2⟩
   ·cases z
   cases ev1;cases ev2;cases h1;cases h2;rename_i M u1 hu1 nt1 u2 hu2 nt2;subst e2;subst e1;have nd':(a::c::M).Nodup:=nd;rw[D',D']at nd';have keep:∀b o,H b=some o->b≠a->b≠c->H' b=some o:=k;have tk:TK H H':=fun b xs r=>keep b _ r (fun z=>nt1 xs (z▸r)) (fun z=>nt2 xs (z▸r));have za:Hz a=none:=d a n_;have zc:Hz c=none:=d c (j_ _ n_);have g':Gr Hz H':=fun b u r=>by
    obtain⟨w',q⟩:=Rd.some r;have b1:b≠a:=fun z=>by rw[z,za]at q;cases q
    have b2:b≠c:=fun z=>by rw[z,zc]at q;cases q
    rcases g b u r with r|⟨o,r⟩
    ·exact .inl (keep b _ r b1 b2)
    exact .inr ⟨o,keep b _ r b1 b2⟩
   refine⟨Hz,[a]++([c]++M),.cons rfl (.inr ⟨_,rfl,.bare ea fun xs z=>?_⟩) (.cons rfl (.inr ⟨_,rfl,.bare ec fun xs z=>?_⟩) (c2.move tk .bW fun b m u e=>?_)),nd,g',d⟩
   ·rw[ea]at z;exact na xs (I_ z)
   ·rw[ec]at z;exact nc xs (I_ z)
   have b1:b≠a:=fun z=>nd'.1 (by rw[<-z];exact j_ _ m)
   have b2:b≠c:=fun z=>nd'.2.1 (by rw[<-z];exact m)
   exact⟨keep b u e b1 b2,fun nt xs r=>nt xs (by rw[keep b u e b1 b2]at r;exact e.trans r)⟩
theorem Dx{a:N8}(h:Rp K H Γ)(ha:H a=none)(hc:H c=none)(ne:a≠c)(s:bH H H')(ea:∃u,H' a=some u/\∀xs,u≠.tup xs)(ec:∃u,H' c=some u/\∀xs,u≠.tup xs):Rp K H' ((.bare,some (.ref a))::(.bare,some (.ref c))::Γ):=by
 obtain⟨ua,ea,na⟩:=ea;obtain⟨uc,ec,nc⟩:=ec;obtain⟨Hz,N,h,nd,g,d⟩:=h;have n1:a ∉ N:=fun m=>by obtain⟨⟨u,e⟩,_⟩:=h.there a m;rw[ha]at e;cases e
 have n2:c ∉ N:=fun m=>by obtain⟨⟨u,e⟩,_⟩:=h.there c m;rw[hc]at e;cases e
 refine⟨Hz,[a]++([c]++N),.cons rfl (.inr ⟨_,rfl,.bare ea fun xs z=>?_⟩) (.cons rfl (.inr ⟨_,rfl,.bare ec fun xs z=>?_⟩) (h.move (bH.tk s) .bW fun b m u e=>jz s b u e)),?_,g.trans (.of s),?_⟩
 ·rw[ea]at z;exact na xs (I_ z)
 ·rw[ec]at z;exact nc xs (I_ z)
 ·show(a::c::N).Nodup;rw[D',D'];exact⟨fun m=>(o_.mp m).elim (fun z=>ne z) n1,n2,nd⟩
 intro b m;have m:b∈a::c::N:=m;rcases o_.mp m with rfl|m
 ·exact g.none ha
 rcases o_.mp m with rfl|m
 ·exact g.none hc
 exact d b m
theorem A5(D:Dfn K mg "_law_take" tL ["_law_state","_law_many"])(TX:Txt mg):Cal P w K mg base 1 "_law_take" ["_law_state","_law_many"] (aG K 2 jV):=by
 refine(D.cal fun _ _ F=>Cj F TX).imp ?_;rintro vs H Q E ⟨ts,Fr,k,l,hn,rp,⟨c,n,m,rfl,h1,h2,h3,pk⟩,q⟩;obtain⟨x,y,rfl⟩:=zz2 l rfl;have rp:Rp K H ((stT c n,some x)::(.int m,some y)::Fr):=rp;have ey:=aU rp.tail;subst ey;obtain⟨st,lc,rfl,S,rp2⟩:=HG rp;refine⟨st,lc,c.cs,n,m,rfl,S,by omega,by omega,h2,h3,fun r cs' H' hr0 hr1 S' kp=>?_⟩;have rp3:=Im rp2 kp ⟨_,S'.d,fun _ z=>by cases z⟩ ⟨_,S'.l,fun _ z=>by cases z⟩;have S'':StAt H' st lc cs' ((n+1:Nat):Int):=by push_cast;exact S'
 obtain⟨c',rp4⟩:=AS S'' rp3;exact q _ _ _ _ (pk r c' hr0 hr1) (bI rp4 fun _=>.int)
theorem xm{w y:V}(h:Rp K H ((.hole w,some y)::Γ)):y=w:=by
 obtain⟨_,_,r,_⟩:=fE h rfl;cases r
 rfl
theorem zg(D:Dfn K mg "_law_begin" oD ["_law_script"])(TX:Txt mg):Cal P w K mg base 1 "_law_begin" ["_law_script"] (aG K 1 (tM K)):=by
 refine(D.cal fun _ _ F=>A2 F TX).imp ?_;rintro vs H Q E ⟨ts,Fr,k,l,hn,rp,⟨t,ns,rfl,hs,h1,pk⟩,q⟩;obtain⟨x,rfl⟩:=zz1 l rfl;have rp:Rp K H ((t,some x)::Fr):=rp;obtain⟨a,rfl,hq⟩:∃a,x=.ref a/\SqL K H a (ns.map V.int):=by
  rcases hs with rfl|⟨a,rfl,hs⟩
  ·obtain⟨a,us,rfl,hq,l2,rp2⟩:=aJ rfl rp;have eu:=fA l2 rp2;subst eu;exact⟨a,rfl,hq⟩
  exact⟨a,xm rp,hs H⟩
 refine⟨a,ns,rfl,hq,h1,fun st lc cs H' hs hl S g=>?_⟩;have rp3:=Dx rp hs hl S.ne g ⟨_,S.d,fun _ z=>by cases z⟩ ⟨_,S.l,fun _ z=>by cases z⟩;obtain⟨c,rp4⟩:=AS (n:=0) S rp3;exact q _ _ _ _ (pk c) rp4
noncomputable def BC(K:N7):FP:=fun ts k=>∃t,∃ns:List Int,ts=[t]/\Scr K t ns/\ns.length<=63/\∀z,k (.bl true) [z]
noncomputable def yK(K:N7):Sp:=fun vs H Q _=>∃(a:N8) (ns:List Int),vs=[.ref a]/\SqL K H a (ns.map V.int)/\ns.length<=63/\∀H',Q (.bl true) H'
theorem vv{Hz H:Hp}:∀(ns:List Int),RepTs K Hz H (ns.map T.int) (ns.map V.int) []
 | []=>.nil
 | _::r=>.cons rfl .int (vv r)
theorem G2{k:Nat}(F:FnOk P w K mg base CX0 k f fd ["_law_script"] (aG K 1 (BC K))):FnOk P w K mg base CX0 k f fd ["_law_script"] (yK K):=by
 refine F.imp ?_;rintro vs H Q E ⟨a,ns,rfl,hq,h1,q⟩;have key:∀t,Scr K t ns->(∀Hz,RepT K H Hz t (.ref a) [])->aG K 1 (BC K) [.ref a] H Q E:=fun t sc ht=>
  ⟨[t],[],fun t _=>t=.bl true,rfl,rfl,⟨H,[],.cons rfl (.inr ⟨_,rfl,ht H⟩) .nil,KA,.bW,fun _ m=>by cases m⟩,⟨t,ns,rfl,sc,h1,fun _=>rfl⟩,fun t ts' v H' e rp=>by subst e;rw[m7 rp];exact q H'⟩
 rcases hq with hq|hq
 ·exact key _ (.inl rfl) fun Hz=>.lstZ hq (vv ns)
 exact key _ (.inr ⟨a,rfl,fun H=>.inr hq⟩) fun Hz=>.hole
end
open PySem L2 PL
abbrev tU:T:=.cst [.cst [.int 1,.int 0],.cst [.int 1,.int 1],.cst [.int 0,.int 1],.cst [.int (-1),.int 1],.cst [.int (-1),.int 0],.cst [.int (-1),.int (-1)],.cst [.int 0,.int (-1)],.cst [.int 1,.int (-1)]]
abbrev yy:T:=.cst [.cst [.int 3,.int 2],.cst [.int 2,.int 3],.cst [.int 1,.int 2],.cst [.int 2,.int 1]]
theorem CT{l:List α}{i:Int}(h0:0<=i)(h1:i<l.length):∃x,x∈l/\atI l i=some x:=by
 have h:i.toNat<l.length:=by lia
 refine⟨l[i.toNat],Ki h,?_⟩;have:=cH (xs:=l) (j:=i.toNat) (c_ h);rwa[Int.toNat_of_nonneg h0]at this
variable {ns:List Int}
theorem fT(P:Int->Prop){i:Int}(h0:0<=i)(h1:i<ns.length)(hp:∀x∈ns,P x):∃v,atI (ns.map T.int) i=some (.int v)/\P v:=by obtain⟨t,m,e⟩:=CT (l:=ns.map T.int) h0 (by rw[a_];exact h1);obtain⟨v,mv,rfl⟩:=t_.mp m;exact⟨v,e,hp v mv⟩
theorem Fq{K:N7}{t:T}(h:Scr K t ns):er t=t/\isAny t=false:=by
 rcases h with rfl|⟨a,rfl,_⟩
 ·exact⟨by simp only[er,cv],rfl⟩
 exact⟨rfl,rfl⟩
theorem C4{c:Cells}:bC (stT c n)=true:=by simp only[stT,bC,qg,bj,cF,JI,L4]
variable {i:Nat}
theorem map_take{g:α->β}{l:List α}{x:α}(h:l[i]?=some x):JV g (l.take (i+1))=JV g (l.take i)++[g x]:=by rw[JR,h,v_];rfl
theorem rO{g:α->β}{p:α->Bool}{l:List α}{x:α}(h:l[i]?=some x):JV g ((l.take (i+1)).filter p)=JV g ((l.take i).filter p)++(if p x then [g x]else []):=by rw[JR,h,Mk,v_];congr 1;show JV g (Nm p [x])=_;rw[JN];cases p x <;> rfl
def Gd(t:T)(n:Nat):Prop:=isD t=true/\dpt (dt t)<=n
def GdL(ts:List T)(n:Nat):Prop:=sR ts=true/\iW (dtL ts)<=n
theorem o7{i:Int}:Gd (.int i) n:=⟨rfl,by rw[dt,dpt.eq_def];exact E_ _⟩
theorem fy:GdL [] n:=⟨rfl,by simp only[dtL,iW,E_]⟩
variable {ts:List T}
theorem aP{t:T}(h:Gd t n)(r:GdL ts n):GdL (t::ts) n:=⟨by rw[sR,h.1,r.1];rfl,by rw[dtL,iW];exact Nat.max_le.mpr ⟨h.2,r.2⟩⟩
theorem gx{g:α->T}{l:List α}(h:∀x∈l,Gd (g x) n):GdL (l.map g) n:=by
 induction l with
 |nil=>exact fy
 |cons x l ih=>exact aP (h x (n_ ..)) (ih fun y m=>h y (j_ _ m))
theorem Be{o:Bool}(h:GdL ts n):Gd (.lst o ts) (n+1):=⟨h.1,by rw[dt,dpt];exact MJ h.2⟩
theorem sP(h:GdL ts n):Gd (.tup ts) (n+1):=⟨h.1,by rw[dt,dpt];exact MJ h.2⟩
theorem DU{x:Str}:Gd (.str x) n:=⟨rfl,by rw[dt,dpt.eq_def];exact E_ _⟩
structure Oc where
 a:Int
 b:Int
 c:Int
 d:Int
 e:Int
 f:Int
 g:Int
 h:Int
noncomputable def Vo(o:Oc):Prop:=(o.a<=o.b/\o.c<=o.d)/\(o.e<=o.f/\o.g<=o.h)/\(o.b+o.c<=o.f/\o.g+o.c<=o.a)/\(o.e<=o.a+o.d/\o.e+o.g<=2*o.a)/\o.b<=o.h+o.d/\2*o.b<=o.f+o.h
abbrev Qt:=Int×Int×Nat
def px(s:Nat):Int:=[6,4,2,4].getD s 0
def py(s:Nat):Int:=[5,7,3,1].getD s 0
noncomputable def inL(o:Oc)(q:Qt):Prop:=((8*o.a<=8*q.1+px q.2.2/\8*q.1+px q.2.2<=8*o.b)/\8*o.c<=8*q.2.1+py q.2.2/\8*q.2.1+py q.2.2<=8*o.d)/\(8*o.e<=8*q.1+px q.2.2+(8*q.2.1+py q.2.2)/\8*q.1+px q.2.2+(8*q.2.1+py q.2.2)<=8*o.f)/\8*o.g<=8*q.1+px q.2.2-(8*q.2.1+py q.2.2)/\8*q.1+px q.2.2-(8*q.2.1+py q.2.2)<=8*o.h
instance (o:Oc) (q:Qt):Decidable (inL o q):=by unfold inL;infer_instance
def inU(os:List Oc)(q:Qt):Prop:=∃o∈os,inL o q
instance (os:List Oc) (q:Qt):Decidable (inU os q):=by unfold inU;infer_instance
noncomputable def cl4(p:Nat->Prop)[DecidablePred p](x y:Int):List Qt:=((u_ 4).filter p).map fun s=>(x,y,s)
noncomputable def o9(f:Int->List α)(a:Int)(n:Nat):List α:=(u_ n).flatMap fun(j:Nat)=>f (a+j)
variable {a:Int}
theorem e9{f:Int->List α}:o9 f a (n+1)=o9 f a n++f (a+n):=by unfold o9;rw[Lf,K_,MX]
theorem cg{f:Int->List α}{x:α}:x∈o9 f a n↔∃i,a<=i/\i<a+n/\x∈f i:=by
 unfold o9;rw[K7];constructor
 ·rintro⟨j,m,e⟩;have:=B'.mp m;exact⟨_,by lia,by lia,e⟩
 rintro⟨i,h1,h2,e⟩;exact⟨(i-a).toNat,B'.mpr (by lia),by rw[show a+((i-a).toNat:Int)=i by lia];exact e⟩
variable {q:Qt}{x y:Int}
theorem m9{p:Nat->Prop}[DecidablePred p]:q∈cl4 p x y↔q.1=x/\q.2.1=y/\q.2.2<4/\p q.2.2:=by
 unfold cl4;rw[t_];constructor
 ·rintro⟨s,m,rfl⟩;rw[JJ]at m;exact⟨rfl,rfl,B'.mp m.1,of_decide_eq_true m.2⟩
 rintro⟨rfl,rfl,h1,h2⟩;exact⟨q.2.2,JJ.mpr ⟨B'.mpr h1,decide_eq_true h2⟩,rfl⟩
theorem GL[DecidableEq α]{l:List α}:∀{m:List α},l.Nodup->(∀x∈l,x∈m)->l.length<=m.length:=by
 induction l with
 |nil=>exact fun _ _=>E_ _
 |cons x l ih=>
  intro m nd h;obtain⟨n1,n2⟩:=D'.mp nd;have hx:=h x n_;have:=ih (m:=m.erase x) n2 fun y hy=>(M7 (fun e:y=x=>n1 (by rw[<-e];exact hy))).mpr (h y (j_ _ hy))
  rw[MF hx]at this;have:=MV hx;rw[d_];lia
noncomputable def ocT(o:Oc):T:=.tup [.int o.a,.int o.b,.int o.c,.int o.d,.int o.e,.int o.f,.int o.g,.int o.h]
variable {o:Oc}
theorem jX:er (ocT o)=ocT o:=rfl
theorem dB:bC (ocT o)=true:=rfl
theorem du:aS (ocT o)=true:=rfl
theorem dh:isAny (ocT o)=false:=rfl
def ocL(o:Oc):List Int:=[o.a,o.b,o.c,o.d,o.e,o.f,o.g,o.h]
theorem Au(o:Oc):ocT o=iT (ocL o):=rfl
theorem kK{i:Int}{k:T->Prop}:ixT (ocT o) (.int i) k=ixT (.tup [.int o.a,.int o.b,.int o.c,.int o.d,.int o.e,.int o.f,.int o.g,.int o.h]) (.int i) k:=rfl
theorem sizeLine_eq:sizeLine=16777216:=rfl
theorem fq{ps:List α}{g:α->Int}:intsOf (ps.map fun p=>T.int (g p))=some (ps.map g):=by
 induction ps with
 |nil=>rfl
 |cons p ps ih=>rw[f',intsOf,ih];rfl
theorem c4(x:Int):wd 4 x:=.inl ⟨by decide,by decide⟩
abbrev Pt:=Int×Int
def ptP(p:Pt):T:=pt p.1 p.2
variable {p:Pt}
theorem cE:er (ptP p)=ptP p:=rfl
theorem bu:bC (ptP p)=true:=rfl
theorem b6:aS (ptP p)=true:=rfl
theorem b7:isAny (ptP p)=false:=rfl
theorem bV{k:T->Prop}:ixT (ptP p) (.int 0) k=k (.int p.1):=rfl
theorem bT{k:T->Prop}:ixT (ptP p) (.int 1) k=k (.int p.2):=rfl
theorem b9{k:T->Prop}:si [ptP p] k=k (ptP p):=rfl
theorem Ap{p q:Pt}{k:T->Prop}:eqT (ptP p) (ptP q) k=k (.bl (decide (p=q))):=by unfold ptP;rw[jd];congr 2;rw[decide_eq_decide];exact⟨fun h=>L8 h.1 h.2,fun h=>by rw[h];exact⟨rfl,rfl⟩⟩
def GX:List Pt:=[(1,0),(1,1),(0,1),(-1,1),(-1,0),(-1,-1),(0,-1),(1,-1)]
def st8(d:Nat):Pt:=GX.getD d (0,0)
def vJ(p:Pt)(d:Nat)(m:Int):Pt:=(p.1+(st8 d).1*m,p.2+(st8 d).2*m)
theorem Bi{d:Nat}(h:d<8):atI [T.cst [.int 1,.int 0],.cst [.int 1,.int 1],.cst [.int 0,.int 1],.cst [.int (-1),.int 1],.cst [.int (-1),.int 0],.cst [.int (-1),.int (-1)],.cst [.int 0,.int (-1)],.cst [.int 1,.int (-1)]] (d:Int)=some (.cst [.int (st8 d).1,.int (st8 d).2]):=by
 match d,h with
 |0,_=>rfl
 |1,_=>rfl
 |2,_=>rfl
 |3,_=>rfl
 |4,_=>rfl
 |5,_=>rfl
 |6,_=>rfl
 |7,_=>rfl
theorem zo(d:Nat)(h:d<8):-1<=(st8 d).1/\(st8 d).1<=1/\-1<=(st8 d).2/\(st8 d).2<=1:=by
 match d,h with
 |0,_=>decide
 |1,_=>decide
 |2,_=>decide
 |3,_=>decide
 |4,_=>decide
 |5,_=>decide
 |6,_=>decide
 |7,_=>decide
def far(p q:Pt):Int:=max ((q.1-p.1).natAbs:Int) ((q.2-p.2).natAbs:Int)
noncomputable def lead(p q:Pt):Option Nat:=if far p q=0 then none else(u_ 8).find? fun d=>decide (vJ p d (far p q)=q)
noncomputable def y8(p q:Pt):T:=match lead p q with
 |none=>.non
 |some d=>.tup [.int (d:Int),.int (far p q)]
noncomputable def uX(o q:Oc):Oc:=⟨o.a+q.a,o.b+q.b,o.c+q.c,o.d+q.d,o.e+q.e,o.f+q.f,o.g+q.g,o.h+q.h⟩
def oc1(p:Pt):Oc:=⟨p.1,p.1,p.2,p.2,p.1+p.2,p.1+p.2,p.1-p.2,p.1-p.2⟩
noncomputable def oc2(p q:Pt):Oc:=⟨min p.1 q.1,max p.1 q.1,min p.2 q.2,max p.2 q.2,min (p.1+p.2) (q.1+q.2),max (p.1+p.2) (q.1+q.2),min (p.1-p.2) (q.1-q.2),max (p.1-p.2) (q.1-q.2)⟩
def gO(j:Nat)(p:Pt):Int:=[p.1,p.2,p.1+p.2,p.1-p.2].getD j 0
noncomputable def AL(ps:List Pt)(o:Oc):Prop:=((iS (ps.map (gO 0)) o.a/\iQ (ps.map (gO 0)) o.b)/\(iS (ps.map (gO 1)) o.c/\iQ (ps.map (gO 1)) o.d))/\(iS (ps.map (gO 2)) o.e/\iQ (ps.map (gO 2)) o.f)/\iS (ps.map (gO 3)) o.g/\iQ (ps.map (gO 3)) o.h
theorem Ar{f:Nat->Int×Int}{m M:Int}:(u_ (i+1)).flatMap (fun j=>[T.int (if j=i then(m,M)else f j).1,T.int (if j=i then(m,M)else f j).2])=(u_ i).flatMap (fun j=>[T.int (f j).1,T.int (f j).2])++[T.int m]++[T.int M]:=by
 rw[Lf,K_,k_];have ec:(u_ i).flatMap (fun j=>[T.int (if j=i then(m,M)else f j).1,T.int (if j=i then(m,M)else f j).2])=(u_ i).flatMap fun j=>[T.int (f j).1,T.int (f j).2]:=by rw[Nv,Nv];refine congrArg List.flatten (Ky fun j hj=>?_);have:=B'.mp hj;rw[if_neg (by lia)]
 rw[ec];congr 1;show [T.int (if i=i then(m,M)else f i).1,T.int (if i=i then(m,M)else f i).2]++[]=_;rw[if_pos rfl]
 rfl
theorem IM(h:AL [p] o):o=oc1 p:=by
 obtain⟨⟨⟨h1,h2⟩,h3,h4⟩,⟨h5,h6⟩,h7,h8⟩:=h;have k:∀{x y:Int},iS [x] y->y=x:=fun h=>A'.mp h.1;have k':∀{x y:Int},iQ [x] y->y=x:=fun h=>A'.mp h.1;obtain⟨a,b,c,d,e,f,g,h⟩:=o;have e1:=k h1;have e2:=k' h2;have e3:=k h3;have e4:=k' h4;have e5:=k h5;have e6:=k' h6;have e7:=k h7;have e8:=k' h8;dsimp only at e1 e2 e3 e4 e5 e6 e7 e8;rw[e1,e2,e3,e4,e5,e6,e7,e8]
 rfl
theorem Iy{q:Pt}(h:AL [p,q] o):o=oc2 p q:=by
 obtain⟨⟨⟨h1,h2⟩,h3,h4⟩,⟨h5,h6⟩,h7,h8⟩:=h;have k:∀{x z y:Int},iS [x,z] y->y=min x z:=fun{x z y} h=>by have a1:=h.2 x (.head _);have a2:=h.2 z (.tail _ (.head _));have a3:=h.1;simp only[o_,JO,or_false]at a3;lia
 have k':∀{x z y:Int},iQ [x,z] y->y=max x z:=fun{x z y} h=>by have a1:=h.2 x (.head _);have a2:=h.2 z (.tail _ (.head _));have a3:=h.1;simp only[o_,JO,or_false]at a3;lia
 obtain⟨a,b,c,d,e,f,g,h⟩:=o;have e1:=k h1;have e2:=k' h2;have e3:=k h3;have e4:=k' h4;have e5:=k h5;have e6:=k' h6;have e7:=k h7;have e8:=k' h8;dsimp only at e1 e2 e3 e4 e5 e6 e7 e8;rw[e1,e2,e3,e4,e5,e6,e7,e8]
 rfl
def mkO(r k:Int)(p:Pt):Oc:=uX ⟨-r,r,-r,r,-(r+k),r+k,-(r+k),r+k⟩ (oc1 p)
def swO(r k:Int)(p q:Pt):Oc:=uX (mkO r k (0,0)) (oc2 p q)
noncomputable def mkQ(r R x y:Int):Oc:=⟨x-r,x+r,y-r,y+r,x+y-R,x+y+R,x-y-R,x-y+R⟩
noncomputable def swQ(r R x y x' y':Int):Oc:=⟨min x x'-r,max x x'+r,min y y'-r,max y y'+r,min (x+y) (x'+y')-R,max (x+y) (x'+y')+R,min (x-y) (x'-y')-R,max (x-y) (x'-y')+R⟩
variable {x' y':Int}
theorem mn{r R:Int}:swQ r R x y x' y'=swQ r R x' y' x y:=by unfold swQ;simp only[Int.min_comm,Int.max_comm]
theorem Gy{r R α β:Int}(h0:1<=r)(h1:r<R)(b1:-(8*r)<=β)(b2:β<=8*r)(a1:-(8*r)<=α)(s1:-(8*R)<=α+β)(d1:-(8*R)<=α-β):∀n:Nat,α<=8*n+8*r->α+β<=8*n+8*R->α-β<=8*n+8*R->∃i:Nat,i<=n/\(-(8*r)<=α-8*i/\α-8*i<=8*r)/\(-(8*R)<=α+β-8*i/\α+β-8*i<=8*R)/\-(8*R)<=α-β-8*i/\α-β-8*i<=8*R
 |0,a2,s2,d2=>⟨0,b_ _,by lia⟩
 |n+1,a2,s2,d2=>by
  by_cases g:α<=8*n+8*r/\α+β<=8*n+8*R/\α-β<=8*n+8*R
  ·obtain⟨i,hi,k⟩:=Gy h0 h1 b1 b2 a1 s1 d1 n g.1 g.2.1 g.2.2;exact⟨i,LY hi,k⟩
  exact⟨n+1,b_ _,by lia⟩
theorem Fs{r R α β:Int}(h0:1<=r)(h1:r<R)(h2:R<2*r)(c1:-(8*R)<=α-β)(c2:α-β<=8*R)(a1:-(8*r)<=α)(b1:-(8*r)<=β)(s1:-(8*R)<=α+β):∀n:Nat,α<=8*n+8*r->β<=8*n+8*r->α+β<=16*n+8*R->∃i:Nat,i<=n/\(-(8*r)<=α-8*i/\α-8*i<=8*r)/\(-(8*r)<=β-8*i/\β-8*i<=8*r)/\-(8*R)<=α+β-16*i/\α+β-16*i<=8*R
 |0,a2,b2,s2=>⟨0,b_ _,by lia⟩
 |n+1,a2,b2,s2=>by
  by_cases g:α<=8*n+8*r/\β<=8*n+8*r/\α+β<=16*n+8*R
  ·obtain⟨i,hi,k⟩:=Fs h0 h1 h2 c1 c2 a1 b1 s1 n g.1 g.2.1 g.2.2;exact⟨i,LY hi,k⟩
  exact⟨n+1,b_ _,by lia⟩
theorem iR:(min a (a+n)=a/\max a (a+n)=a+n)/\min a (a-n)=a-n/\max a (a-n)=a:=⟨⟨KJ (by lia),Kj (by lia)⟩,KD (by lia),Kt (by lia)⟩
theorem yh{r R:Int}:swQ r R x y (x+n) y=⟨x-r,x+n+r,y-r,y+r,x+y-R,x+y+n+R,x-y-R,x-y+n+R⟩/\swQ r R x y (x+n) (y+n)=⟨x-r,x+n+r,y-r,y+n+r,x+y-R,x+y+(n+n:Nat)+R,x-y-R,x-y+R⟩/\swQ r R x y x (y+n)=⟨x-r,x+r,y-r,y+n+r,x+y-R,x+y+n+R,x-y-n-R,x-y+R⟩/\swQ r R x y (x+n) (y-n)=⟨x-r,x+n+r,y-n-r,y+r,x+y-R,x+y+R,x-y-R,x-y+(n+n:Nat)+R⟩:=by
 unfold swQ;refine⟨?_,?_,?_,?_⟩
 ·rw[show x+n+y=x+y+n by lia,show x+n-y=x-y+n by lia];simp only[iR.1.1,iR.1.2,MK,ML]
 ·rw[show x+n+(y+n)=x+y+(n+n:Nat) by lia,show x+n-(y+n)=x-y by lia];simp only[iR.1.1,iR.1.2,MK,ML]
 ·rw[show x+(y+n)=x+y+n by lia,show x-(y+n)=x-y-n by lia];simp only[iR.1.1,iR.1.2,iR.2.1,iR.2.2,MK,ML]
 rw[show x+n+(y-n)=x+y by lia,show x+n-(y-n)=x-y+(n+n:Nat) by lia];simp only[iR.1.1,iR.1.2,iR.2.1,iR.2.2,MK,ML]
theorem Hn{r R:Int}(h4:q.2.2<4)(h0:1<=r)(h1:r<R)(h2:R<2*r)(h:inL (swQ r R x y (x+n) y) q):∃i:Nat,i<=n/\inL (mkQ r R (x+i) y) q:=by rw[yh.1]at h;unfold inL at *;obtain⟨⟨⟨k1,k2⟩,k3,k4⟩,⟨k5,k6⟩,k7,k8⟩:=h;generalize 8*q.1+px q.2.2=U at *;generalize 8*q.2.1+py q.2.2=V at *;dsimp only at *;obtain⟨i,hi,⟨j1,j2⟩,⟨j3,j4⟩,j5,j6⟩:=Gy (α:=U-8*x) (β:=V-8*y) h0 h1 (by lia) (by lia) (by lia) (by lia) (by lia) n (by lia) (by lia) (by lia);refine⟨i,hi,?_⟩;unfold mkQ;dsimp only;lia
theorem GZ{r R:Int}(h4:q.2.2<4)(h0:1<=r)(h1:r<R)(h2:R<2*r)(h:inL (swQ r R x y x (y+n)) q):∃i:Nat,i<=n/\inL (mkQ r R x (y+i)) q:=by rw[yh.2.2.1]at h;unfold inL at *;obtain⟨⟨⟨k1,k2⟩,k3,k4⟩,⟨k5,k6⟩,k7,k8⟩:=h;generalize 8*q.1+px q.2.2=U at *;generalize 8*q.2.1+py q.2.2=V at *;dsimp only at *;obtain⟨i,hi,⟨j1,j2⟩,⟨j3,j4⟩,j5,j6⟩:=Gy (α:=V-8*y) (β:=U-8*x) h0 h1 (by lia) (by lia) (by lia) (by lia) (by lia) n (by lia) (by lia) (by lia);refine⟨i,hi,?_⟩;unfold mkQ;dsimp only;lia
theorem Ia{r R:Int}(h4:q.2.2<4)(h0:1<=r)(h1:r<R)(h2:R<2*r)(h:inL (swQ r R x y (x+n) (y+n)) q):∃i:Nat,i<=n/\inL (mkQ r R (x+i) (y+i)) q:=by rw[yh.2.1]at h;unfold inL at *;obtain⟨⟨⟨k1,k2⟩,k3,k4⟩,⟨k5,k6⟩,k7,k8⟩:=h;generalize 8*q.1+px q.2.2=U at *;generalize 8*q.2.1+py q.2.2=V at *;dsimp only at *;obtain⟨i,hi,⟨j1,j2⟩,⟨j3,j4⟩,j5,j6⟩:=Fs (α:=U-8*x) (β:=V-8*y) h0 h1 h2 (by lia) (by lia) (by lia) (by lia) (by lia) n (by lia) (by lia) (by lia);refine⟨i,hi,?_⟩;unfold mkQ;dsimp only;lia
theorem Ic{r R:Int}(h4:q.2.2<4)(h0:1<=r)(h1:r<R)(h2:R<2*r)(h:inL (swQ r R x y (x+n) (y-n)) q):∃i:Nat,i<=n/\inL (mkQ r R (x+i) (y-i)) q:=by rw[yh.2.2.2]at h;unfold inL at *;obtain⟨⟨⟨k1,k2⟩,k3,k4⟩,⟨k5,k6⟩,k7,k8⟩:=h;generalize 8*q.1+px q.2.2=U at *;generalize 8*q.2.1+py q.2.2=V at *;dsimp only at *;obtain⟨i,hi,⟨j1,j2⟩,⟨j3,j4⟩,j5,j6⟩:=Fs (α:=U-8*x) (β:=8*y-V) h0 h1 h2 (by lia) (by lia) (by lia) (by lia) (by lia) n (by lia) (by lia) (by lia);refine⟨i,hi,?_⟩;unfold mkQ;dsimp only;lia
theorem btw{e:Int}(h:i<=n):min a (a+n*e)<=a+i*e/\a+i*e<=max a (a+n*e):=by
 rcases JW 0 e with g|g
 ·have k1:=Int.mul_nonneg (LM i) g;have k2:=Int.mul_le_mul_of_nonneg_right (NR.mpr h) g;generalize (i:Int)*e=u at *;generalize (n:Int)*e=v at *;exact⟨KH (Kb _ _) (by lia),KH (by lia) (Kk _ _)⟩
 have k1:=Int.mul_nonpos_of_nonneg_of_nonpos (LM i) g;have k2:=Int.mul_le_mul_of_nonpos_right (NR.mpr h) g;generalize (i:Int)*e=u at *;generalize (n:Int)*e=v at *;exact⟨KH (Kl _ _) (by lia),KH (by lia) (Kc _ _)⟩
def DE:List (Int×Int):=[(1,0),(1,1),(0,1),(-1,1),(-1,0),(-1,-1),(0,-1),(1,-1)]
theorem Du{b r U:Int}(h:a<=b)(k:8*(b-r)<=U):8*(a-r)<=U:=by lia
theorem Cf{b r U:Int}(h:b<=a)(k:U<=8*(b+r)):U<=8*(a+r):=by lia
theorem CM{r R:Int}{d:Int×Int}(ex:x'=x+n*d.1)(ey:y'=y+n*d.2)(hi:i<=n)(g:inL (mkQ r R (x+i*d.1) (y+i*d.2)) q):inL (swQ r R x y x' y') q:=by have u1:=btw (a:=x) (e:=d.1) hi;have u2:=btw (a:=y) (e:=d.2) hi;have u3:=btw (a:=x+y) (e:=d.1+d.2) hi;have u4:=btw (a:=x-y) (e:=d.1-d.2) hi;rw[Nn,Nn,show x+y+(n*d.1+n*d.2)=x'+y' by rw[ex,ey];lia,show x+y+(i*d.1+i*d.2)=x+i*d.1+(y+i*d.2) by lia]at u3;rw[N2,N2,show x-y+(n*d.1-n*d.2)=x'-y' by rw[ex,ey];lia,show x-y+(i*d.1-i*d.2)=x+i*d.1-(y+i*d.2) by lia]at u4;rw[<-ex]at u1;rw[<-ey]at u2;obtain⟨⟨⟨k1,k2⟩,k3,k4⟩,⟨k5,k6⟩,k7,k8⟩:=g;exact⟨⟨⟨Du u1.1 k1,Cf u1.2 k2⟩,Du u2.1 k3,Cf u2.2 k4⟩,⟨Du u3.1 k5,Cf u3.2 k6⟩,Du u4.1 k7,Cf u4.2 k8⟩
theorem FO{n:Int}:n * -1=-n/\n*1=n/\n*0=0:=⟨by lia,NU n,Int.mul_zero n⟩
theorem FJ{r R:Int}(h4:q.2.2<4)(h0:1<=r)(h1:r<R)(h2:R<2*r){d:Int×Int}(hd:d∈DE)(ex:x'=x+n*d.1)(ey:y'=y+n*d.2):inL (swQ r R x y x' y') q↔∃i:Nat,i<=n/\inL (mkQ r R (x+i*d.1) (y+i*d.2)) q:=by
 constructor
 ·intro h;simp only[DE,o_,JO,or_false]at hd;have bk:∀{i:Nat},i<=n->((n-i:Nat):Int)=n-i:=fun h=>Int.ofNat_sub h;rcases hd with rfl|rfl|rfl|rfl|rfl|rfl|rfl|rfl <;> simp only[FO,Int.add_zero]at ex ey ⊢
  ·subst ex ey;exact Hn h4 h0 h1 h2 h
  ·subst ex ey;exact Ia h4 h0 h1 h2 h
  ·subst ex ey;exact GZ h4 h0 h1 h2 h
  ·rw[mn,show x=x'+n by lia,show y=y'-n by lia]at h;obtain⟨i,hi,g⟩:=Ic h4 h0 h1 h2 h;exact⟨n-i,JQ _ _,by rw[bk hi,show x + -((n:Int)-i)=x'+i by lia,show y+((n:Int)-i)=y'-i by lia];exact g⟩
  ·rw[mn,show x=x'+n by lia,ey]at h;obtain⟨i,hi,g⟩:=Hn h4 h0 h1 h2 h;exact⟨n-i,JQ _ _,by rw[bk hi,show x + -((n:Int)-i)=x'+i by lia];exact g⟩
  ·rw[mn,show x=x'+n by lia,show y=y'+n by lia]at h;obtain⟨i,hi,g⟩:=Ia h4 h0 h1 h2 h;exact⟨n-i,JQ _ _,by rw[bk hi,show x + -((n:Int)-i)=x'+i by lia,show y + -((n:Int)-i)=y'+i by lia];exact g⟩
  ·rw[mn,ex,show y=y'+n by lia]at h;obtain⟨i,hi,g⟩:=GZ h4 h0 h1 h2 h;exact⟨n-i,JQ _ _,by rw[bk hi,show y + -((n:Int)-i)=y'+i by lia];exact g⟩
  rw[ex,show y'=y-n by lia]at h;exact Ic h4 h0 h1 h2 h
 rintro⟨i,hi,g⟩;exact CM ex ey hi g
def stp(k:Nat):Int×Int:=DE.getD k (0,0)
def gon(a:Pt)(k:Nat)(m:Int):Pt:=(a.1+(stp k).1*m,a.2+(stp k).2*m)
def mny(a b:Pt):Int:=max ((b.1-a.1).natAbs:Int) ((b.2-a.2).natAbs:Int)
noncomputable def sk(a b:Pt):Option (Nat×Int):=if mny a b=0 then none else((u_ 8).find? fun k=>decide (gon a k (mny a b)=b)).map fun k=>(k,mny a b)
noncomputable def gOn(w:Pt×Pt)(c:Pt):Bool:=if c=w.2 then true else match sk w.1 c with
 |none=>false
 |some (k,m)=>match sk w.1 w.2 with
  |none=>decide (m=1)
  |some (k',m')=>decide (k=k'/\m=m'+1)
def WOk(w:Pt×Pt):Prop:=∃k,k<8/\∃n:Nat,w.2=gon w.1 k n
noncomputable def onW(w:Pt×Pt)(p:Pt):Prop:=∃k,k<8/\∃n i:Nat,i<=n/\w.2=gon w.1 k n/\p=gon w.1 k i
theorem B1{k:Nat}(h:k<8):stp k∈DE/\-1<=(stp k).1/\(stp k).1<=1/\-1<=(stp k).2/\(stp k).2<=1/\((stp k).1=1\/(stp k).1=-1\/(stp k).2=1\/(stp k).2=-1):=by
 have:k=0\/k=1\/k=2\/k=3\/k=4\/k=5\/k=6\/k=7:=by lia
 rcases this with rfl|rfl|rfl|rfl|rfl|rfl|rfl|rfl <;> decide
theorem Cc{k k':Nat}(h:k<8)(h':k'<8)(e:stp k=stp k'):k=k':=by
 have d:∀k<8,∀k'<8,stp k=stp k'->k=k':=by decide
 exact d k h k' h' e
theorem tG{a:Pt}{k:Nat}(h:k<8):mny a (gon a k n)=n:=by
 have e:∀x d:Int,((x+d*n-x).natAbs:Int)=(d.natAbs:Int)*n:=fun x d=>by rw[KI,Int.add_sub_cancel,Int.natAbs_mul,Int.natAbs_natCast,Int.natCast_mul]
 have c:∀k<8,((stp k).1.natAbs=1\/(stp k).1.natAbs=0/\(stp k).2.natAbs=1)/\(stp k).2.natAbs<=1:=by decide
 obtain⟨c1,c2⟩:=c k h;unfold mny gon;dsimp only;rw[e,e];rcases c1 with g|⟨g,g'⟩
 ·rw[g,MR,Np];refine Kt ?_;rcases Nat.le_one_iff_eq_zero_or_eq_one.mp c2 with z|z <;> rw[z]
  ·rw[Nw,NS];exact LM n
  rw[MR,Np];exact Int.le_refl _
 rw[g,g',Nw,NS,MR,Np];exact Kj (LM n)
theorem yo{a:Pt}{k k' n':Nat}(h:k<8)(h':k'<8)(e:gon a k n=gon a k' n'):n=n'/\(n=0\/k=k'):=by
 have e1:n=n':=by have:=tG (a:=a) (n:=n) h;rw[e,tG h']at this;lia
 subst e1;refine⟨rfl,?_⟩;by_cases z:n=0
 ·exact .inl z
 refine .inr (Cc h h' ?_);unfold gon at e;obtain⟨e1,e2⟩:=NW e;have f:∀{u v:Int},u*(n:Int)=v*(n:Int)->u=v:=fun g=>Int.eq_of_mul_eq_mul_right (by lia) g
 exact L8 (f (by lia)) (f (by lia))
theorem nF{a b:Pt}{k:Nat}{m:Int}(h:sk a b=some (k,m)):k<8/\∃n:Nat,1<=n/\m=n/\b=gon a k n:=by
 unfold sk at h;split at h
 ·cases h
 rename_i z;cases e:(u_ 8).find? fun k=>decide (gon a k (mny a b)=b)with
 |none=>rw[e]at h;cases h
 |some j=>
  rw[e]at h;cases h;have h1:=List.mem_of_find?_eq_some e;have h2:decide (gon a k (mny a b)=b)=true:=ND (p:=fun k=>decide (gon a k (mny a b)=b)) e;have h2:=of_decide_eq_true h2;refine⟨B'.mp h1,(mny a b).toNat,?_,?_,?_⟩
  ·unfold mny at *;lia
  ·unfold mny at *;lia
  rw[show((mny a b).toNat:Int)=mny a b by unfold mny at *;lia];exact h2.symm
theorem Cu{a:Pt}{k:Nat}(h:k<8)(hn:1<=n):sk a (gon a k n)=some (k,(n:Int)):=by
 have e:mny a (gon a k n)=n:=tG h;cases s:sk a (gon a k n)with
 |some p=>
  obtain⟨k',m⟩:=p;obtain⟨h',n',h1,rfl,h2⟩:=nF s;obtain⟨rfl,z|rfl⟩:=yo h h' h2
  ·lia
  ·rfl
 |none=>
  unfold sk at s;rw[if_neg (by rw[e];lia),Option.map_eq_none_iff,Nf]at s;have:=s k (B'.mpr h);rw[e]at this;simp at this
variable {w:Pt×Pt}
theorem ij{k:Nat}(h:k<8)(e:w.2=gon w.1 k n):onW w p↔∃i:Nat,i<=n/\p=gon w.1 k i:=by
 constructor
 ·rintro⟨k',h',n',i,hi,e',rfl⟩;obtain⟨rfl,z|rfl⟩:=yo h h' (e.symm.trans e')
  ·have:i=0:=by lia
   subst this;exact⟨0,E_ _,by unfold gon;simp⟩
  exact⟨i,hi,rfl⟩
 rintro⟨i,hi,rfl⟩;exact⟨k,h,n,i,hi,e,rfl⟩
theorem yv{c:Pt}:WOk (c,c)/\∀p,onW (c,c) p↔p=c:=by
 have e:c=gon c 0 (0:Nat):=by unfold gon;simp
 refine⟨⟨0,by decide,0,e⟩,fun p=>?_⟩;rw[ij (w:=(c,c)) (k:=0) (n:=0) (by decide) e];constructor
 ·rintro⟨i,hi,rfl⟩;rw[Nat.le_zero.mp hi];exact e.symm
 rintro rfl;exact⟨0,b_ _,e⟩
theorem Fd{c:Pt}(hw:WOk w)(h:gOn w c=true):WOk (w.1,c)/\∀p,onW (w.1,c) p↔onW w p\/p=c:=by
 obtain⟨k,hk,n,e⟩:=hw;unfold gOn at h;split at h
 ·rename_i z;subst z;refine⟨⟨k,hk,n,e⟩,fun p=>⟨.inl,?_⟩⟩;rintro(g|rfl)
  ·exact g
  exact(ij hk e).mpr ⟨n,b_ _,e⟩
 rename_i z;have step:∀{k' n':Nat},k'<8->w.2=gon w.1 k' n'->c=gon w.1 k' (n'+1:Nat)->WOk (w.1,c)/\∀p,onW (w.1,c) p↔onW w p\/p=c:=by
  intro k' n' h' e' ec;refine⟨⟨k',h',n'+1,ec⟩,fun p=>?_⟩;rw[ij (w:=(w.1,c)) h' ec,ij h' e'];constructor
  ·rintro⟨i,hi,rfl⟩;by_cases g:i<=n'
   ·exact .inl ⟨i,g,rfl⟩
   have:i=n'+1:=by lia
   subst this;exact .inr ec.symm
  rintro(⟨i,hi,rfl⟩|rfl)
  ·exact⟨i,by lia,rfl⟩
  exact⟨n'+1,b_ _,ec⟩
 split at h
 ·cases h
 rename_i k1 m1 s1;obtain⟨h1,n1,g1,rfl,e1⟩:=nF s1;split at h
 ·rename_i s2;have hm:=of_decide_eq_true h;have n0:n=0:=by
   by_cases q:n=0
   ·exact q
   rw[e,Cu hk (by lia)]at s2;cases s2
  subst n0;refine step h1 (n':=0) (by rw[e];unfold gon;simp) ?_;rw[e1,show n1=0+1 by lia]
 rename_i k2 m2 s2;obtain⟨h2,n2,g2,rfl,e2⟩:=nF s2;obtain⟨rfl,hm⟩:=of_decide_eq_true h;refine step h2 e2 ?_;rw[e1,show n1=n2+1 by lia]
theorem Bt{r R:Int}(h4:q.2.2<4)(h0:1<=r)(h1:r<R)(h2:R<2*r)(hw:WOk w):inL (swQ r R w.1.1 w.1.2 w.2.1 w.2.2) q↔∃p,onW w p/\inL (mkQ r R p.1 p.2) q:=by
 obtain⟨k,hk,n,e⟩:=hw;rw[FJ (n:=n) h4 h0 h1 h2 (B1 hk).1 (by rw[e,LN];rfl) (by rw[e,LN];rfl)];constructor
 ·rintro⟨i,hi,g⟩;refine⟨gon w.1 k i,(ij hk e).mpr ⟨i,hi,rfl⟩,?_⟩;unfold gon;rw[LN (stp k).1,LN (stp k).2];exact g
 rintro⟨p,hp,g⟩;obtain⟨i,hi,rfl⟩:=(ij hk e).mp hp;refine⟨i,hi,?_⟩;unfold gon at g;rw[LN (stp k).1,LN (stp k).2]at g;exact g
noncomputable def wy1(l:Int)(cz:Pt×Int)(s:List (Pt×Pt)×Bool):List (Pt×Pt)×Bool:=if cz.2<=l then(s.1,false)else match s.1 with
 | []=>([(cz.1,cz.1)],true)
 |w::W=>if s.2&&gOn w cz.1 then((w.1,cz.1)::W,true)else((cz.1,cz.1)::w::W,true)
noncomputable def wys(l:Int):List (Pt×Int)->List (Pt×Pt)×Bool->List (Pt×Pt)×Bool
 | [],s=>s
 |cz::ps,s=>wys l ps (wy1 l cz s)
def onU(W:List (Pt×Pt))(p:Pt):Prop:=∃w∈W,onW w p
theorem tY{l:Int}:∀{ps:List (Pt×Int)}{W:List (Pt×Pt)}{b:Bool},(∀w∈W,WOk w)->(∀w∈(wys l ps (W,b)).1,WOk w)/\(∀p,onU (wys l ps (W,b)).1 p↔onU W p\/∃z,(p,z)∈ps/\l<z)/\(wys l ps (W,b)).1.length<=W.length+ps.length
 | [],W,b,h=>⟨h,fun p=>⟨.inl,fun g=>g.elim id fun⟨z,m,_⟩=>by cases m⟩,b_ _⟩
 | (c,z)::ps,W,b,h=>by
  rw[wys,wy1];dsimp only;have add:∀{W2:List (Pt×Pt)}{b2:Bool},(∀w∈W2,WOk w)->(∀p,onU W2 p↔onU W p\/p=c/\l<z)->W2.length<=W.length+1->(∀w∈(wys l ps (W2,b2)).1,WOk w)/\(∀p,onU (wys l ps (W2,b2)).1 p↔onU W p\/∃z',(p,z')∈(c,z)::ps/\l<z')/\(wys l ps (W2,b2)).1.length<=W.length+(ps.length+1):=by
   intro W2 b2 a1 a2 a3;obtain⟨i1,i2,i3⟩:=tY (l:=l) (ps:=ps) (W:=W2) (b:=b2) a1;refine⟨i1,fun p=>?_,by lia⟩;rw[i2 p,a2 p,or_assoc];refine or_congr_right ⟨?_,?_⟩
   ·rintro(⟨rfl,hz⟩|⟨z',m,hz⟩)
    ·exact⟨z,n_,hz⟩
    exact⟨z',j_ _ m,hz⟩
   rintro⟨z',m,hz⟩;rcases o_.mp m with e|m
   ·cases e;exact .inl ⟨rfl,hz⟩
   exact .inr ⟨z',m,hz⟩
  have cons:∀{v:Pt×Pt}{V:List (Pt×Pt)}{p:Pt},onU (v::V) p↔onW v p\/onU V p:=by intro v V p;unfold onU;simp only[o_,exists_eq_or_imp]
  by_cases g:z<=l
  ·rw[if_pos g];exact add h (fun p=>⟨.inl,fun q=>q.elim id fun⟨_,hz⟩=>absurd hz (by lia)⟩) (by lia)
  rw[if_neg g];have new:(∀w∈(c,c)::W,WOk w)/\∀p,onU ((c,c)::W) p↔onU W p\/p=c/\l<z:=by refine⟨fun w m=>(o_.mp m).elim (fun e=>e▸yv.1) (h w),fun p=>?_⟩;rw[cons,yv.2,or_comm];exact or_congr_right ⟨fun e=>⟨e,by lia⟩,fun e=>e.1⟩
  cases W with
  |nil=>exact add new.1 new.2 (b_ _)
  |cons w W'=>
   show _/\_;dsimp only;by_cases gb:(b&&gOn w c)=true
   ·rw[if_pos gb];rw[JD]at gb;obtain⟨k1,k2⟩:=Fd (h w n_) gb.2;refine add (fun v m=>(o_.mp m).elim (fun e=>e▸k1) fun m=>h v (j_ _ m)) (fun p=>?_) (by rw[d_,d_];lia);rw[cons,cons,k2];constructor
    ·rintro((q|rfl)|q)
     ·exact .inl (.inl q)
     ·exact .inr ⟨rfl,by lia⟩
     exact .inl (.inr q)
    rintro((q|q)|⟨rfl,_⟩)
    ·exact .inl (.inl q)
    ·exact .inr q
    exact .inl (.inr rfl)
   rw[if_neg gb];exact add new.1 new.2 (b_ _)
variable {d:Int}
theorem mxn{b c:Int}:(max a b+min c d<=max (a+c) (b+d)/\min (a+c) (b+d)<=min a b+max c d)/\min (a-c) (b-d)+min c d<=min a b/\max a b<=max (a-c) (b-d)+max c d:=by
 refine⟨⟨?_,?_⟩,?_,?_⟩
 ·rcases JW a b with h|h
  ·rw[Kj h];exact KH (LA (Kl _ _) _) (Kk _ _)
  rw[Kt h];exact KH (LA (Kb _ _) _) (Kc _ _)
 ·rcases JW a b with h|h
  ·rw[KJ h];exact KH (Kb _ _) (LA (Kc _ _) _)
  rw[KD h];exact KH (Kl _ _) (LA (Kk _ _) _)
 ·refine Int.le_min.mpr ⟨?_,?_⟩
  ·have:=KG (Kb (a-c) (b-d)) (Kb c d);rwa[LO]at this
  have:=KG (Kl (a-c) (b-d)) (Kl c d);rwa[LO]at this
 refine Int.max_le.mpr ⟨?_,?_⟩
 ·have:=KG (Kc (a-c) (b-d)) (Kc c d);rwa[LO]at this
 have:=KG (Kk (a-c) (b-d)) (Kk c d);rwa[LO]at this
theorem mm{b:Int}:min a b<=max a b:=KH (Kb _ _) (Kc _ _)
theorem Ej{r R:Int}(h0:1<=r)(h1:r<R)(h2:R<2*r):Vo (swQ r R w.1.1 w.1.2 w.2.1 w.2.2):=by
 unfold Vo swQ;dsimp only;generalize w.1.1=x;generalize w.1.2=y;generalize w.2.1=x';generalize w.2.2=y';have m1:=mm (a:=x) (b:=x');have m2:=mm (a:=y) (b:=y');have m3:=mm (a:=x+y) (b:=x'+y');have m4:=mm (a:=x-y) (b:=x'-y');obtain⟨⟨n1,n2⟩,n3,n4⟩:=mxn (a:=x) (b:=x') (c:=y) (d:=y');have n5:min (x+y) (x'+y')+min (x-y) (x'-y')<=2*min x x':=by
  rcases JW x x' with h|h
  ·have:=KG (Kb (x+y) (x'+y')) (Kb (x-y) (x'-y'));rw[KJ h];lia
  have:=KG (Kl (x+y) (x'+y')) (Kl (x-y) (x'-y'));rw[KD h];lia
 have n6:2*max x x'<=max (x+y) (x'+y')+max (x-y) (x'-y'):=by
  rcases JW x x' with h|h
  ·have:=KG (Kk (x+y) (x'+y')) (Kk (x-y) (x'-y'));rw[Kj h];lia
  have:=KG (Kc (x+y) (x'+y')) (Kc (x-y) (x'-y'));rw[Kt h];lia
 generalize min x x'=a1 at *;generalize max x x'=a2 at *;generalize min y y'=a3 at *;generalize max y y'=a4 at *;generalize min (x+y) (x'+y')=a5 at *;generalize max (x+y) (x'+y')=a6 at *;generalize min (x-y) (x'-y')=a7 at *;generalize max (x-y) (x'-y')=a8 at *;clear x y x' y';refine⟨⟨?_,?_⟩,⟨?_,?_⟩,⟨?_,?_⟩,⟨?_,?_⟩,?_,?_⟩ <;> lia
inductive Od where
 |tk (i:Nat)
 |ov (hi:Bool) (x y:Int)
 |ct (ps:List (Pt×Int))
noncomputable def wls(l:Int):List Od->Nat->List (Nat×Pt×Pt)
 | [],_=>[]
 | .tk i::P,_=>wls l P i
 | .ov _ _ _::P,t=>wls l P t
 | .ct ps::P,t=>((wys l ps ([],false)).1.reverse.map fun w=>(t,w))++wls l P t
noncomputable def sps(l:Int):List Od->Nat->List (Nat×Pt)
 | [],_=>[]
 | .tk i::P,_=>sps l P i
 | .ov _ _ _::P,t=>sps l P t
 | .ct ps::P,t=>((ps.filter fun p=>decide (l<p.2)).map fun p=>(t,p.1))++sps l P t
theorem oJ{l:Int}:∀{P:List Od}{t:Nat},(∀v∈wls l P t,WOk v.2)/\∀i p,(∃v∈wls l P t,v.1=i/\onW v.2 p)↔(i,p)∈sps l P t
 | [],t=>⟨(fun v m=>by cases m),fun i p=>⟨(fun⟨v,m,_⟩=>by cases m),fun m=>by cases m⟩⟩
 | .tk i::P,t=>oJ (P:=P) (t:=i)
 | .ov _ _ _::P,t=>oJ (P:=P) (t:=t)
 | .ct ps::P,t=>by
  obtain⟨a1,a2⟩:=oJ (l:=l) (P:=P) (t:=t);obtain⟨b1,b2,_⟩:=tY (l:=l) (ps:=ps) (W:=[]) (b:=false) fun w m=>by cases m
  rw[wls,sps];refine⟨fun v m=>?_,fun i p=>?_⟩
  ·rcases A_.mp m with m|m
   ·obtain⟨w,mw,rfl⟩:=t_.mp m;exact b1 w (K4.mp mw)
   exact a1 v m
  rw[A_,<-a2 i p];constructor
  ·rintro⟨v,m,rfl,h⟩;rcases A_.mp m with m|m
   ·obtain⟨w,mw,rfl⟩:=t_.mp m;obtain u|⟨z,mz,hz⟩:=(b2 p).mp ⟨w,K4.mp mw,h⟩
    ·obtain⟨_,z,_⟩:=u;cases z
    exact .inl (t_.mpr ⟨(p,z),JJ.mpr ⟨mz,decide_eq_true hz⟩,rfl⟩)
   exact .inr ⟨v,m,rfl,h⟩
  rintro(m|⟨v,m,rfl,h⟩)
  ·obtain⟨⟨c,z⟩,mc,e⟩:=t_.mp m;cases e;obtain⟨m1,m2⟩:=JJ.mp mc;obtain⟨w,mw,h⟩:=(b2 c).mpr (.inr ⟨z,m1,of_decide_eq_true m2⟩);exact⟨_,H_ _ (t_.mpr ⟨w,K4.mpr mw,rfl⟩),rfl,h⟩
  exact⟨v,q_ _ m,rfl,h⟩
def CH(t:Int×Int):Prop:=1<=t.1/\t.1<t.2/\t.2<2*t.1
def swT(t:Int×Int)(w:Pt×Pt):Oc:=swQ t.1 t.2 w.1.1 w.1.2 w.2.1 w.2.2
def mkT(t:Int×Int)(p:Pt):Oc:=mkQ t.1 t.2 p.1 p.2
variable {P:List Od}{os:List Oc}
theorem Ga{l:Int}{t:Nat}{T:Nat->Int×Int}(ho:∀o,o∈os↔∃v∈wls l P t,o=swT (T v.1) v.2)(ht:∀v∈sps l P t,CH (T v.1))(h4:q.2.2<4):inU os q↔∃v∈sps l P t,inL (mkT (T v.1) v.2) q:=by
 obtain⟨a1,a2⟩:=oJ (l:=l) (P:=P) (t:=t);have tl:∀v∈wls l P t,CH (T v.1):=fun v m=>by obtain⟨k,hk,n,e⟩:=a1 v m;exact ht (v.1,v.2.1) ((a2 _ _).mp ⟨v,m,rfl,(ij hk e).mpr ⟨0,E_ _,by unfold gon;simp⟩⟩)
 constructor
 ·rintro⟨o,mo,h⟩;obtain⟨v,mv,rfl⟩:=(ho o).mp mo;obtain⟨k0,k1,k2⟩:=tl v mv;obtain⟨p,hp,g⟩:=(Bt h4 k0 k1 k2 (a1 v mv)).mp h;exact⟨(v.1,p),(a2 _ _).mp ⟨v,mv,rfl,hp⟩,g⟩
 rintro⟨⟨i,p⟩,m,g⟩;obtain⟨v,mv,rfl,hp⟩:=(a2 i p).mpr m;obtain⟨k0,k1,k2⟩:=tl v mv;exact⟨_,(ho _).mpr ⟨v,mv,rfl⟩,(Bt h4 k0 k1 k2 (a1 v mv)).mpr ⟨p,hp,g⟩⟩
abbrev Ed:=Pt×Pt
def edT(e:Ed):T:=.tup [ptP e.1,ptP e.2]
variable {e:Ed}
theorem lB:er (edT e)=edT e:=rfl
theorem eW:bC (edT e)=true:=rfl
theorem d7:aS (edT e)=true:=rfl
theorem dk:isAny (edT e)=false:=rfl
theorem gM{k:T->Prop}:ixT (edT e) (.int 0) k=k (ptP e.1):=rfl
theorem iN{k:T->Prop}:ixT (edT e) (.int 1) k=k (ptP e.2):=rfl
theorem rW{q:Pt}:sk p q=(lead p q).map fun d=>(d,far p q):=by
 unfold sk lead;by_cases h:far p q=0
 ·rw[if_pos h,if_pos (show mny p q=0 from h)];rfl
 rw[if_neg h,if_neg (show ¬mny p q=0 from h)];rfl
theorem Bp{c:Pt}(h:¬c=w.2):gOn w c=match lead w.1 c with
 |none=>false
 |some d=>match lead w.1 w.2 with
  |none=>decide (far w.1 c=1)
  |some d'=>decide (d=d'/\far w.1 c=far w.1 w.2+1):=by
 unfold gOn;rw[if_neg h,rW,rW];cases lead w.1 c with
 |none=>rfl
 |some d=>cases lead w.1 w.2 <;> rfl
theorem vm{L:α}{Ls:List α}{g:α->T}:atI ((L::Ls).reverse.map g) (-1)=some (g L):=by
 unfold atI ixN;rw[if_neg (by decide),if_pos (by rw[a_,Jz,d_];lia)];show(JV g (L::Ls).reverse)[_]?=_;rw[z_,show(-1+(((L::Ls).reverse.map g).length:Int)).toNat=Ls.reverse.length by rw[a_,Jz,d_,Jz];lia,Lo,List.getElem?_concat_length]
 rfl
section
variable{α:Type}{ρ:α->List Int}
def dG(ρ:α->List Int)(l:List α):List (List Key×T):=l.map fun a=>(kI (ρ a),T.bl true)
def md(ρ:α->List Int)(l:List α)(a:α):List α:=if ρ a∈l.map ρ then l else l++[a]
def bF(ρ:α->List Int)(l:List α):List α->List α
 | []=>l
 |a::r=>bF ρ (md ρ l a) r
theorem pL{l:List α}{a:α}:nE (dG ρ l) (kI (ρ a)) (.bl true)=dG ρ (md ρ l a):=by
 unfold nE dG md;by_cases m:ρ a∈l.map ρ
 ·rw[if_pos m,if_pos]
  ·rw[F_];refine Ky fun r mr=>?_;show(if kI (ρ r)=kI (ρ a)then(kI (ρ r),T.bl true)else(kI (ρ r),T.bl true))=_;split <;> rfl
  obtain⟨b,mb,e⟩:=t_.mp m;exact K6.mpr ⟨_,t_.mpr ⟨b,mb,rfl⟩,decide_eq_true (congrArg kI e)⟩
 rw[if_neg m,if_neg]
 ·rw[v_]
  rfl
 intro g;obtain⟨kv,mk,e⟩:=K6.mp g;obtain⟨b,mb,rfl⟩:=t_.mp mk;exact m (EO (of_decide_eq_true e)▸JP mb)
theorem pz(l:List α):(dG ρ l).length=l.length:=a_ ..
theorem lg(l:List α):erT (dG ρ l)=dG ρ l:=by
 unfold dG;induction l with
 |nil=>rfl
 |cons a l ih=>rw[f',erT,ih];rfl
theorem dg(l:List α):nh (dG ρ l)=true:=by
 unfold dG;induction l with
 |nil=>rfl
 |cons a l ih=>rw[f',nh,ih];rfl
theorem ff(l:List α):nR (dG ρ l)=true:=by
 unfold dG;induction l with
 |nil=>rfl
 |cons a l ih=>rw[f',nR,ih];rfl
theorem F1(r:List Int):kyT (kI r)=iT r:=by
 unfold kyT kI iT;rw[F_]
 rfl
theorem qB(l:List α):(dG ρ l).map (fun p=>kyT p.1)=l.map fun a=>iT (ρ a):=by unfold dG;rw[F_];exact Ky fun a _=>F1 _
variable(inj:∀a b,ρ a=ρ b->a=b)
include inj
theorem AY{l:List α}{a x:α}:x∈md ρ l a↔x∈l\/x=a:=by
 unfold md;by_cases m:ρ a∈l.map ρ
 ·rw[if_pos m];obtain⟨b,mb,e⟩:=t_.mp m;cases inj _ _ e;exact⟨.inl,fun h=>h.elim id fun e=>e▸mb⟩
 rw[if_neg m,A_,A']
theorem D5{l:List α}{a:α}(h:l.Nodup):(md ρ l a).Nodup:=by
 unfold md;by_cases m:ρ a∈l.map ρ
 ·rw[if_pos m];exact h
 rw[if_neg m,KP];exact⟨h,D'.mpr ⟨(nomatch ·),KA⟩,fun b hb c hc e=>by rw[A'.mp hc]at e;exact m (e▸JP hb)⟩
theorem dI:∀{r l:List α}{x:α},x∈bF ρ l r↔x∈l\/x∈r
 | [],_,x=>⟨.inl,fun h=>h.elim id (nomatch ·)⟩
 |a::r,l,x=>by rw[bF,dI,AY inj,o_,or_assoc]
theorem mF:∀{r l:List α},l.Nodup->(bF ρ l r).Nodup
 | [],_,h=>h
 |a::r,l,h=>mF (r:=r) (D5 inj h)
omit inj
theorem Bn{l:List α}{a:α}(h:ρ a ∉ l.map ρ):md ρ l a=l++[a]:=if_neg h
theorem BD{l:List α}{a:α}:(md ρ l a).length<=l.length+1:=by
 unfold md;by_cases m:ρ a∈l.map ρ
 ·rw[if_pos m];lia
 rw[if_neg m,g_];exact b_ _
theorem dE:∀{r l:List α},(bF ρ l r).length<=l.length+r.length
 | [],_=>b_ _
 |a::r,l=>by have h1:=dE (r:=r) (l:=md ρ l a);have h2:=BD (ρ:=ρ) (l:=l) (a:=a);rw[bF,d_];lia
theorem dC:∀{r l s:List α},bF ρ l (r++s)=bF ρ (bF ρ l r) s
 | [],_,_=>rfl
 |a::r,l,s=>dC (r:=r) (l:=md ρ l a)
theorem mP{l r:List α}{a:α}(h:r[i]?=some a):bF ρ l (r.take (i+1))=md ρ (bF ρ l (r.take i)) a:=by
 rw[JR,h,dC]
 rfl
end
def bc(q:Qt):List Int:=[q.1,q.2.1,(q.2.2:Int)]
theorem fu(q r:Qt)(h:bc q=bc r):q=r:=by unfold bc at h;simp only[J_,and_true]at h;exact L8 h.1 (L8 h.2.1 (by have:=h.2.2;lia))
def fS(v:Nat×Pt):List Int:=[(v.1:Int),v.2.1,v.2.2]
theorem pj(v w:Nat×Pt)(h:fS v=fS w):v=w:=by unfold fS at h;simp only[J_,and_true]at h;exact L8 (by have:=h.1;lia) (L8 h.2.1 h.2.2)
theorem sL(o p:Oc)(h:ocL o=ocL p):o=p:=by
 obtain⟨a,b,c,d,e,f,g,i⟩:=o;unfold ocL at h;simp only[J_,and_true]at h;obtain⟨h1,h2,h3,h4,h5,h6,h7,h8⟩:=h;subst h1 h2 h3 h4 h5 h6 h7 h8
 rfl
theorem xj(v:Nat×Pt):iT (fS v)=.tup [.int (v.1:Int),.int v.2.1,.int v.2.2]:=rfl
theorem xf(q:Qt):iT (bc q)=.tup [.int q.1,.int q.2.1,.int (q.2.2:Int)]:=rfl
variable {kvs:List (List Key×T)}
theorem gR{t:T}{k:T->Prop}:qO (.dT true kvs) (ocT o) t k=qO (.dT true kvs) (.tup [.int o.a,.int o.b,.int o.c,.int o.d,.int o.e,.int o.f,.int o.g,.int o.h]) t k:=rfl
abbrev Tl:=Int×Int×Int×Int×Int
def sqB(b u:Bool)(ts:List T):T:=if b then .lst u ts else .tup ts
variable {b u:Bool}
theorem iE:er (sqB b u ts)=sqB b false (erL ts):=by cases b <;> rfl
theorem dq:items (sqB b u ts)=some ts:=by cases b <;> rfl
theorem cm:isAny (sqB b u ts)=false:=by cases b <;> rfl
theorem cn:aS (sqB b false ts)=bB ts:=by cases b <;> simp only[sqB,aS,LQ,JI,if_true,if_false,Jv]
theorem dH:bC (sqB false u ts)=cq ts:=rfl
theorem l9{i:Int}{k:T->Prop}:ixT (sqB b u ts) (.int i) k=dU (atI ts i) (k:=⟨k⟩):=by cases b <;> rfl
noncomputable def tvT(b u:Bool)(t:Tl):T:=sqB b u [.int t.1,.int t.2.1,.int t.2.2.1,.int t.2.2.2.1,.int t.2.2.2.2]
def tlO(t:Tl):Prop:=2<=t.1/\t.1<=6/\1<=t.2.1/\t.2.1<t.1
noncomputable def tR(tl:List Tl)(i:Nat):Int×Int:=((tl.getD i (0,0,0,0,0)).1,(tl.getD i (0,0,0,0,0)).1+(tl.getD i (0,0,0,0,0)).2.1)
variable {t:Tl}
theorem kJ:er (tvT b u t)=tvT b false t:=iE
theorem dw:isAny (tvT b u t)=false:=cm
theorem cS:aS (tvT b false t)=true:=cn
theorem eU:bC (tvT false u t)=true:=rfl
theorem ik{k:T->Prop}:ixT (tvT b u t) (.int 0) k=k (.int t.1):=by cases b <;> rfl
theorem gL{k:T->Prop}:ixT (tvT b u t) (.int 1) k=k (.int t.2.1):=by cases b <;> rfl
abbrev Plc:=Pt×Int
def plT(p:Plc):T:=.tup [.int p.1.1,.int p.1.2,.int p.2]
theorem fW{p:Plc}:er (plT p)=plT p:=rfl
theorem cB{p:Plc}:aS (plT p)=true:=rfl
theorem cJ{p:Plc}:bC (plT p)=true:=rfl
def hS(h:Bool):Str:=if h then "high" else "low"
noncomputable def odT(b u:Bool):Od->T
 | .tk i=>sqB b u [.str "take",.int (i:Int)]
 | .ov h x y=>sqB b u [.str "over",.str (hS h),.int x,.int y]
 | .ct ps=>sqB b u [.str "cut",sqB b u (ps.map plT)]
theorem tQ:odT b u (.tk i)=sqB b u [.str "take",.int (i:Int)]:=rfl
theorem tN{h:Bool}:odT b u (.ov h x y)=sqB b u [.str "over",.str (hS h),.int x,.int y]:=rfl
theorem uh{ps:List Plc}:odT b u (.ct ps)=sqB b u [.str "cut",sqB b u (ps.map plT)]:=rfl
theorem ku{o:Od}:er (odT b u o)=odT b false o:=by cases o <;> simp only[odT,iE,er,erL,cv,fW]
theorem zX{o:Od}:isAny (odT b u o)=false:=by cases o <;> exact cm
theorem cR{o:Od}:aS (odT b false o)=true:=by cases o <;> simp only[odT,cn,aS,bB,bX,cB,cF,JI,L4]
theorem eF{o:Od}:bC (odT false u o)=true:=by cases o <;> simp only[odT,dH,bC,cq,bj,cJ,cF,JI,L4]
theorem w6:(("over":Str)="take")=False:=by decide +kernel
theorem wQ:(("cut":Str)="take")=False:=by decide +kernel
theorem wY:(("over":Str)="cut")=False:=by decide +kernel
theorem wz:(("take":Str)="cut")=False:=by decide +kernel
noncomputable def tlA:List Od->Nat->Nat
 | [],t=>t
 | .tk i::P,_=>tlA P i
 | .ov _ _ _::P,t=>tlA P t
 | .ct _::P,t=>tlA P t
theorem lY{l:Int}{Q:List Od}:∀{P:List Od}{t:Nat},wls l (P++Q) t=wls l P t++wls l Q (tlA P t)/\sps l (P++Q) t=sps l P t++sps l Q (tlA P t)/\tlA (P++Q) t=tlA Q (tlA P t)
 | [],t=>⟨rfl,rfl,rfl⟩
 | .tk i::P,t=>lY (P:=P) (t:=i)
 | .ov _ _ _::P,t=>lY (P:=P) (t:=t)
 | .ct ps::P,t=>by
  obtain⟨h1,h2,h3⟩:=lY (l:=l) (Q:=Q) (P:=P) (t:=t);refine⟨?_,?_,h3⟩
  ·show _++wls l (P++Q) t=(_++wls l P t)++_;rw[h1,k_]
   rfl
  show _++sps l (P++Q) t=(_++sps l P t)++_;rw[h2,k_]
  rfl
def Bx:Od->Nat
 | .ct ps=>ps.length
 | _=>0
def nPl(P:List Od):Nat:=(P.map Bx).sum
theorem oC{l:Int}:∀{P:List Od}{t:Nat},(wls l P t).length<=nPl P
 | [],t=>b_ _
 | .tk i::P,t=>by have:=oC (l:=l) (P:=P) (t:=i);show(wls l P i).length<=_;unfold nPl at *;rw[f',Ku];lia
 | .ov _ _ _::P,t=>by have:=oC (l:=l) (P:=P) (t:=t);show(wls l P t).length<=_;unfold nPl at *;rw[f',Ku];lia
 | .ct ps::P,t=>by have:=oC (l:=l) (P:=P) (t:=t);have:=(tY (l:=l) (ps:=ps) (W:=[]) (b:=false) fun w m=>by cases m).2.2;unfold nPl at *;rw[wls,g_,a_,Jz,f',Ku];show _<=ps.length+_;rw[JY]at this;lia
theorem mD{l:Int}:∀{P:List Od}{t:Nat},(sps l P t).length<=nPl P
 | [],t=>b_ _
 | .tk i::P,t=>by have:=mD (l:=l) (P:=P) (t:=i);show(sps l P i).length<=_;unfold nPl at *;rw[f',Ku];lia
 | .ov _ _ _::P,t=>by have:=mD (l:=l) (P:=P) (t:=t);show(sps l P t).length<=_;unfold nPl at *;rw[f',Ku];lia
 | .ct ps::P,t=>by have:=mD (l:=l) (P:=P) (t:=t);unfold nPl at *;rw[sps,g_,a_,f',Ku];exact Nat.add_le_add (KL _ _) this
noncomputable def Fp(m:Nat)(C:Int):Od->Prop
 | .tk i=>i<m
 | .ov _ _ _=>True
 | .ct ps=>∀p∈ps,(-C<=p.1.1/\p.1.1<=C)/\-C<=p.1.2/\p.1.2<=C
noncomputable def OkP(m:Nat)(C:Int)(N:Nat)(P:List Od):Prop:=(∀o,P[0]?=some o->∃i,o=.tk i)/\P.length<=300/\nPl P<=N/\∀o∈P,Fp m C o
theorem sw_eq{r k:Int}{q:Pt}:swO r k p q=swT (r,r+k) (p,q):=by unfold swO mkO uX oc1 oc2 swT swQ;dsimp only;congr 1 <;> lia
variable {j:Nat}
theorem Hb{tl:List Tl}(h:j<tl.length):atI (tl.map (tvT b u)) (j:Int)=some (tvT b u (tl.getD j (0,0,0,0,0))):=by
 refine cH ?_;rw[z_,c_ h,JE,c_ h]
 rfl
noncomputable def dO(l:Int)(tl:List Tl)(P:List Od):List Oc:=bF ocL [] ((wls l P 0).map fun v=>swT (tR tl v.1) v.2)
theorem uI{l:Int}{tl:List Tl}:o∈dO l tl P↔∃v∈wls l P 0,o=swT (tR tl v.1) v.2:=by unfold dO;rw[dI sL,t_];exact⟨fun h=>h.elim (nomatch ·) fun⟨v,m,e⟩=>⟨v,m,e.symm⟩,fun⟨v,m,e⟩=>.inr ⟨v,m,e.symm⟩⟩
variable {s:Nat}
theorem pxy(h:s<4):(0<px s/\px s<8)/\0<py s/\py s<8:=by
 match s,h with
 |0,_=>decide
 |1,_=>decide
 |2,_=>decide
 |3,_=>decide
def edL:List (List Pt):=[[(1,0),(1,1)],[(0,1),(1,1)],[(0,0),(0,1)],[(0,0),(1,0)]]
noncomputable def ptM(q:Qt):List Pt:=(2*q.1+1,2*q.2.1+1)::(edL.getD q.2.2 []).map fun e=>(2*(q.1+e.1),2*(q.2.1+e.2))
noncomputable def inM(R:Int)(q:Qt):Bool:=(ptM q).all fun p=>decide ((p.1.natAbs:Int)+p.2.natAbs<=2*R)
theorem xF(h:s<4):atI [T.lst true [.tup [.int 1,.int 0],.tup [.int 1,.int 1]],.lst true [.tup [.int 0,.int 1],.tup [.int 1,.int 1]],.lst true [.tup [.int 0,.int 0],.tup [.int 0,.int 1]],.lst true [.tup [.int 0,.int 0],.tup [.int 1,.int 0]]] (s:Int)=some (.lst true ((edL.getD s []).map ptP))/\(edL.getD s []).length=2:=by
 match s,h with
 |0,_=>exact⟨rfl,rfl⟩
 |1,_=>exact⟨rfl,rfl⟩
 |2,_=>exact⟨rfl,rfl⟩
 |3,_=>exact⟨rfl,rfl⟩
theorem cD(f:α->Bool)(l:List α):boolsOf (l.map fun x=>T.bl (f x))=some (l.map f):=by
 induction l with
 |nil=>rfl
 |cons x l ih=>rw[f',boolsOf,ih];rfl
instance (o:Oc) (q:Qt):Decidable (inL o q):=by unfold inL;infer_instance
theorem DB:∀r∈[(2:Int),3,4,5,6],∀k∈[(1:Int),2,3,4,5],∀x∈u_ 12,∀y∈u_ 12,∀s∈u_ 4,(((-6+(x:Int),-6+(y:Int),s):Qt) |> fun q=>decide (k<r/\(-r<=q.1/\q.1<r)/\(-r<=q.2.1/\q.2.1<r))=true->decide (inM (r+k) q=true↔inL (mkQ r (r+k) 0 0) q)=true):=by
 decide +kernel
theorem BB{r k:Int}(h4:q.2.2<4)(hr:2<=r/\r<=6)(hk:1<=k/\k<r)(hx:-r<=q.1/\q.1<r)(hy:-r<=q.2.1/\q.2.1<r):inM (r+k) q=true↔inL (mkQ r (r+k) 0 0) q:=by obtain⟨x,y,s⟩:=q;dsimp only at *;have:=DB r (by simp only[o_,JO,or_false];lia) k (by simp only[o_,JO,or_false];lia) (x+6).toNat (B'.mpr (by lia)) (y+6).toNat (B'.mpr (by lia)) s (B'.mpr h4);rw[show -6+((x+6).toNat:Int)=x by lia,show -6+((y+6).toNat:Int)=y by lia]at this;exact of_decide_eq_true (this (decide_eq_true ⟨hk.2,hx,hy⟩))
noncomputable def mkC(r R x:Int)(m:Nat):List Qt:=o9 (fun y=>cl4 (fun s=>inM R (x,y,s)=true) x y) (-r) m
def mkN(r R:Int)(n:Nat):List Qt:=o9 (fun x=>mkC r R x (r - -r).toNat) (-r) n
theorem yM{r k:Int}(hr:2<=r/\r<=6)(hk:1<=k/\k<r):q∈mkN r (r+k) (r - -r).toNat↔q.2.2<4/\inL (mkQ r (r+k) 0 0) q:=by
 unfold mkN mkC;rw[cg];constructor
 ·rintro⟨x,x1,x2,m⟩;obtain⟨y,y1,y2,m⟩:=cg.mp m;obtain⟨rfl,rfl,h4,hm⟩:=m9.mp m;exact⟨h4,(BB h4 hr hk ⟨x1,by lia⟩ ⟨y1,by lia⟩).mp hm⟩
 rintro⟨h4,hi⟩;have hb:(-r<=q.1/\q.1<r)/\-r<=q.2.1/\q.2.1<r:=by have:=pxy h4;unfold inL mkQ at hi;dsimp only at hi;omega
 exact⟨q.1,hb.1.1,by lia,cg.mpr ⟨q.2.1,hb.2.1,by lia,m9.mpr ⟨rfl,rfl,h4,(BB h4 hr hk hb.1 hb.2).mpr hi⟩⟩⟩
theorem EY{r R:Int}:bc (-r+(i:Int),-r+(j:Int),s) ∉ (mkN r R i++mkC r R (-r+i) j++((u_ s).filter fun s=>decide (inM R (-r+i,-r+j,s)=true)).map fun s=>(-r+(i:Int),-r+(j:Int),s)).map bc:=by
 intro h;obtain⟨q,mq,e⟩:=t_.mp h;cases fu _ _ e;rcases A_.mp mq with h|h
 ·rcases A_.mp h with h|h
  ·unfold mkN mkC at h;obtain⟨k,_,hk,mk⟩:=cg.mp h;obtain⟨k',_,_,mk'⟩:=cg.mp mk;have:=(m9.mp mk').1;dsimp only at this;lia
  unfold mkC at h;obtain⟨k,_,hk,mk⟩:=cg.mp h;have:=(m9.mp mk).2.1;dsimp only at this;lia
 obtain⟨s',m',e⟩:=t_.mp h;have:=B'.mp (JJ.mp m').1;have:=(NT.mp (NT.mp e).2).2;dsimp only at this;omega
theorem u9{p:Nat->Prop}[DecidablePred p]:(cl4 p x y).length<=4:=by unfold cl4;rw[a_];exact m_ (KL _ _) (by rw[JH];exact b_ _)
variable {m:Nat}
theorem eR{f:Int->List α}(h:∀y,(f y).length<=m)(n:Nat):(o9 f a n).length<=m*n:=by
 induction n with
 |zero=>exact E_ _
 |succ n ih=>
  have:=h (a+n);rw[e9,g_,NP];lia
theorem Gh{r R:Int}(hm:(r - -r).toNat<=100):(mkN r R i++mkC r R (-r+i) j++((u_ s).filter fun s=>decide (inM R (-r+i,-r+j,s)=true)).map fun s=>((-r+(i:Int),-r+(j:Int),s):Qt)).length<=400*i+4*j+s:=by have lc:∀x m,(mkC r R x m).length<=4*m:=fun x m=>eR (fun y=>u9) m;have l1:(mkN r R i).length<=400*i:=eR (fun x=>m_ (lc x _) (by lia)) i;have l2:=lc (-r+i) j;have l3:=KL (fun s=>decide (inM R (-r+i,-r+j,s)=true)) (u_ s);rw[JH]at l3;rw[g_,g_,a_];lia
variable {C:Int}{N:Nat}
theorem yl(h:OkP m C N P){o:Od}(e:P[i]?=some o):P.take (i+1)=P.take i++[o]/\(i=0->∃j,o=.tk j):=by refine⟨by rw[JR,e];rfl,fun z=>?_⟩;subst z;exact h.1 o e
theorem sQ:∀{P:List Od}{ps:List Plc},Od.ct ps∈P->ps.length<=nPl P
 |o::P,ps,m=>by
  unfold nPl;rw[f',Ku];rcases o_.mp m with e|m
  ·subst e;exact KC _ _
  have:=sQ m;unfold nPl at this;lia
theorem zi:bC (.lst true (os.map ocT))=true:=by simp only[bC,bj,dB,cF,JI]
theorem vh:nPl (P.take i)<=nPl P:=by
 unfold nPl
 conv=>rhs;rw[<-Jw i P,v_,NF]
 exact KC _ _
theorem qb{l:Int}{tl:List Tl}:(dO l tl P).length<=nPl P:=by have h1:=dE (ρ:=ocL) (l:=[]) (r:=(wls l P 0).map fun v=>swT (tR tl v.1) v.2);have h2:=oC (l:=l) (P:=P) (t:=0);rw[a_,JY]at h1;unfold dO;lia
def mkA(t:Tl):List Qt:=mkN t.1 (t.1+t.2.1) (t.1 - -t.1).toNat
def mvQ(p:Pt)(m:Qt):Qt:=(m.1+p.1,m.2.1+p.2,m.2.2)
theorem yO(h:tlO t):(mkA t).length<=576:=by
 obtain⟨h1,h2,_⟩:=h;have l1:∀x,(mkC t.1 (t.1+t.2.1) x (t.1 - -t.1).toNat).length<=48:=fun x=>m_ (eR (fun y=>u9) _) (by lia)
 exact m_ (eR l1 _) (by lia)
theorem AF{r R:Int}{m:Qt}:inL (mkQ r R p.1 p.2) (mvQ p m)↔inL (mkQ r R 0 0) m:=by unfold inL mkQ mvQ;dsimp only;lia
theorem yE(h:tlO t):(∃m∈mkA t,q=mvQ p m)↔q.2.2<4/\inL (mkQ t.1 (t.1+t.2.1) p.1 p.2) q:=by
 obtain⟨h1,h2,h3,h4⟩:=h;constructor
 ·rintro⟨m,mm,rfl⟩;obtain⟨a,b⟩:=(yM ⟨h1,h2⟩ ⟨h3,h4⟩).mp mm;exact⟨a,AF.mpr b⟩
 rintro⟨a,b⟩;have e:q=mvQ p (q.1-p.1,q.2.1-p.2,q.2.2):=by unfold mvQ;exact L8 (by dsimp only;lia) (L8 (by dsimp only;lia) rfl)
 rw[e]at b;exact⟨(q.1-p.1,q.2.1-p.2,q.2.2),(yM ⟨h1,h2⟩ ⟨h3,h4⟩).mpr ⟨a,AF.mp b⟩,e⟩
theorem sV{m:Nat}{l:Int}:∀{P:List Od}{t:Nat},t<m->(∀i,Od.tk i∈P->i<m)->∀v∈sps l P t,v.1<m
 | [],_,_,_,_,h=>by cases h
 | .tk i::P,t,_,h,v,hv=>sV (P:=P) (t:=i) (h i n_) (fun j mj=>h j (j_ _ mj)) v hv
 | .ov _ _ _::P,t,ht,h,v,hv=>sV (P:=P) (t:=t) ht (fun j mj=>h j (j_ _ mj)) v hv
 | .ct ps::P,t,ht,h,v,hv=>by
  rw[sps]at hv;rcases A_.mp hv with hv|hv
  ·obtain⟨p,_,rfl⟩:=t_.mp hv;exact ht
  exact sV (P:=P) (t:=t) ht (fun j mj=>h j (j_ _ mj)) v hv
theorem BQ(h:OkP m C N P){l:Int}:∀v∈sps l P 0,v.1<m:=by
 obtain⟨h0,_,_,h⟩:=h;cases P with
 |nil=>intro v mv;cases mv
 |cons o P=>
  obtain⟨i,rfl⟩:=h0 o rfl;exact sV (P:=P) (t:=i) (h _ n_) fun j mj=>h _ (j_ _ mj)
noncomputable def fnd(tl:List Tl)(S:List (Nat×Pt)):List Qt:=S.flatMap fun v=>(mkA (tl.getD v.1 (0,0,0,0,0))).map (mvQ v.2)
theorem uy{tl:List Tl}(h:∀t∈tl,tlO t)(hi:i<tl.length):tlO (tl.getD i (0,0,0,0,0)):=by rw[JE,c_ hi];exact h _ (Ki hi)
variable {S:List (Nat×Pt)}
theorem CG{tl:List Tl}(ht:∀t∈tl,tlO t)(hS:∀v∈S,v.1<tl.length):q∈fnd tl S↔q.2.2<4/\∃v∈S,inL (mkT (tR tl v.1) v.2) q:=by
 unfold fnd;rw[K7];constructor
 ·rintro⟨v,mv,m⟩;obtain⟨x,mx,rfl⟩:=t_.mp m;obtain⟨a,b⟩:=(yE (uy ht (hS v mv)) (p:=v.2)).mp ⟨x,mx,rfl⟩;exact⟨a,v,mv,b⟩
 rintro⟨a,v,mv,b⟩;obtain⟨x,mx,e⟩:=(yE (uy ht (hS v mv)) (p:=v.2)).mpr ⟨a,b⟩;exact⟨v,mv,t_.mpr ⟨x,mx,e.symm⟩⟩
theorem xO{tl:List Tl}(ht:∀t∈tl,tlO t):∀{S:List (Nat×Pt)},(∀v∈S,v.1<tl.length)->(fnd tl S).length<=576*S.length
 | [],_=>b_ _
 |v::S,h=>by have h1:=xO ht (S:=S) fun w mw=>h w (j_ _ mw);have h2:=yO (uy ht (h v n_));unfold fnd at *;rw[List.flatMap_cons,g_,a_,d_];lia
variable {v:Nat×Pt}
theorem C9{tl:List Tl}:fnd tl (S++[v])=fnd tl S++(mkA (tl.getD v.1 (0,0,0,0,0))).map (mvQ v.2):=by unfold fnd;rw[K_,MX]
theorem IC{tl:List Tl}{o:Bool}(h:j<tl.length):atI (tl.map fun t=>T.dT o (dG bc (mkA t))) (j:Int)=some (.dT o (dG bc (mkA (tl.getD j (0,0,0,0,0))))):=by
 refine cH ?_;rw[z_,c_ h,JE,c_ h]
 rfl
theorem tP{l:Int}:∀{P:List Od}{t:Nat}{v:Nat×Pt},v∈sps l P t->∃ps p,Od.ct ps∈P/\p∈ps/\p.1=v.2
 | [],_,_,h=>by cases h
 | .tk i::P,t,v,h=>by obtain⟨ps,p,m,r⟩:=tP (P:=P) (t:=i) h;exact⟨ps,p,j_ _ m,r⟩
 | .ov _ _ _::P,t,v,h=>by obtain⟨ps,p,m,r⟩:=tP (P:=P) (t:=t) h;exact⟨ps,p,j_ _ m,r⟩
 | .ct ps::P,t,v,h=>by
  rw[sps]at h;rcases A_.mp h with h|h
  ·obtain⟨p,m,rfl⟩:=t_.mp h;exact⟨ps,p,n_,(JJ.mp m).1,rfl⟩
  obtain⟨ps,p,m,r⟩:=tP (P:=P) (t:=t) h;exact⟨ps,p,j_ _ m,r⟩
theorem CK{l:Int}{t:Nat}{v:Nat×Pt×Pt}(h:v∈wls l P t):(v.1,v.2.1)∈sps l P t/\(v.1,v.2.2)∈sps l P t:=by obtain⟨a1,a2⟩:=oJ (l:=l) (P:=P) (t:=t);obtain⟨k,hk,n,e⟩:=a1 v h;exact⟨(a2 _ _).mp ⟨v,h,rfl,(ij hk e).mpr ⟨0,E_ _,by unfold gon;simp⟩⟩,(a2 _ _).mp ⟨v,h,rfl,(ij hk e).mpr ⟨n,b_ _,e⟩⟩⟩
theorem EF(h:OkP m C N P){l:Int}(hv:v∈sps l P 0):(-C<=v.2.1/\v.2.1<=C)/\-C<=v.2.2/\v.2.2<=C:=by obtain⟨ps,p,m1,m2,e⟩:=tP hv;rw[<-e];exact h.2.2.2 _ m1 p m2
theorem Em{tl:List Tl}(ht:∀t∈tl,tlO t)(hi:i<tl.length):CH (tR tl i)/\(tR tl i).1<=6:=by obtain⟨h1,h2,h3,h4⟩:=uy ht hi;unfold CH tR;dsimp only;lia
theorem FW{tl:List Tl}{l:Int}(hP:OkP tl.length C N P)(ht:∀t∈tl,tlO t)(h:o∈dO l tl P):∃r R p q,o=swT (r,R) (p,q)/\(1<=r/\r<R/\R<2*r)/\r<=6/\(-C<=p.1/\p.1<=C/\-C<=p.2/\p.2<=C)/\-C<=q.1/\q.1<=C/\-C<=q.2/\q.2<=C:=by obtain⟨v,mv,rfl⟩:=uI.mp h;obtain⟨e1,e2⟩:=CK mv;obtain⟨k1,k2⟩:=Em ht (BQ hP _ e1);have b1:=EF hP e1;have b2:=EF hP e2;dsimp only at b1 b2;exact⟨_,_,v.2.1,v.2.2,rfl,k1,k2,by lia,by lia⟩
noncomputable def Cuts(l:Int)(tl:List Tl)(P:List Od)(qs:List Qt):Prop:=qs.Nodup/\∀q,q∈qs↔q.2.2<4/\∃v∈sps l P 0,inL (mkT (tR tl v.1) v.2) q
theorem gE{i:Int}{t:T}{k:T->Prop}:qO (.lst true ts) (.int i) t k=dU (ixN ts.length i) (k:=⟨fun j=>k (.lst true (ts.set j t))⟩):=rfl
noncomputable def PrO(m:Nat)(P:List Od)(N L:Nat):Prop:=(∃i P',P=.tk i::P')/\nPl P<=N/\P.length<=L/\∀o∈P,Fp m 100 o
theorem J0(h:i<m):PrO m [.tk i] 0 1:=⟨⟨i,[],rfl⟩,b_ _,b_ _,fun o mo=>by rw[A'.mp mo];exact h⟩
variable {L:Nat}
theorem qP{N' L':Nat}(h:PrO m P N L)(hN:N<=N')(hL:L<=L'):PrO m P N' L':=⟨h.1,m_ h.2.1 hN,m_ h.2.2.1 hL,h.2.2.2⟩
theorem qE{N' L':Nat}(o:Od)(h:PrO m P N L)(hN:Bx o+N<=N')(hL:L+1<=L')(ho:Fp m 100 o):PrO m (P++[o]) N' L':=by
 obtain⟨⟨i,P',rfl⟩,h1,h2,h3⟩:=h;refine⟨⟨i,P'++[o],rfl⟩,?_,?_,fun x mx=>?_⟩
 ·unfold nPl at *;rw[v_,NF];show _+(Bx o+0)<=N';lia
 ·rw[g_];exact m_ (MJ h2) hL
 rcases A_.mp mx with mx|mx
 ·exact h3 x mx
 rw[A'.mp mx];exact ho
theorem Ir(h:PrO m P N L)(hL:L<=300):OkP m 100 N P:=by obtain⟨⟨i,P',rfl⟩,h1,h2,h3⟩:=h;exact⟨fun o e=>⟨i,(I_ e).symm⟩,m_ h2 hL,h1,h3⟩
theorem Hx(h0:0<=d)(h1:d<2):∃h,atI [T.str "low",T.str "high"] d=some (.str (hS h)):=by
 rcases(by lia:d=0\/d=1)with rfl|rfl
 ·exact⟨false,rfl⟩
 exact⟨true,rfl⟩
theorem DA{l:Int}{tl:List Tl}:(dO l tl P).Nodup:=mF sL KA
def Br:Od->Bool
 | .ct _=>true
 | _=>false
theorem hZ{i:Int}{k:T->Prop}:dX [.int i,.ty "dict"] k=k (.bl false):=rfl
theorem iF{i:Int}{k:T->Prop}:dX [.int i,.ty "list"] k=k (.bl false):=rfl
theorem gP{i:Int}{k:T->Prop}:dX [.int i,.ty "tuple"] k=k (.bl false):=rfl
theorem i6{i:Int}{k:T->Prop}:dX [.int i,.ty "str"] k=k (.bl false):=rfl
theorem iq{i:Int}{k:T->Prop}:dX [.int i,.ty "int"] k=k (.bl true):=rfl
theorem iD{i:Int}{k:T->Prop}:dX [.int i,.ty "bool"] k=k (.bl false):=rfl
theorem i5{o:Bool}{k:T->Prop}:dX [.lst o ts,.ty "dict"] k=k (.bl false):=rfl
theorem gm{o:Bool}{k:T->Prop}:dX [.lst o ts,.ty "list"] k=k (.bl true):=rfl
theorem iI{o:Bool}{k:T->Prop}:dX [.lst o ts,.ty "tuple"] k=k (.bl false):=rfl
theorem gc{x:Str}{k:T->Prop}:dX [.str x,.ty "tuple"] k=k (.bl false):=rfl
theorem bU{k:T->Prop}:dX [.tup ts,.ty "tuple"] k=k (.bl true):=rfl
theorem AO{o:Od}:bC (odT true true o)=true:=by cases o <;> simp only[odT,sqB,bC,cq,bj,cJ,cF,JI,L4,if_true]
theorem HF{p:Plc}:Gd (plT p) (n+1):=sP (aP o7 (aP o7 (aP o7 fy)))
theorem En{o:Od}:Gd (odT false false o) 3:=by
 cases o with
 |tk i=>exact sP (aP DU (aP o7 fy))
 |ov h x y=>exact sP (aP DU (aP DU (aP o7 (aP o7 fy))))
 |ct ps=>exact sP (aP DU (aP (sP (gx fun _ _=>HF)) fy))
theorem Ew:Gd (tvT false false t) 3:=sP (aP o7 (aP o7 (aP o7 (aP o7 (aP o7 fy)))))
noncomputable def odP:Od->List T
 | .tk i=>[.str "take",.int (i:Int)]
 | .ov h x y=>[.str "over",.str (hS h),.int x,.int y]
 | .ct ps=>[.str "cut",.tup (ps.map plT)]
def lsP:T->T
 | .tup ts=>.lst true ts
 |t=>t
theorem eV{o:Od}:items (odT false false o)=some (odP o):=by cases o <;> rfl
theorem FL{o:Od}:erL (odP o)=odP o:=by cases o <;> simp only[odP,er,erL,cv,fW]
theorem Cn{o:Od}:(odP o).length<=4:=by cases o <;> exact Nat.le_of_ble_eq_true rfl
theorem HH{o:Od}:odT true true o=.lst true ((odP o).map lsP):=by cases o <;> rfl
theorem B4{o:Od}{t:T}(h:t∈odP o):(∃s,t=.str s)\/(∃i,t=.int i)\/∃ps:List Plc,t=.tup (ps.map plT):=by
 cases o <;> simp only[odP,o_,JO,or_false]at h
 ·rcases h with rfl|rfl
  ·exact .inl ⟨_,rfl⟩
  exact .inr (.inl ⟨_,rfl⟩)
 ·rcases h with rfl|rfl|rfl|rfl
  ·exact .inl ⟨_,rfl⟩
  ·exact .inl ⟨_,rfl⟩
  ·exact .inr (.inl ⟨_,rfl⟩)
  exact .inr (.inl ⟨_,rfl⟩)
 rcases h with rfl|rfl
 ·exact .inl ⟨_,rfl⟩
 exact .inr (.inr ⟨_,rfl⟩)
noncomputable def dP(x s n a b c d:Int):Prop:=∃y,(s<=y/\y<=n)/\(a<=x+y/\x+y<=b)/\c<=x-y/\x-y<=d
theorem CD{s n b c:Int}(h:dP x s n a b c d):¬max (max s (a-x)) (x-d) > min (min n (b-x)) (x-c):=by obtain⟨y,h⟩:=h;omega
theorem fD{s n b c s' n' a' b' c' d':Int}(h:dP x s n a b c d)(h':dP x' s' n' a' b' c' d'):dP (x+x') (s+s') (n+n') (a+a') (b+b') (c+c') (d+d'):=by obtain⟨y,⟨h1,h2⟩,⟨h3,h4⟩,h5,h6⟩:=h;obtain⟨y',⟨k1,k2⟩,⟨k3,k4⟩,k5,k6⟩:=h';refine⟨y+y',⟨?_,?_⟩,⟨?_,?_⟩,?_,?_⟩ <;> lia
noncomputable def Met(o:Oc):Prop:=(dP o.a o.c o.d o.e o.f o.g o.h/\dP o.b o.c o.d o.e o.f o.g o.h)/\(dP o.c o.a o.b o.e o.f (-o.h) (-o.g)/\dP o.d o.a o.b o.e o.f (-o.h) (-o.g))/\
  (dP o.e o.g o.h (2*o.a) (2*o.b) (2*o.c) (2*o.d)/\dP o.f o.g o.h (2*o.a) (2*o.b) (2*o.c) (2*o.d))/\dP o.g o.e o.f (2*o.a) (2*o.b) (-2*o.d) (-2*o.c)/\dP o.h o.e o.f (2*o.a) (2*o.b) (-2*o.d) (-2*o.c)
theorem Dd{p:Oc}(h:Met o)(k:Met p):Met (uX o p):=by obtain⟨⟨h1,h2⟩,⟨h3,h4⟩,⟨h5,h6⟩,h7,h8⟩:=h;obtain⟨⟨k1,k2⟩,⟨k3,k4⟩,⟨k5,k6⟩,k7,k8⟩:=k;unfold Met uX;dsimp only;simp only[Nn,Int.neg_add];exact⟨⟨fD h1 k1,fD h2 k2⟩,⟨fD h3 k3,fD h4 k4⟩,⟨fD h5 k5,fD h6 k6⟩,fD h7 k7,fD h8 k8⟩
theorem F2{r k:Int}(h0:1<=r)(h1:1<=k)(h2:k<r):Met (mkO r k (0,0)):=by unfold Met mkO uX oc1 dP;dsimp only;refine⟨⟨⟨0,?_⟩,0,?_⟩,⟨⟨0,?_⟩,0,?_⟩,⟨⟨0,?_⟩,0,?_⟩,⟨0,?_⟩,0,?_⟩ <;> lia
theorem Hd{q:Pt}:Met (oc2 p q):=by
 unfold Met oc2 dP;dsimp only;have l:=@Kb;have l':=@Kl;have g:=@Kc;have g':=@Kk;have d2:∀{a b c:Int},a<=b->c=2*b->2*a<=c:=fun h e=>by lia
 have d3:∀{a b c:Int},a<=b->c=2*a->c<=2*b:=fun h e=>by lia
 have n2:∀{a b c:Int},a<=b->c=-2*a->-2*b<=c:=fun h e=>by lia
 have n3:∀{a b c:Int},a<=b->c=-2*b->c<=-2*a:=fun h e=>by lia
 have n0:∀{a b c:Int},a<=b->c=-a->-b<=c:=fun h e=>by lia
 have n1:∀{a b c:Int},a<=b->c=-b->c<=-a:=fun h e=>by lia
 obtain⟨x,y⟩:=p;obtain⟨x',y'⟩:=q;dsimp only;refine⟨⟨?_,?_⟩,⟨?_,?_⟩,⟨?_,?_⟩,?_,?_⟩
 ·rcases JW x x' with c|c
  ·rw[KJ c];exact⟨y,⟨l _ _,g _ _⟩,⟨l _ _,g _ _⟩,l _ _,g _ _⟩
  rw[KD c];exact⟨y',⟨l' _ _,g' _ _⟩,⟨l' _ _,g' _ _⟩,l' _ _,g' _ _⟩
 ·rcases JW x x' with c|c
  ·rw[Kj c];exact⟨y',⟨l' _ _,g' _ _⟩,⟨l' _ _,g' _ _⟩,l' _ _,g' _ _⟩
  rw[Kt c];exact⟨y,⟨l _ _,g _ _⟩,⟨l _ _,g _ _⟩,l _ _,g _ _⟩
 ·rcases JW y y' with c|c
  ·rw[KJ c];exact⟨x,⟨l _ _,g _ _⟩,⟨by rw[KI];exact l _ _,by rw[KI];exact g _ _⟩,n0 (g _ _) (by lia),n1 (l _ _) (by lia)⟩
  rw[KD c];exact⟨x',⟨l' _ _,g' _ _⟩,⟨by rw[KI y'];exact l' _ _,by rw[KI y'];exact g' _ _⟩,n0 (g' _ _) (by lia),n1 (l' _ _) (by lia)⟩
 ·rcases JW y y' with c|c
  ·rw[Kj c];exact⟨x',⟨l' _ _,g' _ _⟩,⟨by rw[KI y'];exact l' _ _,by rw[KI y'];exact g' _ _⟩,n0 (g' _ _) (by lia),n1 (l' _ _) (by lia)⟩
  rw[Kt c];exact⟨x,⟨l _ _,g _ _⟩,⟨by rw[KI];exact l _ _,by rw[KI];exact g _ _⟩,n0 (g _ _) (by lia),n1 (l _ _) (by lia)⟩
 ·rcases JW (x+y) (x'+y')with c|c
  ·rw[KJ c];exact⟨x-y,⟨l _ _,g _ _⟩,⟨d2 (l x x') (by lia),d3 (g x x') (by lia)⟩,d2 (l y y') (by lia),d3 (g y y') (by lia)⟩
  rw[KD c];exact⟨x'-y',⟨l' _ _,g' _ _⟩,⟨d2 (l' x x') (by lia),d3 (g' x x') (by lia)⟩,d2 (l' y y') (by lia),d3 (g' y y') (by lia)⟩
 ·rcases JW (x+y) (x'+y')with c|c
  ·rw[Kj c];exact⟨x'-y',⟨l' _ _,g' _ _⟩,⟨d2 (l' x x') (by lia),d3 (g' x x') (by lia)⟩,d2 (l' y y') (by lia),d3 (g' y y') (by lia)⟩
  rw[Kt c];exact⟨x-y,⟨l _ _,g _ _⟩,⟨d2 (l x x') (by lia),d3 (g x x') (by lia)⟩,d2 (l y y') (by lia),d3 (g y y') (by lia)⟩
 ·rcases JW (x-y) (x'-y')with c|c
  ·rw[KJ c];exact⟨x+y,⟨l _ _,g _ _⟩,⟨d2 (l x x') (by lia),d3 (g x x') (by lia)⟩,n2 (g y y') (by lia),n3 (l y y') (by lia)⟩
  rw[KD c];exact⟨x'+y',⟨l' _ _,g' _ _⟩,⟨d2 (l' x x') (by lia),d3 (g' x x') (by lia)⟩,n2 (g' y y') (by lia),n3 (l' y y') (by lia)⟩
 rcases JW (x-y) (x'-y')with c|c
 ·rw[Kj c];exact⟨x'+y',⟨l' _ _,g' _ _⟩,⟨d2 (l' x x') (by lia),d3 (g' x x') (by lia)⟩,n2 (g' y y') (by lia),n3 (l' y y') (by lia)⟩
 rw[Kt c];exact⟨x+y,⟨l _ _,g _ _⟩,⟨d2 (l x x') (by lia),d3 (g x x') (by lia)⟩,n2 (g y y') (by lia),n3 (l y y') (by lia)⟩
theorem Fc{r R:Int}(p q:Pt)(h0:1<=r)(h1:r<R)(h2:R<2*r)(o:Oc)(e:o=swT (r,R) (p,q)):Met o:=by have k:=Dd (F2 (r:=r) (k:=R-r) h0 (by lia) (by lia)) (Hd (p:=p) (q:=q));have w:=sw_eq (r:=r) (k:=R-r) (p:=p) (q:=q);rw[show r+(R-r)=R by lia]at w;rw[e,<-w];exact k
theorem hC{k:T->Prop}:dX [ocT o,.tup [.ty "list",.ty "tuple"]] k=k (.bl true):=rfl
theorem kN{k:T->Prop}:A0 [ocT o] k=k (.int 8):=rfl
theorem fj:items (ocT o)=some ((ocL o).map T.int):=rfl
def qtT(q:Qt):T:=.tup [.int q.1,.int q.2.1,.int (q.2.2:Int)]
theorem kL:er (qtT q)=qtT q:=rfl
theorem fg:bC (qtT q)=true:=rfl
theorem cP:aS (qtT q)=true:=rfl
theorem df:isAny (qtT q)=false:=rfl
theorem iy{k:T->Prop}:ixT (qtT q) (.int 2) k=k (.int (q.2.2:Int)):=rfl
theorem iP{k:T->Prop}:ixT (qtT q) (.int 0) k=k (.int q.1):=rfl
theorem iu{k:T->Prop}:ixT (qtT q) (.int 1) k=k (.int q.2.1):=rfl
def Jj:List Pt:=[(3,2),(2,3),(1,2),(2,1)]
def inn(s:Nat):Pt:=Jj.getD s (0,0)
theorem G7(h:s<4):atI [T.cst [.int 3,.int 2],.cst [.int 2,.int 3],.cst [.int 1,.int 2],.cst [.int 2,.int 1]] (s:Int)=some (.cst [.int (inn s).1,.int (inn s).2]):=by
 match s,h with
 |0,_=>rfl
 |1,_=>rfl
 |2,_=>rfl
 |3,_=>rfl
def qN(q:Qt):Pt:=(4*q.1+(inn q.2.2).1,4*q.2.1+(inn q.2.2).2)
noncomputable def rj(o:Oc):Bool:=decide (o.a=o.b) || (decide (o.c=o.d) || (decide (o.e=o.f) || decide (o.g=o.h)))
noncomputable def inP(o:Oc)(x y:Int):Prop:=(4*o.a<x/\x<4*o.b)/\(4*o.c<y/\y<4*o.d)/\(4*o.e<x+y/\x+y<4*o.f)/\4*o.g<x-y/\x-y<4*o.h
instance (o:Oc) (x y:Int):Decidable (inP o x y):=by unfold inP;infer_instance
def inO(o:Oc)(q:Qt):Bool:=decide (inP o (qN q).1 (qN q).2)
def cellQ(f:Nat->Bool)(x y:Int):List Qt:=((u_ 4).filter f).map fun s=>(x,y,s)
theorem qR(f:Nat->Bool)(x y:Int):(cellQ f x y).length<=4:=by unfold cellQ;rw[a_];exact KL _ (u_ 4)
theorem BA{f:Nat->Bool}(h:q∈cellQ f x y):q.1=x/\q.2.1=y/\q.2.2<4/\f q.2.2=true:=by obtain⟨s,m,rfl⟩:=t_.mp h;have:=JJ.mp m;exact⟨rfl,rfl,B'.mp this.1,this.2⟩
def mX(o:Oc)(x:Int):Int:=max (max o.c (o.e-x-1)) (x-o.h)
def ud(o:Oc)(x:Int):Int:=min (min o.d (o.f-x)) (x+1-o.g)
noncomputable def ocC(o:Oc)(x:Int)(n:Nat):List Qt:=o9 (fun y=>cellQ (fun s=>inO o (x,y,s)) x y) (mX o x) n
def ocN(o:Oc)(n:Nat):List Qt:=o9 (fun x=>ocC o x (ud o x-mX o x).toNat) o.a n
noncomputable def bdO(o:Oc):Prop:=(((-400<=o.a/\o.a<=400)/\-400<=o.b/\o.b<=400)/\(-400<=o.c/\o.c<=400)/\-400<=o.d/\o.d<=400)/\((-400<=o.e/\o.e<=400)/\-400<=o.f/\o.f<=400)/\(-400<=o.g/\o.g<=400)/\-400<=o.h/\o.h<=400
theorem Aw(h:bdO o)(h0:-400<=x)(h1:x<=400):-400<=mX o x/\mX o x<=1200/\-1200<=ud o x/\ud o x<=400:=by obtain⟨⟨⟨⟨a0,a1⟩,b0,b1⟩,⟨c0,c1⟩,d0,d1⟩,⟨⟨e0,e1⟩,f0,f1⟩,⟨g0,g1⟩,h0,h1⟩:=h;unfold mX ud;omega
theorem xP(n:Nat):(ocC o x n).length<=4*n:=eR (fun y=>qR _ _ _) n
theorem DS(h:bdO o)(n:Nat)(hn:(n:Int)<=o.b-o.a):(ocN o n).length<=8000*n:=by
 induction n with
 |zero=>exact b_ _
 |succ n ih=>
  unfold ocN at *;rw[e9,g_];have h1:=ih (by lia);have h2:=xP (o:=o) (x:=o.a+n) (ud o (o.a+n)-mX o (o.a+n)).toNat;have h3:=Aw (x:=o.a+n) h (by have:=h.1.1.1.1;lia) (by have:=h.1.1.2.2;lia);lia
theorem Bj{P:Oj}{w:Ot}{K:N7}{mg:Str->Option N5}{base:Ou}{k:Nat}{ps:List Str}(h:n=ps.length):FnOk P w K mg base CX0 k f fd ps (aG K n fun _ _=>False):=
 ⟨fun _ _ _ _ ⟨_,_,_,_,h2,_⟩=>h2.trans h,fun _ _ _ _ _ _ _ _ _ _ _ _ _ ⟨_,_,_,_,_,_,z,_⟩=>z.elim⟩
theorem kx{k:T->Prop}:A0 [sqB b u ts] k=k (.int (ts.length:Int)):=by cases b <;> rfl
theorem nP{r:List Int}:er (iT r)=iT r:=by simp only[iT,er,cv]
theorem eS{r:List Int}:isAny (iT r)=false:=rfl
theorem f7{r:List Int}:aS (iT r)=true:=by have:=bf (iT r);rwa[nP]at this
theorem gS{k:T->Prop}:dX [.tup ts,.ty "dict"] k=k (.bl false):=rfl
theorem gI{k:T->Prop}:dX [.tup ts,.ty "list"] k=k (.bl false):=rfl
theorem Hj(h:q.2.2<4):inO o q=true↔inL o q:=by
 obtain⟨x,y,s⟩:=q;unfold inO;rw[decide_eq_true_eq];unfold inP inL qN;dsimp only at *
 match s,h with
 |0,_=>rw[show inn 0=(3,2)from rfl,show px 0=6 from rfl,show py 0=5 from rfl];dsimp only;lia
 |1,_=>rw[show inn 1=(2,3)from rfl,show px 1=4 from rfl,show py 1=7 from rfl];dsimp only;lia
 |2,_=>rw[show inn 2=(1,2)from rfl,show px 2=2 from rfl,show py 2=3 from rfl];dsimp only;lia
 |3,_=>rw[show inn 3=(2,1)from rfl,show px 3=4 from rfl,show py 3=1 from rfl];dsimp only;lia
theorem tf(v:o.a<=o.b):q∈ocN o (o.b-o.a).toNat↔q.2.2<4/\inL o q:=by
 unfold ocN ocC;rw[cg];constructor
 ·rintro⟨x,x1,x2,m⟩;obtain⟨y,y1,y2,m⟩:=cg.mp m;obtain⟨rfl,rfl,h4,hm⟩:=BA m;exact⟨h4,(Hj h4).mp hm⟩
 rintro⟨h4,hi⟩;have hb:(o.a<=q.1/\q.1<o.b)/\mX o q.1<=q.2.1/\q.2.1<ud o q.1:=by have:=pxy h4;unfold inL at hi;unfold mX ud;omega
 refine⟨q.1,hb.1.1,by omega,cg.mpr ⟨q.2.1,hb.2.1,by lia,?_⟩⟩;unfold cellQ;exact t_.mpr ⟨q.2.2,JJ.mpr ⟨B'.mpr h4,(Hj h4).mpr hi⟩,rfl⟩
theorem E5{r R:Int}{q:Pt}(h0:1<=r)(h1:r<R):rj (swT (r,R) (p,q))=false:=by unfold rj swT swQ;dsimp only;simp only[Bool.or_eq_false_iff,decide_eq_false_iff_not];lia
theorem Hr{r R:Int}{q:Pt}(h0:1<=r)(h1:r<R)(h2:R<2*r)(h6:r<=6)(hp:-100<=p.1/\p.1<=100/\-100<=p.2/\p.2<=100)(hq:-100<=q.1/\q.1<=100/\-100<=q.2/\q.2<=100):bdO (swT (r,R) (p,q)):=by unfold bdO swT swQ;dsimp only;omega
theorem gD{gs:tI}{env:Ev}{k:Ev->Prop}:gTp n gs (ptP p) env k=gTp n gs (.tup [.int p.1,.int p.2]) env k:=rfl
theorem y4{a b:T}{k:T->Prop}(e:dt a=dt b)(g:Gd a n)(g':Gd b n)(hn:n<100)(q:k (.bl true)):eqT a b k:=by unfold eqT;rw[<-e,jk];exact⟨g.1,g'.1,JK g.2 (s_ hn (by decide)),q⟩
variable {rs:List (List Int)}
theorem yi{o:Bool}:Gd (.lst o (rs.map iT)) 2:=Be (gx fun r _=>sP (gx fun _ _=>o7))
theorem C5{o:Bool}{k:T->Prop}(h:k (.lst true ((pf (os.map ocL)).map iT))):sO [.lst o (os.map ocT)] k:=by show got (rowsOf (os.map ocT)) _;rw[nM ocT ocL Au (fun x=>K8 _ _) os];exact h
theorem Dc{r:List Int}:bC (iT r)=true:=by simp only[iT,bC,bj,cF]
theorem zU:bC (.lst true (rs.map iT))=true:=by simp only[bC,bj,Dc,cF,JI]
def iU(x:Oc):List Qt:=ocN x (x.b-x.a).toNat
theorem hX{t:T}{k:T->Prop}:qO (.dT true kvs) (qtT q) t k=qO (.dT true kvs) (.tup [.int q.1,.int q.2.1,.int (q.2.2:Int)]) t k:=rfl
theorem DZ{l:List Qt}(nd:l.Nodup)(h:∀q∈l,q.2.2<4/\(-400<=q.1/\q.1<400)/\-400<=q.2.1/\q.2.1<400):l.length<=2560000:=by refine m_ (GL (m:=o9 (fun x=>o9 (fun y=>cl4 (fun _=>True) x y) (-400) 800) (-400) 800) nd fun q mq=>?_) (m_ (eR (fun x=>eR (fun y=>u9) 800) 800) (by decide));obtain⟨h4,hx,hy⟩:=h q mq;exact cg.mpr ⟨q.1,hx.1,by lia,cg.mpr ⟨q.2.1,hy.1,by lia,m9.mpr ⟨rfl,rfl,h4,trivial⟩⟩⟩
theorem Ce(v:o.a<=o.b)(hb:bdO o)(h:q∈iU o):q.2.2<4/\(-400<=q.1/\q.1<400)/\-400<=q.2.1/\q.2.1<400:=by obtain⟨h4,hi⟩:=(tf v).mp h;have:=pxy h4;unfold inL at hi;unfold bdO at hb;refine⟨h4,by omega,by omega⟩
theorem AV:∀{P:List Od},((P.filter Br).map fun o=>(Bx o:Int)).sum=(nPl P:Int)
 | []=>rfl
 |o::P=>by
  have ih:=AV (P:=P);unfold nPl at *;rw[f',Ku,JN];cases o with
  |tk i=>rw[if_neg (show ¬Br (.tk i)=true from C_),ih];show _=((0+_:Nat):Int);rw[Kq]
  |ov b x y=>rw[if_neg (show ¬Br (.ov b x y)=true from C_),ih];show _=((0+_:Nat):Int);rw[Kq]
  |ct ps=>rw[if_pos (show Br (.ct ps)=true from rfl),f',Ku,ih];exact(Int.natCast_add _ _).symm
def wu:=And.intro @Mp.Ap (@Mp.Ap)
def xi:=@PL.bf
end Mp
local macro_rules | `(tactic| walk_at "go")=>do
 let l<-("!PL.oW !PL.jU !PL.pJ !PL.gf !PL.kZ !PL.kF !PL.iO !PL.k9 !PL.hJ !PL.iJ !PL.d9 !PL.eP !PL.i4 !PL.eQ !PL.fZ !PL.kG !PL.gu !PL.kR !PL.i7 !PL.eG !PL.gp !PL.ip !PL.lD !PL.fY !PL.hU !PL.gK !PL.iw !PL.eZ !PL.fh !PL.eI !PL.gd !PL.eD !PL.gy !PL.kS !PL.hV !PL.iA !PL.kX !PL.iB !PL.qG !PL.gG !PL.eE !PL.gA !PL.eJ !PL.fX !PL.kC !PL.kD !PL.kO !PL.jZ !PL.kh !PL.ig !PL.gv !PL.gC !PL.il !PL.lG !PL.kW !PL.kB !PL.lA !PL.kj !PL.lj !PL.lE !PL.lx !PL.jd !PL.gX !PL.gW !PL.gY !PL.iC !PL.eN !PL.fv !PL.eM !PL.lu !PL.kc !PL.kz !PL.kY !PL.kM !PL.lF !PL.kU !PL.iK !PL.iL !PL.fk !PL.kq !PL.jY !PL.cA !PL.cx !PL.kg !PL.gJ PL.kA PL.eY PL.eC PL.oX PL.oR PL.pI PL.qA PL.qx PL.pK PL.qh PL.pB PL.dc PL.dD PL.cC PL.g9 PL.cv PL.gQ PL.bX PL.bf PL.bj PL.cF PL.cO PL.gU PL.d5 PL.f9 PL.de PL.gj PL.cQ PL.cZ PL.cU PL.gF PL.cV PL.d4 PL.cY PL.iH PL.cM PL.eB PL.i9 PL.cX PL.dr PL.er PL.erL PL.aS PL.bB PL.bC PL.cq PL.lend PL.back PL.outs PL.frA PL.vk f' LG d_ JY a_ K' Kw Nb Mi Kz JM Mb List.zipWith_cons_cons List.zipWith_nil_left List.zipWith_nil_right decide_eq_true_eq decide_true decide_false Mr LQ JI Bool.and_self Jv true_and Option.map_some Kq L_ PySem.sizeLine_eq PL.Th.v if_true if_false Mp.hG Nat.reduceAdd Nat.reduceSub Nat.reduceLeDiff Mp.jX Mp.dB Mp.du Mp.dh !Mp.kK Mp.fq Mp.cE Mp.bu Mp.b6 Mp.b7 !Mp.bV !Mp.bT !Mp.b9 Mp.cE Mp.bu Mp.b6 Mp.b7 !Mp.bV !Mp.bT !Mp.b9 Mp.lB Mp.eW Mp.d7 Mp.dk !Mp.gM !Mp.iN !PL.gZ !PL.qp Mp.qB Mp.lg Mp.dg Mp.ff !Mp.gR Mp.xj Mp.xf Mp.iE Mp.dq Mp.cm Mp.cn Mp.dH !Mp.l9 Mp.kJ Mp.dw Mp.cS Mp.eU !Mp.ik !Mp.gL Mp.fW Mp.cB Mp.cJ Mp.ku Mp.cR Mp.eF Mp.w6 Mp.wQ Mp.wY Mp.wz !Mp.gE !Mp.hZ !Mp.iF !Mp.gP !Mp.i6 !Mp.iq !Mp.iD !Mp.gc !Mp.bU Mp.eV !Mp.hC !Mp.kN Mp.fj Mp.kL Mp.fg Mp.cP Mp.df !Mp.iP !Mp.iu !Mp.iy Mp.nP Mp.eS Mp.f7 !Mp.gS !Mp.gI !Mp.gm !Mp.iI !Mp.i5 !Mp.bU !Mp.kx !PL.kH !PL.d8 !PL.qu !Mp.gD !Mp.hX !Mp.wu Mp.xi".splitOn " ").toArray.mapM fun s=>let i:Lean.Ident:=Lean.mkIdent (s.replace "!" "").toName;if s.front=='!' then `(Lean.Parser.Tactic.simpLemma|↓$i:ident) else `(Lean.Parser.Tactic.simpLemma|$i:ident)
 `(tactic| simp only[$l,*])
local macro_rules | `(tactic| walk_at "take")=>`(tactic| refine⟨_,_,_,rfl,by lia,by first|decide|lia,by first|decide|lia,?_⟩)
namespace Mp
open PySem L2 PL
noncomputable def qY:FP:=fun ts k=>∃(p:Pt) (d:Nat) (m:Int),ts=[ptP p,.int d,.int m]/\d<8/\k (ptP (vJ p d m)) ts
variable {f:N8}{fd:OA}
section
variable{P:Oj}{w:Ot}{K:N7}{mg:Str->Option N5}{base:Ou}
theorem pA:FnScope ["corner","direction","many","step"] ["corner","direction","many"] (ax nz):=⟨rfl,rfl,rfl,by decide +kernel,rfl,by decide +kernel,by decide +kernel⟩
theorem x5(F:Fun K "stepped" "stepped" nz f fd)(TX:Txt mg)(C_STEPS:Glb K mg "STEPS" tU) :FnOk P w K mg base CX0 1 f fd ["corner","direction","many"] (aG K 3 qY):=by refine br F pA [true,true,true] rfl (fun cdv A outer s H E hr=>?_);have sc:=@pA;refine⟨_,(ai (aA (i:=3) sc.nd (by rfl) (e_ rfl) (by rfl) (aB (aq hr (FN C_STEPS (by rfl)) (af 1)))) (aj (aE (aB (aC (ae (ak aD (aq hr (af 0) ge_int) (ak aK (aq hr (af 3) ge_int) (af 2))) (ae (ak aD (aq hr (af 0) ge_int) (ak aK (aq hr (af 3) ge_int) (af 2))) ag))))))),fun ts kk hl hp=>?_⟩;clear hl;obtain⟨p,d,m,rfl,hd,q⟩:=hp;walk_at "go";refine aY (Bi hd) ?_;have:=zo d hd;walk_at "go";exact⟨.inl (by lia),.inl (by lia),q⟩
def qD:FP:=fun ts k=>∃(p q:Pt),ts=[ptP p,ptP q]/\k (y8 p q) ts
theorem nQ:FnScope ["one","other","many","direction"] ["one","other"] (ax jT):=⟨rfl,rfl,rfl,by decide +kernel,rfl,by decide +kernel,by decide +kernel⟩
theorem uo(F:Fun K "straight" "straight" jT f fd)(TX:Txt mg)(C_STEPS:Glb K mg "STEPS" tU)(G_stepped:Cal P w K mg base 1 "stepped" ["corner","direction","many"] (aG K 3 qY)):FnOk P w K mg base CX0 2 f fd ["one","other"] (aG K 2 qD):=by
 refine br F nQ [true,true] rfl (fun cdv A outer s H E hr=>?_);have sc:=@nQ;refine⟨_,(ai (aA (i:=2) sc.nd (by rfl) (e_ rfl) (by rfl) (aB (au (jF rfl) (by rfl) TX.max (by decide +kernel) (ae (au jD (by rfl) TX.abs (by decide +kernel) (ae (ak bA (aq hr (af 1) ge_int) (aq hr (af 0) ge_int)) ag)) (ae (au jD (by rfl) TX.abs (by decide +kernel) (ae (ak bA (aq hr (af 1) ge_int) (aq hr (af 0) ge_int)) ag)) ag))))) (ai (bz (cN (aX (bh hr) (af 2) ge_int (aF _))) (aj (aE nD)) aQ) (ai (bG OD (by rfl) (d6 (by rfl) TX.range (ae (aB (au bS (by rfl) TX.len (by decide +kernel) (ae (FN C_STEPS (by rfl)) ag))) ag)) (av (i:=3) sc.nd (by rfl) (e_ rfl) (by rfl)) (aj (bz (cN (aX (bh hr) (ay G_stepped hr (by rfl) (ah (af 0) (ah (af 3) (ah (af 2) az)))) (bR dM (by rfl) TX.tuple (by decide +kernel) (ae (af 1) ag)) (aF _))) (aj (aE (aB (aC (ae (af 3) (ae (af 2) ag)))))) aQ))) (aj (aE nD))))),fun ts kk hl hp=>?_⟩;clear hl;obtain⟨a,b,rfl,q⟩:=hp;unfold y8 lead far at q;walk_at "go";refine aR (fun h=>?_) (fun h=>?_)
 ·walk_at "go";rw[if_pos h]at q;exact q
 walk_at "go";rw[if_neg h]at q;refine⟨by decide,b8 (fun i env=>(∀j,j<i->vJ a j (far a b)≠b)/\∃z,env=[ptP a,ptP b,.int (far a b),z]) ⟨fun j hj=>by lia,_,rfl⟩ ?_ ?_⟩
 ·rintro i t _ ⟨hb,z,rfl⟩ ei;have hi:i<8:=dW ei;have et:=js ei;subst et;walk_at "go";refine⟨a,i,far a b,by rw[LP],hi,?_⟩;walk_at "go";refine aR (fun h2=>?_) (fun h2=>?_)
  ·walk_at "go";have ef:(u_ 8).find? (fun d=>decide (vJ a d (far a b)=b))=some i:=by rw[List.find?_range_eq_some];exact⟨decide_eq_true h2,B'.mpr hi,fun j hj=>by rw[decide_eq_false (hb j hj)];rfl⟩
   unfold far at ef ⊢;rw[ef]at q;rw[LP];exact q
  walk_at "go";refine⟨fun j hj=>?_,_,rfl⟩;rcases Nat.lt_succ_iff_lt_or_eq.mp hj with hj|rfl
  ·exact hb j hj
  exact h2
 rintro _ ⟨hb,z,rfl⟩;walk_at "go";have ef:(u_ 8).find? (fun d=>decide (vJ a d (far a b)=b))=none:=by rw[List.find?_range_eq_none];intro j hj;rw[decide_eq_false (hb j (by rw[bE];exact hj))];rfl
 unfold far at ef;rw[ef]at q;exact q
end
noncomputable def mQ:FP:=fun ts k=>∃(o:Bool) (ps:List Pt),ts=[.lst o (ps.map ptP)]/\ps≠[]/\ps.length<sizeLine/\∀oc,AL ps oc->k (ocT oc) ts
section
variable{P:Oj}{w:Ot}{K:N7}{mg:Str->Option N5}{base:Ou}
theorem pX:FnScope ["corners","bounds","numbers"] ["corners"] (ax nA):=⟨rfl,rfl,rfl,by decide +kernel,rfl,by decide +kernel,by decide +kernel⟩
theorem vT(F:Fun K "octo_of" "octo_of" nA f fd)(TX:Txt mg)  :FnOk P w K mg base CX0 1 f fd ["corners"] (aG K 1 mQ):=by
 refine br F pX [true] rfl (fun cdv A outer s H E hr=>?_);have sc:=@pX;have nd1:(["corner"]:List Str).Nodup:=by decide +kernel
 have nd2:(["corner"]:List Str).Nodup:=by decide +kernel
 have nd3:(["corner"]:List Str).Nodup:=by decide +kernel
 have nd4:(["corner"]:List Str).Nodup:=by decide +kernel
 refine⟨_,(ai (aA (i:=1) sc.nd (by rfl) (e_ rfl) (by rfl) (aB (bM ag))) (ai (bG OD (by rfl) (bo (aC (ae (aB (bO sc ["corner"] [none] nd4 (by decide +kernel) (bo (af 0)) (fun _ _ _=>(av (i:=0) nd4 (by rfl) (e_ rfl) (by rfl) (hf:=(r_ rfl)))) (fun _ _ _=>bD) (fun _ _ _=>(aq hr (af 0) ge_int)))) (ae (aB (bO sc ["corner"] [none] nd3 (by decide +kernel) (bo (af 0)) (fun _ _ _=>(av (i:=0) nd3 (by rfl) (e_ rfl) (by rfl) (hf:=(r_ rfl)))) (fun _ _ _=>bD) (fun _ _ _=>(aq hr (af 0) ge_int)))) (ae (aB (bO sc ["corner"] [none] nd2 (by decide +kernel) (bo (af 0)) (fun _ _ _=>(av (i:=0) nd2 (by rfl) (e_ rfl) (by rfl) (hf:=(r_ rfl)))) (fun _ _ _=>bD) (fun _ _ _=>(ak aD (aq hr (af 0) ge_int) (aq hr (af 0) ge_int))))) (ae (aB (bO sc ["corner"] [none] nd1 (by decide +kernel) (bo (af 0)) (fun _ _ _=>(av (i:=0) nd1 (by rfl) (e_ rfl) (by rfl) (hf:=(r_ rfl)))) (fun _ _ _=>bD) (fun _ _ _=>(ak bA (aq hr (af 0) ge_int) (aq hr (af 0) ge_int))))) ag)))))) (av (i:=2) sc.nd (by rfl) (e_ rfl) (by rfl)) (ai (cI (dy 1 ON OO bK (ae (aB (au (jH rfl) (by rfl) TX.min (by decide +kernel) (ae (af 2) ag))) ag))) (aj (cI (dy 1 ON OO bK (ae (aB (au (jF rfl) (by rfl) TX.max (by decide +kernel) (ae (af 2) ag))) ag)))))) (aj (aE (aB (bR dM (by rfl) TX.tuple (by decide +kernel) (ae (af 1) ag))))))),fun ts kk hl hp=>?_⟩;clear hl;obtain⟨o,ps,rfl,hne,hz,q⟩:=hp;have hne':∀j,ps.map (gO j)≠[]:=fun j z=>hne (List.map_eq_nil_iff.mp z);walk_at "go";refine aW (by rw[a_];exact hz) (fun i acc ie=>∃z,acc=(ps.take i).map (fun p=>T.int (gO 0 p))/\ie=[z]) ⟨_,rfl,rfl⟩ ?_ ?_
 ·rintro i u _ _ ⟨z,rfl,rfl⟩ eu;obtain⟨p,ep,rfl⟩:=aZ eu;walk_at "go";exact⟨_,by rw[map_take ep];rfl,rfl⟩
 rintro _ _ ⟨z,rfl,rfl⟩;rw[a_,y_];walk_at "go";refine aW (by rw[a_];exact hz) (fun i acc ie=>∃z,acc=(ps.take i).map (fun p=>T.int (gO 1 p))/\ie=[z]) ⟨_,rfl,rfl⟩ ?_ ?_
 ·rintro i u _ _ ⟨z,rfl,rfl⟩ eu;obtain⟨p,ep,rfl⟩:=aZ eu;walk_at "go";exact⟨_,by rw[map_take ep];rfl,rfl⟩
 rintro _ _ ⟨z,rfl,rfl⟩;rw[a_,y_];walk_at "go";refine aW (by rw[a_];exact hz) (fun i acc ie=>∃z,acc=(ps.take i).map (fun p=>T.int (gO 2 p))/\ie=[z]) ⟨_,rfl,rfl⟩ ?_ ?_
 ·rintro i u _ _ ⟨z,rfl,rfl⟩ eu;obtain⟨p,ep,rfl⟩:=aZ eu;walk_at "go";exact⟨_,by rw[map_take ep];rfl,rfl⟩
 rintro _ _ ⟨z,rfl,rfl⟩;rw[a_,y_];walk_at "go";refine aW (by rw[a_];exact hz) (fun i acc ie=>∃z,acc=(ps.take i).map (fun p=>T.int (gO 3 p))/\ie=[z]) ⟨_,rfl,rfl⟩ ?_ ?_
 ·rintro i u _ _ ⟨z,rfl,rfl⟩ eu;obtain⟨p,ep,rfl⟩:=aZ eu;walk_at "go";exact⟨_,by rw[map_take ep];rfl,rfl⟩
 rintro _ _ ⟨z,rfl,rfl⟩;rw[a_,y_];walk_at "go";have eL:[T.lst false (JV (fun p=>T.int (gO 0 p)) ps),T.lst false (JV (fun p=>T.int (gO 1 p)) ps),T.lst false (JV (fun p=>T.int (gO 2 p)) ps),T.lst false (JV (fun p=>T.int (gO 3 p)) ps)]=(u_ 4).map fun j=>T.lst false (JV (fun p=>T.int (gO j p)) ps):=rfl;rw[eL];refine b8 (fun i env=>∃(f:Nat->Int×Int) (z:T),(∀j,j<i->iS (ps.map (gO j)) (f j).1/\iQ (ps.map (gO j)) (f j).2)/\env=[.lst o (ps.map ptP),.lst true ((u_ i).flatMap fun j=>[.int (f j).1,.int (f j).2]),z]) ⟨fun _=>(0,0),_,fun j hj=>by lia,rfl⟩ ?_ ?_
 ·rintro i t _ ⟨f,z,hf,rfl⟩ ei;obtain⟨j,ej,rfl⟩:=aZ ei;have hi:i<4:=by have:=(gV.mp ej).1;rwa[JH]at this
  rw[Mg hi]at ej;cases ej;have ll:∀n,((u_ n).flatMap fun j=>[T.int (f j).1,T.int (f j).2]).length=2*n:=fun n=>by
   induction n with
   |zero=>rfl
   |succ n ih=>rw[Lf,K_,g_,ih];rfl
  walk_at "go";refine⟨hne' i,fun m hm=>⟨by rw[ll];lia,hne' i,fun M hM=>⟨by rw[g_,ll];show 2*i+1<_;lia,fun j=>if j=i then(m,M)else f j,.lst false (ps.map fun p=>T.int (gO i p)),fun j hj=>?_,by rw[Ar]⟩⟩⟩;show iS _ (if j=i then(m,M)else f j).1/\iQ _ (if j=i then(m,M)else f j).2;by_cases e:j=i
  ·rw[if_pos e,e];exact⟨hm,hM⟩
  rw[if_neg e];exact hf j (by lia)
 rintro _ ⟨f,z,hf,rfl⟩;have e4:(u_ (JV (fun j=>T.lst false (JV (fun p=>T.int (gO j p)) ps)) (u_ 4)).length).flatMap (fun j=>[T.int (f j).1,T.int (f j).2])=[T.int (f 0).1,T.int (f 0).2,T.int (f 1).1,T.int (f 1).2,T.int (f 2).1,T.int (f 2).2,T.int (f 3).1,T.int (f 3).2]:=by rw[a_];rfl
 rw[e4];rw[a_]at hf;have f0:=hf 0 (by decide);have f1:=hf 1 (by decide);have f2:=hf 2 (by decide);have f3:=hf 3 (by decide);walk_at "go";exact q ⟨(f 0).1,(f 0).2,(f 1).1,(f 1).2,(f 2).1,(f 2).2,(f 3).1,(f 3).2⟩ ⟨⟨f0,f1⟩,f2,f3⟩
def u7:FP:=fun ts k=>∃o q,ts=[ocT o,ocT q]/\k (ocT (uX o q)) ts
theorem uW:FnScope ["one","other"] ["one","other"] (ax tE):=⟨rfl,rfl,rfl,by decide +kernel,rfl,by decide +kernel,by decide +kernel⟩
theorem Bu(F:Fun K "added" "added" tE f fd)(TX:Txt mg)  :FnOk P w K mg base CX0 1 f fd ["one","other"] (aG K 2 u7):=by
 refine br F uW [true,true] rfl (fun cdv A outer s H E hr=>?_);have sc:=@uW;have nd1:(["bound","more"]:List Str).Nodup:=by decide +kernel
 refine⟨_,(aj (aE (aB (bR dM (by rfl) TX.tuple (by decide +kernel) (ae (bO sc ["bound","more"] [none,none] nd1 (by decide +kernel) (AI (by rfl) TX.zip (ae (af 0) (ae (af 1) ag))) (fun _ _ _=>(eO (n:=2) (by rfl) (aH (av (i:=0) nd1 (by rfl) (e_ rfl) (by rfl) (hf:=(r_ rfl))) (aH (av (i:=1) nd1 (by rfl) (e_ rfl) (by rfl) (hf:=(r_ rfl))) cG)))) (fun _ _ _=>bD) (fun _ _ _=>(ak aD (af 0) (af 1)))) ag))))),fun ts kk hl hp=>?_⟩;clear hl;obtain⟨o,q',rfl,q⟩:=hp;have e1:∀o:Oc,ocT o=.tup ((ocL o).map T.int):=fun o=>rfl;rw[e1,e1];walk_at "go";have ez:(JV (fun p=>T.tup [p.1,p.2]) ((JV (fun x=>T.int x) (ocL o)).zip (JV (fun x=>T.int x) (ocL q'))))=((ocL o).zip (ocL q')).map fun p=>T.tup [.int p.1,.int p.2]:=by rw[List.zip_map,F_];rfl
 rw[ez];refine aW (by rw[a_];show 8<sizeLine;decide) (fun i acc ie=>∃z1 z2,acc=(((ocL o).zip (ocL q')).take i).map (fun p=>T.int (p.1+p.2))/\ie=[z1,z2]) ⟨_,_,rfl,rfl⟩ ?_ ?_
 ·rintro i u _ _ ⟨z1,z2,rfl,rfl⟩ eu;obtain⟨p,ep,rfl⟩:=aZ eu;walk_at "go";exact⟨_,_,by rw[map_take ep],rfl⟩
 rintro _ _ ⟨z1,z2,rfl,rfl⟩;rw[a_,y_];walk_at "go";exact q
def xH:FP:=fun ts k=>∃o p,ts=[ocT o,ptP p]/\k (ocT (uX o (oc1 p))) ts
theorem v9:FnScope ["octo","corner"] ["octo","corner"] (ax tW):=⟨rfl,rfl,rfl,by decide +kernel,rfl,by decide +kernel,by decide +kernel⟩
theorem Aj(F:Fun K "moved" "moved" tW f fd)(TX:Txt mg)  (G_octo_of:Cal P w K mg base 1 "octo_of" ["corners"] (aG K 1 mQ))(G_added:Cal P w K mg base 1 "added" ["one","other"] (aG K 2 u7)):FnOk P w K mg base CX0 2 f fd ["octo","corner"] (aG K 2 xH):=by refine br F v9 [true,true] rfl (fun cdv A outer s H E hr=>?_);have sc:=@v9;refine⟨_,(aj (aE (aB (ay G_added hr (by rfl) (ah (af 0) (ah (ay G_octo_of hr (by rfl) (ah (bM (ae (af 1) ag)) az)) az)))))),fun ts kk hl hp=>?_⟩;clear hl;obtain⟨o,p,rfl,q⟩:=hp;walk_at "go";refine⟨true,[p],rfl,(fun z=>nomatch z),by show 1<sizeLine;decide,fun oc h=>?_⟩;rw[IM h];walk_at "go";refine⟨o,oc1 p,rfl,?_⟩;walk_at "go";exact q
end
noncomputable def rF:FP:=fun ts k=>∃(b u:Bool) (t:Tl) (p:Pt),ts=[tvT b u t,ptP p]/\k (ocT (mkO t.1 t.2.1 p)) ts
section
variable{P:Oj}{w:Ot}{K:N7}{mg:Str->Option N5}{base:Ou}
theorem oF:FnScope ["tool","corner","r","both"] ["tool","corner"] (ax ni):=⟨rfl,rfl,rfl,by decide +kernel,rfl,by decide +kernel,by decide +kernel⟩
theorem wJ(F:Fun K "mark_of" "mark_of" ni f fd)(TX:Txt mg)  (G_moved:Cal P w K mg base 2 "moved" ["octo","corner"] (aG K 2 xH)):FnOk P w K mg base CX0 3 f fd ["tool","corner"] (aG K 2 rF):=by refine br F oF [true,true] rfl (fun cdv A outer s H E hr=>?_);have sc:=@oF;refine⟨_,(ai (aA (i:=2) sc.nd (by rfl) (e_ rfl) (by rfl) (aB (aq hr (af 0) ge_int))) (ai (aA (i:=3) sc.nd (by rfl) (e_ rfl) (by rfl) (aB (ak aD (aq hr (af 0) ge_int) (aq hr (af 0) ge_int)))) (aj (aE (aB (ay G_moved hr (by rfl) (ah (aC (ae (bJ (af 2)) (ae (af 2) (ae (bJ (af 2)) (ae (af 2) (ae (bJ (af 3)) (ae (af 3) (ae (bJ (af 3)) (ae (af 3) ag))))))))) (ah (af 1) az)))))))),fun ts kk hl hp=>?_⟩;clear hl;obtain⟨b,u,t,p,rfl,q⟩:=hp;walk_at "go";refine⟨⟨-t.1,t.1,-t.1,t.1,-(t.1+t.2.1),t.1+t.2.1,-(t.1+t.2.1),t.1+t.2.1⟩,p,rfl,?_⟩;walk_at "go";exact q
end
noncomputable def y6:FP:=fun ts k=>∃(b u:Bool) (t:Tl) (p q:Pt),ts=[tvT b u t,ptP p,ptP q]/\k (ocT (swO t.1 t.2.1 p q)) ts
section
variable{P:Oj}{w:Ot}{K:N7}{mg:Str->Option N5}{base:Ou}
theorem uv:FnScope ["tool","one","other"] ["tool","one","other"] (ax sJ):=⟨rfl,rfl,rfl,by decide +kernel,rfl,by decide +kernel,by decide +kernel⟩
theorem AU(F:Fun K "swept" "swept" sJ f fd)(TX:Txt mg)  (G_octo_of:Cal P w K mg base 1 "octo_of" ["corners"] (aG K 1 mQ))(G_added:Cal P w K mg base 1 "added" ["one","other"] (aG K 2 u7))(G_mark_of:Cal P w K mg base 3 "mark_of" ["tool","corner"] (aG K 2 rF)):FnOk P w K mg base CX0 4 f fd ["tool","one","other"] (aG K 3 y6):=by refine br F uv [true,true,true] rfl (fun cdv A outer s H E hr=>?_);have sc:=@uv;refine⟨_,(aj (aE (aB (ay G_added hr (by rfl) (ah (ay G_mark_of hr (by rfl) (ah (af 0) (ah (aC (ae ge_int (ae ge_int ag))) az))) (ah (ay G_octo_of hr (by rfl) (ah (bM (ae (af 1) (ae (af 2) ag))) az)) az)))))),fun ts kk hl hp=>?_⟩;clear hl;obtain⟨b,u,t,p,q',rfl,q⟩:=hp;walk_at "go";refine⟨b,false,t,(0,0),rfl,?_⟩;walk_at "go";refine⟨true,[p,q'],rfl,(fun z=>nomatch z),by show 2<sizeLine;decide,fun oc h=>?_⟩;rw[Iy h];walk_at "go";refine⟨mkO t.1 t.2.1 (0,0),oc2 p q',rfl,?_⟩;walk_at "go";exact q
def rL:FP:=fun ts k=>∃(w:Ed) (c:Pt),ts=[edT w,ptP c]/\k (.bl (gOn w c)) ts
theorem qd:FnScope ["way","corner","ahead","whole"] ["way","corner"] (ax nI):=⟨rfl,rfl,rfl,by decide +kernel,rfl,by decide +kernel,by decide +kernel⟩
theorem vX(F:Fun K "goes_on" "goes_on" nI f fd)(TX:Txt mg)  (G_straight:Cal P w K mg base 2 "straight" ["one","other"] (aG K 2 qD)):FnOk P w K mg base CX0 3 f fd ["way","corner"] (aG K 2 rL):=by
 refine br F qd [true,true] rfl (fun cdv A outer s H E hr=>?_);have sc:=@qd;refine⟨_,(ai (bz (cN (aX (bh hr) (af 1) (aq hr (af 0) ge_int) (aF _))) (aj (aE dF)) aQ) (ai (aA (i:=2) sc.nd (by rfl) (e_ rfl) (by rfl) (aB (ay G_straight hr (by rfl) (ah (aq hr (af 0) ge_int) (ah (aq hr (af 0) ge_int) az))))) (ai (aA (i:=3) sc.nd (by rfl) (e_ rfl) (by rfl) (aB (ay G_straight hr (by rfl) (ah (aq hr (af 0) ge_int) (ah (af 1) az))))) (ai (bz (cN (aX sM (af 3) nD (aF _))) (aj (aE dF)) aQ) (aj (aE (aB (ge_if (aX sM (af 2) nD (aF _)) (dR (bh hr) (aq hr (af 3) ge_int) ge_int (aF _)) (dR (bh hr) (af 3) (aC (ae (aq hr (af 2) ge_int) (ae (ak aD (aq hr (af 2) ge_int) ge_int) ag))) (aF _)))))))))),fun ts kk hl hp=>?_⟩;clear hl;obtain⟨w,c,rfl,q⟩:=hp;walk_at "go";refine aR (fun h=>?_) (fun h=>?_)
 ·walk_at "go";have:gOn w c=true:=by unfold gOn;rw[if_pos h]
  rw[this]at q;exact q
 have g:=Bp h;walk_at "go";refine⟨_,_,rfl,?_⟩;walk_at "go";refine⟨by unfold y8;cases lead w.1 w.2 <;> rfl,_,_,rfl,?_⟩;walk_at "go";unfold y8;cases e1:lead w.1 c with
 |none=>
  rw[e1]at g;walk_at "go";rw[g]at q;exact q
 |some d=>
  rw[e1]at g;cases e2:lead w.1 w.2 with
  |none=>
   rw[e2]at g;walk_at "go";rw[g]at q;exact q
  |some d'=>
   rw[e2]at g;walk_at "go";rw[g]at q;have e:decide ((d:Int)=(d':Int)/\far w.1 c=far w.1 w.2+1)=decide (d=d'/\far w.1 c=far w.1 w.2+1):=decide_eq_decide.mpr (and_congr_left fun _=>by lia);rw[e];exact q
end
noncomputable def rh:FP:=fun ts k=>∃(c u:Bool) (l:Int) (ps:List (Pt×Int)),ts=[sqB c u (ps.map plT),.int l]/\ps.length<=400/\∀z,k (.lst true ((wys l ps ([],false)).1.reverse.map edT)) [z,.int l]
section
variable{P:Oj}{w:Ot}{K:N7}{mg:Str->Option N5}{base:Ou}
theorem pF:FnScope ["places","layer","ways","is_in","x","y","z"] ["places","layer"] (ax mT):=⟨rfl,rfl,rfl,by decide +kernel,rfl,by decide +kernel,by decide +kernel⟩
theorem w9(F:Fun K "ways_at" "ways_at" mT f fd)(TX:Txt mg)  (G_goes_on:Cal P w K mg base 3 "goes_on" ["way","corner"] (aG K 2 rL)):FnOk P w K mg base CX0 4 f fd ["places","layer"] (aG K 2 rh):=by
 refine br F pF [true,true] rfl (fun cdv A outer s H E hr=>?_);have sc:=@pF;refine⟨_,(ai (aA (i:=2) sc.nd (by rfl) (e_ rfl) (by rfl) (aB (bM ag))) (ai (aA (i:=3) sc.nd (by rfl) (e_ rfl) (by rfl) dF) (ai (bG OD (by rfl) (bo (bq 0)) (eO (n:=3) (by rfl) (aH (av (i:=4) sc.nd (by rfl) (e_ rfl) (by rfl)) (aH (av (i:=5) sc.nd (by rfl) (e_ rfl) (by rfl)) (aH (av (i:=6) sc.nd (by rfl) (e_ rfl) (by rfl)) cG)))) (aj (bz (cN (aX vZ (af 6) (af 1) (aF _))) (aj (aA (i:=3) sc.nd (by rfl) (e_ rfl) (by rfl) dF)) (aj (bz (cN (wo (xh (cw (af 3)) (uj (cw (ay G_goes_on hr (by rfl) (ah (aq hr (af 2) (bJ ge_int)) (ah (aC (ae (af 4) (ae (af 5) ag))) az)))))))) (aj (ja (aB (aC (ae (aq hr (aq hr (af 2) (bJ ge_int)) ge_int) (ae (aC (ae (af 4) (ae (af 5) ag))) ag)))) (ny (i:=2) hr (aB (bJ ge_int))))) (ai (cI (dy 2 ON OO bK (ae (aB (aC (ae (aC (ae (af 4) (ae (af 5) ag))) (ae (aC (ae (af 4) (ae (af 5) ag))) ag)))) ag))) (aj (aA (i:=3) sc.nd (by rfl) (e_ rfl) (by rfl) dF)))))))) (aj (aE (p8 2)))))),fun ts kk hl hp=>?_⟩;clear hl;obtain⟨c,u,l,ps,rfl,hl,q⟩:=hp;have app:∀(xs:List (Pt×Int)) (x:Pt×Int) (s:List (Pt×Pt)×Bool),wys l (xs++[x]) s=wy1 l x (wys l xs s):=fun xs x=>by
  induction xs with
  |nil=>intro s;rfl
  |cons y xs ih=>intro s;exact ih _
 walk_at "go";refine b8 (fun i env=>∃(W:List (Pt×Pt)) (b:Bool) (z4 z5 z6:T),wys l (ps.take i) ([],false)=(W,b)/\W.length<=i/\(b=true->W≠[])/\env=[sqB c false (ps.map plT),.int l,.lst true (W.reverse.map edT),.bl b,z4,z5,z6]) ⟨[],false,_,_,_,rfl,b_ _,(fun z=>by cases z),rfl⟩ ?_ ?_
 ·rintro i t _ ⟨W,b,z4,z5,z6,hw,hW,hb,rfl⟩ ei;obtain⟨⟨⟨x,y⟩,z⟩,ep,rfl⟩:=aZ ei;rw[plT];have hi:i<ps.length:=(gV.mp ep).1;have hs:wys l (ps.take (i+1)) ([],false)=wy1 l ((x,y),z) (W,b):=by rw[JR,ep];exact(app _ _ _).trans (by rw[hw])
  unfold wy1 at hs;dsimp only at hs;walk_at "go";refine aR (fun h=>?_) (fun h=>?_)
  ·walk_at "go";rw[if_pos h]at hs;exact⟨W,false,_,_,_,hs,by lia,(fun z=>by cases z),rfl⟩
  rw[if_neg h]at hs;walk_at "go";cases b with
  |false=>
   refine Dj rfl ?_;walk_at "go";have e:wys l (ps.take (i+1)) ([],false)=(((x,y),(x,y))::W,true):=by rw[hs];cases W <;> rfl
   exact⟨by rw[Jz];lia,_::W,true,_,_,_,e,by rw[d_];lia,(fun _ z=>by cases z),by rw[Lo,v_];rfl⟩
  |true=>
   cases W with
   |nil=>exact absurd rfl (hb rfl)
   |cons w W'=>
   refine mI rfl ?_;walk_at "go";refine aY vm ?_;walk_at "go";refine⟨w,(x,y),rfl,?_⟩;walk_at "go";cases eg:gOn w (x,y)with
   |true=>
    walk_at "go";refine aY vm ?_;walk_at "go";have e:wys l (ps.take (i+1)) ([],false)=((w.1,(x,y))::W',true):=by rw[hs];dsimp only;rw[eg];rfl
    have ei:ixN (w::W').reverse.length (-1)=some W'.reverse.length:=by unfold ixN;rw[if_neg (by decide),if_pos (by rw[Jz,d_];lia)];congr 1;rw[Jz,Jz,d_];lia
    refine aY ei ?_;walk_at "go";have es:((w::W').reverse.map edT).set W'.reverse.length (.tup [ptP w.1,.tup [.int x,.int y]])=((w.1,(x,y))::W').reverse.map edT:=by
     rw[Lo,Lo,v_,v_,MZ _ _ (by rw[a_];lia),a_,L_]
     rfl
    exact⟨_,true,_,_,_,e,LY hW,(fun _ z=>by cases z),by rw[<-es]⟩
   |false=>
    walk_at "go";have e:wys l (ps.take (i+1)) ([],false)=(((x,y),(x,y))::w::W',true):=by rw[hs];dsimp only;rw[eg];rfl
    exact⟨by rw[Jz];lia,_::w::W',true,_,_,_,e,by rw[d_];lia,(fun _ z=>by cases z),by rw[Lo (a:=((x,y),(x,y))),v_];rfl⟩
 rintro _ ⟨W,b,z4,z5,z6,hw,hW,hb,rfl⟩;rw[a_,y_]at hw;rw[hw]at q;walk_at "go";exact q _
end
noncomputable def iY:FP:=fun ts k=>∃(o o2 b u u2:Bool) (P:List Od) (tl:List Tl) (l C:Int) (N:Nat),ts=[.lst o (P.map (odT b u)),.lst o2 (tl.map (tvT b u2)),.int l]/\OkP tl.length C N P/\N<=400/\∀z0 z1,k (.lst true ((dO l tl P).map ocT)) [z0,z1,.int l]
section
variable{P:Oj}{w:Ot}{K:N7}{mg:Str->Option N5}{base:Ou}
theorem mf:FnScope ["program","tools","layer","octos","tool","order","one","other"] ["program","tools","layer"] (ax j8):=⟨rfl,rfl,rfl,by decide +kernel,rfl,by decide +kernel,by decide +kernel⟩
theorem t7(F:Fun K "cut_octos" "cut_octos" j8 f fd)(TX:Txt mg)  (G_swept:Cal P w K mg base 4 "swept" ["tool","one","other"] (aG K 3 y6))(G_ways_at:Cal P w K mg base 4 "ways_at" ["places","layer"] (aG K 2 rh)):FnOk P w K mg base CX0 5 f fd ["program","tools","layer"] (aG K 3 iY):=by
 refine br F mf [true,true,true] rfl (fun cdv A outer s H E hr=>?_);have sc:=@mf;refine⟨_,(ai (aA (i:=3) sc.nd (by rfl) (e_ rfl) (by rfl) (aB qv)) (ai (aA (i:=4) sc.nd (by rfl) (e_ rfl) (by rfl) nD) (ai (bG OD (by rfl) (bo (bq 0)) (av (i:=5) sc.nd (by rfl) (e_ rfl) (by rfl)) (aj (bz (cN (aX (bh hr) (aq hr (af 5) ge_int) ge_str (aF _))) (aj (aA (i:=4) sc.nd (by rfl) (e_ rfl) (by rfl) (aq hr (bq 1) (aB (aq hr (af 5) ge_int))))) (aj (bz (cN (aX (bh hr) (aq hr (af 5) ge_int) ge_str (aF _))) (aj (bG OD (by rfl) (bo (aB (ay G_ways_at hr (by rfl) (ah (aq hr (af 5) ge_int) (ah (af 2) az))))) (eO (n:=2) (by rfl) (aH (av (i:=6) sc.nd (by rfl) (e_ rfl) (by rfl)) (aH (av (i:=7) sc.nd (by rfl) (e_ rfl) (by rfl)) cG))) (aj (ja dF (ny (i:=3) hr (aB (ay G_swept hr (by rfl) (ah (af 4) (ah (af 6) (ah (af 7) az)))))))))) aQ))))) (aj (aE (aB (bR (uE rfl) (by rfl) TX.list (by decide +kernel) (ae (af 3) ag)))))))),fun ts kk hl hp=>?_⟩;clear hl;obtain⟨o,o2,b,u,u2,P,tl,l,C,N,rfl,hP,hN,q⟩:=hp;walk_at "go";refine⟨rfl,b8 (fun i env=>∃(o2 u2:Bool) (tool z5 z6 z7:T),(0<i->tool=tvT b false (tl.getD (tlA (P.take i) 0) (0,0,0,0,0)))/\env=[.lst false (P.map (odT b false)),.lst o2 (tl.map (tvT b u2)),.int l,.dT true (dG ocL (dO l tl (P.take i))),tool,z5,z6,z7]) ⟨o2,u2,_,_,_,_,(fun z=>absurd z (Kg _)),rfl⟩ ?_ ?_⟩
 ·rintro i t _ ⟨o2,u2,tool,z5,z6,z7,ht,rfl⟩ ei;obtain⟨od,eo,rfl⟩:=aZ ei;obtain⟨et,e0⟩:=yl hP eo;have hm:=hP.2.2.2 od (F' eo);have hw:=lY (l:=l) (Q:=[od]) (P:=P.take i) (t:=0);rw[<-et]at hw;cases od with
  |tk j=>
   have hj:j<tl.length:=hm;rw[tQ];walk_at "go";refine aY (Hb hj) ?_;walk_at "go";have e:dO l tl (P.take (i+1))=dO l tl (P.take i):=by unfold dO;rw[hw.1,show wls l [Od.tk j] (tlA (P.take i) 0)=[]from rfl,D_]
   exact⟨false,false,tvT b false (tl.getD j (0,0,0,0,0)),_,_,_,fun _=>by rw[hw.2.2];rfl,by rw[e]⟩
  |ov h x y=>
   have h0:0<i:=JU fun z=>by obtain⟨j,hj⟩:=e0 z;cases hj
   rw[tN];walk_at "go";have e:dO l tl (P.take (i+1))=dO l tl (P.take i):=by unfold dO;rw[hw.1,show wls l [Od.ov h x y] (tlA (P.take i) 0)=[]from rfl,D_]
   exact⟨o2,u2,tool,_,_,_,fun _=>by rw[hw.2.2];exact ht h0,by rw[e]⟩
  |ct ps=>
   have h0:0<i:=JU fun z=>by obtain⟨j,hj⟩:=e0 z;cases hj
   have ht:=ht h0;subst ht;have hl:=sQ (F' eo);rw[uh];walk_at "go";refine⟨b,false,l,ps,rfl,by have:=hP.2.2.1;lia,fun z'=>?_⟩;walk_at "go";have eo2:dO l tl (P.take (i+1))=bF ocL (dO l tl (P.take i)) (((wys l ps ([],false)).1.reverse.map fun w=>(tlA (P.take i) 0,w)).map fun v=>swT (tR tl v.1) v.2):=by unfold dO;rw[hw.1,v_,dC,show wls l [Od.ct ps] (tlA (P.take i) 0)=((wys l ps ([],false)).1.reverse.map fun w=>(tlA (P.take i) 0,w))from D_ _]
   have lo:(dO l tl (P.take i)).length<=400:=by have h1:=qb (l:=l) (tl:=tl) (P:=P.take i);have h2:=vh (P:=P) (i:=i);have h3:=hP.2.2.1;lia
   have lw:(wys l ps ([],false)).1.reverse.length<=400:=by have h1:=(tY (l:=l) (ps:=ps) (W:=[]) (b:=false) fun w m=>by cases m).2.2;have h3:=hP.2.2.1;rw[JY]at h1;rw[Jz];lia
   have ht2:tlA (P.take (i+1)) 0=tlA (P.take i) 0:=hw.2.2;clear hw;generalize (wys l ps ([],false)).1.reverse=W at *;generalize dO l tl (P.take i)=os at *;generalize tlA (P.take i) 0=tn at *;rw[F_]at eo2;refine b8 (fun j env=>∃z5 z6 z7,env=[.lst false (P.map (odT b false)),.lst o2 (tl.map (tvT b u2)),.int l,.dT true (dG ocL (bF ocL os ((W.map (swT (tR tl tn))).take j))),tvT b false (tl.getD tn (0,0,0,0,0)),z5,z6,z7]) ⟨_,_,_,rfl⟩ ?_ ?_
   ·rintro j t _ ⟨z5,z6,z7,rfl⟩ ej;obtain⟨w,ew,rfl⟩:=aZ ej;have hj:=(gV.mp ew).1;rw[edT];walk_at "go";refine⟨b,false,_,w.1,w.2,rfl,?_⟩;walk_at "go";have la:=dE (ρ:=ocL) (l:=os) (r:=(W.map (swT (tR tl tn))).take j);rw[G_]at la;rw[mP (a:=swT (tR tl tn) w) (by rw[z_,ew];rfl),sw_eq];exact⟨by rw[pz];lia,_,_,_,by rw[<-pL];rfl⟩
   rintro _ ⟨z5,z6,z7,rfl⟩;rw[a_];have e3:bF ocL os ((W.map (swT (tR tl tn))).take W.length)=dO l tl (P.take (i+1)):=by
    rw[eo2,show W.length=(W.map (swT (tR tl tn))).length from(a_ ..).symm,y_]
    rfl
   exact⟨o2,u2,_,_,_,_,fun _=>by rw[ht2],by rw[e3]⟩
 rintro _ ⟨o2,u2,tool,z5,z6,z7,ht,rfl⟩;rw[a_,y_];walk_at "go";rw[Bo];refine⟨(dO l tl P).map ocL,?_,?_,fun _=>⟨?_,?_⟩⟩
 ·unfold dG;rw[F_,F_];rfl
 ·intro r m;obtain⟨o',_,rfl⟩:=t_.mp m;exact K8 _ _
 ·rw[F_];exact zi
 rw[F_];exact q _ _
def nS:FP:=fun ts k=>∃i:Int,ts=[.int i]/\k (.bl true) ts
theorem mM:FnScope ["thing"] ["thing"] (ax jt):=⟨rfl,rfl,rfl,by decide +kernel,rfl,by decide +kernel,by decide +kernel⟩
theorem sj(F:Fun K "is_number" "is_number" jt f fd)(TX:Txt mg)  :FnOk P w K mg base CX0 1 f fd ["thing"] (aG K 1 nS):=by refine br F mM [true] rfl (fun cdv A outer s H E hr=>?_);have sc:=@mM;refine⟨_,(aj (aE (aB (dQ (au aN (by rfl) TX.isinstance (by decide +kernel) (ae (af 0) (ae (dN (n:="int") (by rfl) TX.int (by decide +kernel)) ag))) (kE (A7 (au aN (by rfl) TX.isinstance (by decide +kernel) (ae (af 0) (ae (dN (n:="bool") (by rfl) TX.bool (by decide +kernel)) ag))))))))),fun ts kk hl hp=>?_⟩;clear hl;obtain⟨i,rfl,q⟩:=hp;walk_at "go";exact q
def vy:FP:=fun ts k=>∃o:Oc,ts=[ocT o]/\k (.bl true) ts
theorem qV:FnScope ["thing"] ["thing"] (ax pT):=⟨rfl,rfl,rfl,by decide +kernel,rfl,by decide +kernel,by decide +kernel⟩
theorem zB(F:Fun K "is_row" "is_row" pT f fd)(TX:Txt mg)  :FnOk P w K mg base CX0 1 f fd ["thing"] (aG K 1 vy):=by refine br F qV [true] rfl (fun cdv A outer s H E hr=>?_);have sc:=@qV;refine⟨_,(aj (aE (aB (au aN (by rfl) TX.isinstance (by decide +kernel) (ae (af 0) (ae (aC (ae (dN (n:="list") (by rfl) TX.list (by decide +kernel)) (ae (dN (n:="tuple") (by rfl) TX.tuple (by decide +kernel)) ag))) ag)))))),fun ts kk hl hp=>?_⟩;clear hl;obtain⟨o,rfl,q⟩:=hp;walk_at "go";exact q
def jM:FP:=fun ts k=>∃o:Oc,ts=[ocT o,.int 8]/\k (.bl true) ts
theorem iX:FnScope ["thing","many"] ["thing","many"] (ax fJ):=⟨rfl,rfl,rfl,by decide +kernel,rfl,by decide +kernel,by decide +kernel⟩
theorem oP(F:Fun K "are_numbers" "are_numbers" fJ f fd)(TX:Txt mg)  (G_is_number:Cal P w K mg base 1 "is_number" ["thing"] (aG K 1 nS))(G_is_row:Cal P w K mg base 1 "is_row" ["thing"] (aG K 1 vy)):FnOk P w K mg base CX0 2 f fd ["thing","many"] (aG K 2 jM):=by
 refine br F iX [true,true] rfl (fun cdv A outer s H E hr=>?_);have sc:=@iX;have nd1:(["part"]:List Str).Nodup:=by decide +kernel
 refine⟨_,(aj (aE (aB (dQ (ay G_is_row hr (by rfl) (ah (af 0) az)) (dQ (dR (bh hr) (au bS (by rfl) TX.len (by decide +kernel) (ae (af 0) ag)) (af 1) (aF _)) (kE (au (fU rfl) (by rfl) TX.all (by decide +kernel) (ae (bO sc ["part"] [none] nd1 (by decide +kernel) (bo (af 0)) (fun _ _ _=>(av (i:=0) nd1 (by rfl) (e_ rfl) (by rfl) (hf:=(r_ rfl)))) (fun _ _ _=>bD) (fun _ _ _=>(ay G_is_number hr (by rfl) (ah (af 0) az)))) ag)))))))),fun ts kk hl hp=>?_⟩;clear hl;obtain⟨o,rfl,q⟩:=hp;walk_at "go";refine⟨o,rfl,?_⟩;walk_at "go";refine aW (by rw[a_,sizeLine_eq];show 8<_;lia) (fun i acc ie=>∃z,acc=((ocL o).take i).map (fun _=>T.bl true)/\ie=[z]) ⟨_,rfl,rfl⟩ ?_ ?_
 ·rintro i t _ _ ⟨z,rfl,rfl⟩ ei;obtain⟨x,ex,rfl⟩:=aZ ei;walk_at "go";refine⟨x,rfl,?_⟩;walk_at "go";exact⟨_,by rw[map_take ex],rfl⟩
 rintro _ _ ⟨z,rfl,rfl⟩;walk_at "go";refine aY rfl ?_;walk_at "go";exact q
end
noncomputable def ph:FP:=fun ts k=>∃w e s n a b c d:Int,ts=[.int w,.int e,.int s,.int n,.int a,.int b,.int c,.int d]/\w<=e/\dP w s n a b c d/\dP e s n a b c d/\k (.bl true) ts
section
variable{P:Oj}{w:Ot}{K:N7}{mg:Str->Option N5}{base:Ou}
theorem nV:FnScope ["w","e","s","n","a","b","c","d","x"] ["w","e","s","n","a","b","c","d"] (ax kP):=⟨rfl,rfl,rfl,by decide +kernel,rfl,by decide +kernel,by decide +kernel⟩
theorem uP(F:Fun K "ends_met" "ends_met" kP f fd)(TX:Txt mg)  :FnOk P w K mg base CX0 1 f fd ["w","e","s","n","a","b","c","d"] (aG K 8 ph):=by
 refine br F nV [true,true,true,true,true,true,true,true] rfl (fun cdv A outer s H E hr=>?_);have sc:=@nV;refine⟨_,(ai (bG OD (by rfl) (bo (aC (ae (bq 0) (ae (bq 1) ag)))) (av (i:=8) sc.nd (by rfl) (e_ rfl) (by rfl)) (aj (bz (cN (aX sF (au (jF rfl) (by rfl) TX.max (by decide +kernel) (ae (af 2) (ae (ak bA (af 4) (af 8)) (ae (ak bA (af 8) (af 7)) ag)))) (au (jH rfl) (by rfl) TX.min (by decide +kernel) (ae (af 3) (ae (ak bA (af 5) (af 8)) (ae (ak bA (af 8) (af 6)) ag)))) (aF _))) (aj (aE dF)) aQ))) (aj (aE (aB (dR vZ (af 0) (af 1) (aF _)))))),fun ts kk hl hp=>?_⟩;clear hl;obtain⟨w,e,s,n,a,b,c,d,rfl,h1,h2,h3,q⟩:=hp;walk_at "go";refine b8 (fun i env=>∃z,env=[.int w,.int e,.int s,.int n,.int a,.int b,.int c,.int d,z]) ⟨_,rfl⟩ ?_ ?_
 ·rintro i t _ ⟨z,rfl⟩ ei;have ht:∃x,t=.int x/\dP x s n a b c d:=by
   match i,ei with
   |0,ei=>cases ei;exact⟨w,rfl,h2⟩
   |1,ei=>cases ei;exact⟨e,rfl,h3⟩
  obtain⟨x,rfl,hx⟩:=ht;walk_at "go";refine aR (fun g=>absurd g (CD hx)) fun g=>?_;walk_at "go";exact⟨_,rfl⟩
 rintro _ ⟨z,rfl⟩;walk_at "go";rw[decide_eq_true h1];exact q
end
noncomputable def qT:FP:=fun ts k=>∃w e s n a b c d:Int,ts=[.int w,.int e,.int s,.int n,.int a,.int b,.int c,.int d]/\w<=e/\s<=n/\a<=b/\c<=d/\(dP w s n a b c d/\dP e s n a b c d)/\(dP s w e a b (-d) (-c)/\dP n w e a b (-d) (-c))/\(dP a c d (2*w) (2*e) (2*s) (2*n)/\dP b c d (2*w) (2*e) (2*s) (2*n))/\(dP c a b (2*w) (2*e) (-2*n) (-2*s)/\dP d a b (2*w) (2*e) (-2*n) (-2*s))/\k (.bl true) ts
section
variable{P:Oj}{w:Ot}{K:N7}{mg:Str->Option N5}{base:Ou}
theorem qy:FnScope ["w","e","s","n","a","b","c","d"] ["w","e","s","n","a","b","c","d"] (ax n9):=⟨rfl,rfl,rfl,by decide +kernel,rfl,by decide +kernel,by decide +kernel⟩
theorem xb(F:Fun K "all_met" "all_met" n9 f fd)(TX:Txt mg)  (G_ends_met:Cal P w K mg base 1 "ends_met" ["w","e","s","n","a","b","c","d"] (aG K 8 ph)):FnOk P w K mg base CX0 2 f fd ["w","e","s","n","a","b","c","d"] (aG K 8 qT):=by refine br F qy [true,true,true,true,true,true,true,true] rfl (fun cdv A outer s H E hr=>?_);have sc:=@qy;refine⟨_,(aj (aE (aB (dQ (ay G_ends_met hr (by rfl) (ah (af 0) (ah (af 1) (ah (af 2) (ah (af 3) (ah (af 4) (ah (af 5) (ah (af 6) (ah (af 7) az))))))))) (dQ (ay G_ends_met hr (by rfl) (ah (af 2) (ah (af 3) (ah (af 0) (ah (af 1) (ah (af 4) (ah (af 5) (ah (bJ (af 7)) (ah (bJ (af 6)) az))))))))) (dQ (ay G_ends_met hr (by rfl) (ah (af 4) (ah (af 5) (ah (af 6) (ah (af 7) (ah (ak aK ge_int (af 0)) (ah (ak aK ge_int (af 1)) (ah (ak aK ge_int (af 2)) (ah (ak aK ge_int (af 3)) az))))))))) (kE (ay G_ends_met hr (by rfl) (ah (af 6) (ah (af 7) (ah (af 4) (ah (af 5) (ah (ak aK ge_int (af 0)) (ah (ak aK ge_int (af 1)) (ah (ak aK (bJ ge_int) (af 3)) (ah (ak aK (bJ ge_int) (af 2)) az)))))))))))))))),fun ts kk hl hp=>?_⟩;clear hl;obtain⟨w,e,s,n,a,b,c,d,rfl,h1,h2,h3,h4,m1,m2,m3,m4,q⟩:=hp;walk_at "go";refine⟨_,_,_,_,_,_,_,_,rfl,h1,m1.1,m1.2,?_⟩;walk_at "go";refine⟨_,_,_,_,_,_,_,_,rfl,h2,m2.1,m2.2,?_⟩;walk_at "go";refine⟨.inl ⟨by decide,by decide⟩,.inl ⟨by decide,by decide⟩,.inl ⟨by decide,by decide⟩,.inl ⟨by decide,by decide⟩,_,_,_,_,_,_,_,_,rfl,h3,m3.1,m3.2,?_⟩;walk_at "go";refine⟨.inl ⟨by decide,by decide⟩,.inl ⟨by decide,by decide⟩,.inl ⟨by decide,by decide⟩,.inl ⟨by decide,by decide⟩,_,_,_,_,_,_,_,_,rfl,h4,m4.1,m4.2,?_⟩;walk_at "go";exact q
end
noncomputable def rR:FP:=fun ts k=>∃(r R:Int) (p q:Pt),ts=[ocT (swT (r,R) (p,q))]/\1<=r/\r<R/\R<2*r/\k (.bl true) ts
section
variable{P:Oj}{w:Ot}{K:N7}{mg:Str->Option N5}{base:Ou}
theorem ql:FnScope ["thing"] ["thing"] (ax nK):=⟨rfl,rfl,rfl,by decide +kernel,rfl,by decide +kernel,by decide +kernel⟩
theorem wq(F:Fun K "is_octo" "is_octo" nK f fd)(TX:Txt mg)  (G_are_numbers:Cal P w K mg base 2 "are_numbers" ["thing","many"] (aG K 2 jM))(G_all_met:Cal P w K mg base 2 "all_met" ["w","e","s","n","a","b","c","d"] (aG K 8 qT)):FnOk P w K mg base CX0 3 f fd ["thing"] (aG K 1 rR):=by refine br F ql [true] rfl (fun cdv A outer s H E hr=>?_);have sc:=@ql;refine⟨_,(ai (bz (cN (oH (cw (ay G_are_numbers hr (by rfl) (ah (af 0) (ah ge_int az)))))) (aj (aE dF)) aQ) (aj (aE (aB (ay G_all_met hr (by rfl) (ah (aq hr (af 0) ge_int) (ah (aq hr (af 0) ge_int) (ah (aq hr (af 0) ge_int) (ah (aq hr (af 0) ge_int) (ah (aq hr (af 0) ge_int) (ah (aq hr (af 0) ge_int) (ah (aq hr (af 0) ge_int) (ah (aq hr (af 0) ge_int) az))))))))))))),fun ts kk hl hp=>?_⟩;clear hl;obtain⟨r,R,p,q',rfl,h0,h1,h2,q⟩:=hp;obtain⟨m1,m2,m3,m4⟩:=Fc p q' h0 h1 h2 _ rfl;have v:Vo (swT (r,R) (p,q')):=Ej (w:=(p,q')) h0 h1 h2;generalize swT (r,R) (p,q')=o at *;walk_at "go";refine⟨o,rfl,?_⟩;walk_at "go";refine⟨_,_,_,_,_,_,_,_,rfl,v.1.1,v.1.2,v.2.1.1,v.2.1.2,m1,m2,m3,m4,?_⟩;walk_at "go";exact q
def jN:FP:=fun ts k=>∃q:Qt,ts=[qtT q]/\q.2.2<4/\k (ptP (qN q)) ts
theorem je:FnScope ["quarter","inner"] ["quarter"] (ax fG):=⟨rfl,rfl,rfl,by decide +kernel,rfl,by decide +kernel,by decide +kernel⟩
theorem pQ(F:Fun K "inner_point" "inner_point" fG f fd)(TX:Txt mg)(C_INNER:Glb K mg "INNER" yy) :FnOk P w K mg base CX0 1 f fd ["quarter"] (aG K 1 jN):=by refine br F je [true] rfl (fun cdv A outer s H E hr=>?_);have sc:=@je;refine⟨_,(ai (aA (i:=1) sc.nd (by rfl) (e_ rfl) (by rfl) (aB (aq hr (FN C_INNER (by rfl)) (aq hr (af 0) ge_int)))) (aj (aE (aB (aC (ae (ak aD (ak aK ge_int (aq hr (af 0) ge_int)) (aq hr (af 1) ge_int)) (ae (ak aD (ak aK ge_int (aq hr (af 0) ge_int)) (aq hr (af 1) ge_int)) ag))))))),fun ts kk hl hp=>?_⟩;clear hl;obtain⟨p,rfl,hs,q⟩:=hp;walk_at "go";refine aY (G7 hs) ?_;walk_at "go";exact⟨c4 _,c4 _,q⟩
def rM:FP:=fun ts k=>∃o,ts=[ocT o]/\k (.bl (rj o)) ts
theorem oG:FnScope ["octo"] ["octo"] (ax mS):=⟨rfl,rfl,rfl,by decide +kernel,rfl,by decide +kernel,by decide +kernel⟩
theorem wb(F:Fun K "is_flat" "is_flat" mS f fd)(TX:Txt mg)  :FnOk P w K mg base CX0 1 f fd ["octo"] (aG K 1 rM):=by
 refine br F oG [true] rfl (fun cdv A outer s H E hr=>?_);have sc:=@oG;refine⟨_,(aj (aE (aB (Bg (dR (bh hr) (aq hr (af 0) ge_int) (aq hr (af 0) ge_int) (aF _)) (Bg (dR (bh hr) (aq hr (af 0) ge_int) (aq hr (af 0) ge_int) (aF _)) (Bg (dR (bh hr) (aq hr (af 0) ge_int) (aq hr (af 0) ge_int) (aF _)) (kE (dR (bh hr) (aq hr (af 0) ge_int) (aq hr (af 0) ge_int) (aF _))))))))),fun ts kk hl hp=>?_⟩;clear hl;obtain⟨o,rfl,q⟩:=hp;walk_at "go";unfold rj at q;refine aR (fun h1=>?_) (fun h1=>?_)
 ·rw[decide_eq_true h1]at q;walk_at "go";exact q
 rw[decide_eq_false h1,Mo]at q;walk_at "go";refine aR (fun h2=>?_) (fun h2=>?_)
 ·rw[decide_eq_true h2]at q;walk_at "go";exact q
 rw[decide_eq_false h2,Mo]at q;walk_at "go";refine aR (fun h3=>?_) (fun h3=>?_)
 ·rw[decide_eq_true h3]at q;walk_at "go";exact q
 rw[decide_eq_false h3,Mo]at q;walk_at "go";exact q
def xG:FP:=fun ts k=>∃(o:Oc) (p:Qt),ts=[ocT o,qtT p]/\p.2.2<4/\k (.bl (inO o p)) ts
theorem vI:FnScope ["octo","quarter","point","x","y"] ["octo","quarter"] (ax sg):=⟨rfl,rfl,rfl,by decide +kernel,rfl,by decide +kernel,by decide +kernel⟩
theorem BI(F:Fun K "holds" "holds" sg f fd)(TX:Txt mg)  (G_inner_point:Cal P w K mg base 1 "inner_point" ["quarter"] (aG K 1 jN)):FnOk P w K mg base CX0 2 f fd ["octo","quarter"] (aG K 2 xG):=by
 refine br F vI [true,true] rfl (fun cdv A outer s H E hr=>?_);have sc:=@vI;refine⟨_,(ai (aA (i:=2) sc.nd (by rfl) (e_ rfl) (by rfl) (aB (ay G_inner_point hr (by rfl) (ah (af 1) az)))) (ai (aA (i:=3) sc.nd (by rfl) (e_ rfl) (by rfl) (aB (aq hr (af 2) ge_int))) (ai (aA (i:=4) sc.nd (by rfl) (e_ rfl) (by rfl) (aB (aq hr (af 2) ge_int))) (aj (aE (aB (dQ (mK hE hE (ak aK ge_int (aq hr (af 0) ge_int)) (af 3) (ak aK ge_int (aq hr (af 0) ge_int))) (dQ (mK hE hE (ak aK ge_int (aq hr (af 0) ge_int)) (af 4) (ak aK ge_int (aq hr (af 0) ge_int))) (dQ (mK hE hE (ak aK ge_int (aq hr (af 0) ge_int)) (ak aD (af 3) (af 4)) (ak aK ge_int (aq hr (af 0) ge_int))) (kE (mK hE hE (ak aK ge_int (aq hr (af 0) ge_int)) (ak bA (af 3) (af 4)) (ak aK ge_int (aq hr (af 0) ge_int))))))))))))),fun ts kk hl hp=>?_⟩;clear hl;obtain⟨o,p,rfl,hs,q⟩:=hp;walk_at "go";refine⟨p,rfl,hs,?_⟩;walk_at "go";unfold inO at q;have no:¬inP o (qN p).1 (qN p).2->kk (.bl false) [ocT o,qtT p]:=fun h=>by rw[decide_eq_false h]at q;exact q
 refine⟨c4 _,aR (fun h0=>?_) (fun h0=>?_)⟩
 rotate_left
 ·walk_at "go";exact no fun h=>h0 h.1.1
 walk_at "go";refine⟨c4 _,aR (fun h1=>?_) (fun h1=>?_)⟩
 rotate_left
 ·walk_at "go";exact no fun h=>h1 h.1.2
 walk_at "go";refine⟨c4 _,aR (fun h2=>?_) (fun h2=>?_)⟩
 rotate_left
 ·walk_at "go";exact no fun h=>h2 h.2.1.1
 walk_at "go";refine⟨c4 _,aR (fun h3=>?_) (fun h3=>?_)⟩
 rotate_left
 ·walk_at "go";exact no fun h=>h3 h.2.1.2
 walk_at "go";refine⟨c4 _,aR (fun h4=>?_) (fun h4=>?_)⟩
 rotate_left
 ·walk_at "go";exact no fun h=>h4 h.2.2.1.1
 walk_at "go";refine⟨c4 _,aR (fun h5=>?_) (fun h5=>?_)⟩
 rotate_left
 ·walk_at "go";exact no fun h=>h5 h.2.2.1.2
 walk_at "go";refine⟨c4 _,aR (fun h6=>?_) (fun h6=>?_)⟩
 rotate_left
 ·walk_at "go";exact no fun h=>h6 h.2.2.2.1
 walk_at "go";refine⟨c4 _,?_⟩;rw[show decide (inP o (qN p).1 (qN p).2)=decide ((qN p).1-(qN p).2<4*o.h)from decide_eq_decide.mpr ⟨fun h=>h.2.2.2.2,fun h=>⟨⟨h0,h1⟩,⟨h2,h3⟩,⟨h4,h5⟩,h6,h⟩⟩]at q;exact q
end
noncomputable def jR:FP:=fun ts k=>∃o:Oc,ts=[ocT o]/\rj o=false/\bdO o/\k (.lst true ((ocN o (o.b-o.a).toNat).map qtT)) ts
section
variable{P:Oj}{w:Ot}{K:N7}{mg:Str->Option N5}{base:Ou}
theorem jh:FnScope ["octo","region","x","low","high","y"] ["octo"] (ax fF):=⟨rfl,rfl,rfl,by decide +kernel,rfl,by decide +kernel,by decide +kernel⟩
theorem pD(F:Fun K "quarters_in" "quarters_in" fF f fd)(TX:Txt mg)  (G_is_flat:Cal P w K mg base 1 "is_flat" ["octo"] (aG K 1 rM))(G_holds:Cal P w K mg base 2 "holds" ["octo","quarter"] (aG K 2 xG)):FnOk P w K mg base CX0 3 f fd ["octo"] (aG K 1 jR):=by
 refine br F jh [true] rfl (fun cdv A outer s H E hr=>?_);have sc:=@jh;have nd1:(["side","y","x","octo"]:List Str).Nodup:=by decide +kernel
 refine⟨_,(ai (aA (i:=1) sc.nd (by rfl) (e_ rfl) (by rfl) (aB (bM ag))) (ai (bz (cN (cw (ay G_is_flat hr (by rfl) (ah (af 0) az)))) (aj (aE (p8 1))) aQ) (ai (bG OD (by rfl) (jC (by rfl) TX.range (ae (aB (aq hr (af 0) ge_int)) (ae (aB (aq hr (af 0) ge_int)) ag))) (av (i:=2) sc.nd (by rfl) (r_ rfl) (by rfl)) (ai (aA (i:=3) sc.nd (by rfl) (e_ rfl) (by rfl) (aB (au (jF rfl) (by rfl) TX.max (by decide +kernel) (ae (aq hr (af 0) ge_int) (ae (ak bA (ak bA (aq hr (af 0) ge_int) (af 2)) ge_int) (ae (ak bA (af 2) (aq hr (af 0) ge_int)) ag)))))) (ai (aA (i:=4) sc.nd (by rfl) (e_ rfl) (by rfl) (aB (au (jH rfl) (by rfl) TX.min (by decide +kernel) (ae (aq hr (af 0) ge_int) (ae (ak bA (aq hr (af 0) ge_int) (af 2)) (ae (ak bA (ak aD (af 2) ge_int) (aq hr (af 0) ge_int)) ag)))))) (aj (bG OD (by rfl) (jC (by rfl) TX.range (ae (bq 3) (ae (bq 4) ag))) (av (i:=5) sc.nd (by rfl) (r_ rfl) (by rfl)) (aj (cI (dy 1 PySem.F.slot_list_extend PySem.F.type_list_extend vW (ae (aB (bO sc ["side","y","x","octo"] [none,some 5,some 2,some 0] nd1 (by decide +kernel) (d6 (by rfl) TX.range (ae ge_int ag)) (fun _ _ _=>(av (i:=0) nd1 (by rfl) (e_ rfl) (by rfl) (hf:=(r_ rfl)))) (fun _ _ _=>(xD (cw (ay G_holds hr (by rfl) (ah (af 3) (ah (aC (ae (af 2) (ae (af 1) (ae (af 0) ag)))) az)))))) (fun _ _ _=>(aC (ae (af 2) (ae (af 1) (ae (af 0) ag))))))) ag))))))))) (aj (aE (p8 1)))))),fun ts kk hl hp=>?_⟩;clear hl;obtain⟨o,rfl,hf,hb,q⟩:=hp;walk_at "go";refine⟨o,rfl,?_⟩;walk_at "go";rw[hf];walk_at "go";have ab:=hb.1.1;refine⟨by omega,b8 (fun i env=>∃z2 z3 z4 z5,env=[ocT o,.lst true ((ocN o i).map qtT),z2,z3,z4,z5]) ⟨_,_,_,_,rfl⟩ ?_ ?_⟩
 ·rintro i t _ ⟨z2,z3,z4,z5,rfl⟩ ei;have hi:=dW ei;have et:=js ei;subst et;walk_at "go";rw[show max (max o.c (o.e-(o.a+i)-1)) (o.a+i-o.h)=mX o (o.a+i)from rfl,show min (min o.d (o.f-(o.a+i))) (o.a+i+1-o.g)=ud o (o.a+i)from rfl];have lb:=Aw (x:=o.a+i) hb (by lia) (by omega);have ll:=DS hb i (by lia);refine⟨by lia,b8 (fun j env=>∃z5,env=[ocT o,.lst true ((ocN o i++ocC o (o.a+i) j).map qtT),.int (o.a+i),.int (mX o (o.a+i)),.int (ud o (o.a+i)),z5]) ⟨_,by rw[show ocC o (o.a+i) 0=[]from rfl,D_]⟩ ?_ ?_⟩
  ·rintro j t _ ⟨z5,rfl⟩ ej;have hj:=dW ej;have et:=js ej;subst et;have l2:=xP (o:=o) (x:=o.a+i) j;have ec:ocC o (o.a+i) (j+1)=ocC o (o.a+i) j++cellQ (fun s=>inO o (o.a+i,mX o (o.a+i)+j,s)) (o.a+i) (mX o (o.a+i)+j):=e9;rw[ec];generalize mX o (o.a+i)+j=y at *;generalize o.a+(i:Int)=x at *;walk_at "go";refine⟨by decide,aW (by rw[bE];decide) (fun s acc ie=>∃z1,acc=(((u_ s).filter fun s=>inO o (x,y,s)).map fun s=>(x,y,s)).map qtT/\ie=[z1,.int y,.int x,ocT o]) ⟨_,rfl,rfl⟩ ?_ ?_⟩
   ·rintro s t _ _ ⟨z1,rfl,rfl⟩ es;have hs:s<4:=dW es;have et:=js es;subst et;rw[LP];walk_at "go";refine⟨o,(x,y,s),rfl,hs,?_⟩;walk_at "go";rw[Lf,Mk,v_,v_];refine An (fun h=>?_) (fun h=>?_)
    ·walk_at "go";exact⟨_,by rw[JN,h];rfl,rfl⟩
    walk_at "go";exact⟨_,by rw[JN,h];exact(D_ _).symm,rfl⟩
   rintro _ _ ⟨z1,rfl,rfl⟩;rw[bE];walk_at "go";have l3:=qR (fun s=>inO o (x,y,s)) x y;have l4:((u_ (Int.toNat 4)).filter fun s=>inO o (x,y,s)).length=(cellQ (fun s=>inO o (x,y,s)) x y).length:=(a_ ..).symm;exact⟨by rw[l4,g_];lia,_,by rw[<-k_,v_ (l₁:=_++_)];rfl⟩
  rintro _ ⟨z5,rfl⟩;rw[bE];have e1:ocN o (i+1)=ocN o i++_:=e9;exact⟨_,_,_,_,by rw[e1]⟩
 rintro _ ⟨z2,z3,z4,z5,rfl⟩;rw[bE];walk_at "go";exact q
end
noncomputable def rq:FP:=fun ts k=>∃(t:Tl) (x y:Int) (s:Nat),ts=[tvT false false t,.int x,.int y,.int (s:Int)]/\s<4/\k (.bl (inM (t.1+t.2.1) (x,y,s))) ts
section
variable{P:Oj}{w:Ot}{K:N7}{mg:Str->Option N5}{base:Ou}
theorem pP:FnScope ["_law_tool_here","_law_x","_law_y","_law_side","_law_ends","_law_points"] ["_law_tool_here","_law_x","_law_y","_law_side"] (ax nH):=⟨rfl,rfl,rfl,by decide +kernel,rfl,by decide +kernel,by decide +kernel⟩
theorem xt(F:Fun K "_law_in_mark" "_law_in_mark" nH f fd)(TX:Txt mg)  :FnOk P w K mg base CX0 1 f fd ["_law_tool_here","_law_x","_law_y","_law_side"] (aG K 4 rq):=by
 refine br F pP [true,true,true,true] rfl (fun cdv A outer s H E hr=>?_);have sc:=@pP;have nd1:(["_law_one","_law_other","_law_y","_law_x"]:List Str).Nodup:=by decide +kernel
 have nd2:(["_law_one","_law_other","_law_tool_here"]:List Str).Nodup:=by decide +kernel
 refine⟨_,(@ai _ _ _ _ _ _ (@aA _ _ _ _ _ 4 _ _ sc.nd (by rfl) (e_ rfl) (by rfl) (@aB _ _ _ (@aq _ _ _ _ _ _ _ hr (@bM _ _ _ _ (@ae _ _ _ _ _ (@bM _ _ _ _ (@ae _ _ _ _ _ (@aC _ _ _ _ _ (@ae _ _ _ _ _ (@ge_int _ _ _ _) (@ae _ _ _ _ _ (@ge_int _ _ _ _) (@ag _) (by rfl)) (by rfl))) (@ae _ _ _ _ _ (@aC _ _ _ _ _ (@ae _ _ _ _ _ (@ge_int _ _ _ _) (@ae _ _ _ _ _ (@ge_int _ _ _ _) (@ag _) (by rfl)) (by rfl))) (@ag _) (by rfl)) (by rfl))) (@ae _ _ _ _ _ (@bM _ _ _ _ (@ae _ _ _ _ _ (@aC _ _ _ _ _ (@ae _ _ _ _ _ (@ge_int _ _ _ _) (@ae _ _ _ _ _ (@ge_int _ _ _ _) (@ag _) (by rfl)) (by rfl))) (@ae _ _ _ _ _ (@aC _ _ _ _ _ (@ae _ _ _ _ _ (@ge_int _ _ _ _) (@ae _ _ _ _ _ (@ge_int _ _ _ _) (@ag _) (by rfl)) (by rfl))) (@ag _) (by rfl)) (by rfl))) (@ae _ _ _ _ _ (@bM _ _ _ _ (@ae _ _ _ _ _ (@aC _ _ _ _ _ (@ae _ _ _ _ _ (@ge_int _ _ _ _) (@ae _ _ _ _ _ (@ge_int _ _ _ _) (@ag _) (by rfl)) (by rfl))) (@ae _ _ _ _ _ (@aC _ _ _ _ _ (@ae _ _ _ _ _ (@ge_int _ _ _ _) (@ae _ _ _ _ _ (@ge_int _ _ _ _) (@ag _) (by rfl)) (by rfl))) (@ag _) (by rfl)) (by rfl))) (@ae _ _ _ _ _ (@bM _ _ _ _ (@ae _ _ _ _ _ (@aC _ _ _ _ _ (@ae _ _ _ _ _ (@ge_int _ _ _ _) (@ae _ _ _ _ _ (@ge_int _ _ _ _) (@ag _) (by rfl)) (by rfl))) (@ae _ _ _ _ _ (@aC _ _ _ _ _ (@ae _ _ _ _ _ (@ge_int _ _ _ _) (@ae _ _ _ _ _ (@ge_int _ _ _ _) (@ag _) (by rfl)) (by rfl))) (@ag _) (by rfl)) (by rfl))) (@ag _) (by rfl)) (by rfl)) (by rfl)) (by rfl))) (@af _ _ 3 _ (by rfl) (by first|exact e_ rfl|exact r_ (e_ rfl)|exact r_ (r_ rfl)) (by decide) (by decide)) (by intro _ _;rfl))) (by rfl) (by first|exact .inl rfl|exact .inr rfl)) (@ai _ _ _ _ _ _ (@aA _ _ _ _ _ 5 _ _ sc.nd (by rfl) (e_ rfl) (by rfl) (@aB _ _ _ (@ak _ _ _ _ _ _ _ _ aD (@bM _ _ _ _ (@ae _ _ _ _ _ (@aC _ _ _ _ _ (@ae _ _ _ _ _ (@ak _ _ _ _ _ _ _ _ aD (@ak _ _ _ _ _ _ _ _ aK (@ge_int _ _ _ _) (@af _ _ 1 _ (by rfl) (by first|exact e_ rfl|exact r_ (e_ rfl)|exact r_ (r_ rfl)) (by decide) (by decide))) (@ge_int _ _ _ _)) (@ae _ _ _ _ _ (@ak _ _ _ _ _ _ _ _ aD (@ak _ _ _ _ _ _ _ _ aK (@ge_int _ _ _ _) (@af _ _ 2 _ (by rfl) (by first|exact e_ rfl|exact r_ (e_ rfl)|exact r_ (r_ rfl)) (by decide) (by decide))) (@ge_int _ _ _ _)) (@ag _) (by rfl)) (by rfl))) (@ag _) (by rfl))) (@bO _ _ _ _ sc ["_law_one","_law_other","_law_y","_law_x"] [none,none,some 2,some 1] nd1 _ _ _ _ _ _ _ _ _ _ (by decide +kernel) (@bo _ _ _ _ (@af _ _ 4 _ (by rfl) (by first|exact e_ rfl|exact r_ (e_ rfl)|exact r_ (r_ rfl)) (by decide) (by decide))) (fun _ _ _=>(@eO _ _ _ _ _ _ 2 (by rfl) (@aH _ _ _ _ _ _ (@av _ _ _ 0 _ nd1 (by rfl) (e_ rfl) (by rfl) (r_ rfl)) (@aH _ _ _ _ _ _ (@av _ _ _ 1 _ nd1 (by rfl) (e_ rfl) (by rfl) (r_ rfl)) (@cG _ _) (by rfl)) (by rfl)) (by rfl) (by rfl))) (fun _ _ _=>(@bD _)) (fun _ _ _=>(@aC _ _ _ _ _ (@ae _ _ _ _ _ (@ak _ _ _ _ _ _ _ _ aK (@ge_int _ _ _ _) (@ak _ _ _ _ _ _ _ _ aD (@af _ _ 3 _ (by rfl) (by first|exact e_ rfl|exact r_ (e_ rfl)|exact r_ (r_ rfl)) (by decide) (by decide)) (@af _ _ 0 _ (by rfl) (by first|exact e_ rfl|exact r_ (e_ rfl)|exact r_ (r_ rfl)) (by decide) (by decide)))) (@ae _ _ _ _ _ (@ak _ _ _ _ _ _ _ _ aK (@ge_int _ _ _ _) (@ak _ _ _ _ _ _ _ _ aD (@af _ _ 2 _ (by rfl) (by first|exact e_ rfl|exact r_ (e_ rfl)|exact r_ (r_ rfl)) (by decide) (by decide)) (@af _ _ 1 _ (by rfl) (by first|exact e_ rfl|exact r_ (e_ rfl)|exact r_ (r_ rfl)) (by decide) (by decide)))) (@ag _) (by rfl)) (by rfl)))) (by rfl) (by rfl) (by rfl) (by intro _;rfl)))) (by rfl) (by first|exact .inl rfl|exact .inr rfl)) (@aj _ _ _ _ (@aE _ _ _ _ _ (@aB _ _ _ (@au _ _ _ _ _ _ _ _ _ (fU rfl) (by rfl) TX.all (by decide +kernel) (@ae _ _ _ _ _ (@bO _ _ _ _ sc ["_law_one","_law_other","_law_tool_here"] [none,none,some 0] nd2 _ _ _ _ _ _ _ _ _ _ (by decide +kernel) (@bo _ _ _ _ (@af _ _ 5 _ (by rfl) (by first|exact e_ rfl|exact r_ (e_ rfl)|exact r_ (r_ rfl)) (by decide) (by decide))) (fun _ _ _=>(@eO _ _ _ _ _ _ 2 (by rfl) (@aH _ _ _ _ _ _ (@av _ _ _ 0 _ nd2 (by rfl) (e_ rfl) (by rfl) (r_ rfl)) (@aH _ _ _ _ _ _ (@av _ _ _ 1 _ nd2 (by rfl) (e_ rfl) (by rfl) (r_ rfl)) (@cG _ _) (by rfl)) (by rfl)) (by rfl) (by rfl))) (fun _ _ _=>(@bD _)) (fun _ _ _=>(@dR _ _ _ _ _ _ _ _ vZ (@ak _ _ _ _ _ _ _ _ aD (@au _ _ _ _ _ _ _ _ _ jD (by rfl) TX.abs (by decide +kernel) (@ae _ _ _ _ _ (@af _ _ 0 _ (by rfl) (by first|exact e_ rfl|exact r_ (e_ rfl)|exact r_ (r_ rfl)) (by decide) (by decide)) (@ag _) (by rfl)) (by decide) (by decide) (by rfl) (by rfl)) (@au _ _ _ _ _ _ _ _ _ jD (by rfl) TX.abs (by decide +kernel) (@ae _ _ _ _ _ (@af _ _ 1 _ (by rfl) (by first|exact e_ rfl|exact r_ (e_ rfl)|exact r_ (r_ rfl)) (by decide) (by decide)) (@ag _) (by rfl)) (by decide) (by decide) (by rfl) (by rfl))) (@ak _ _ _ _ _ _ _ _ aK (@ge_int _ _ _ _) (@ak _ _ _ _ _ _ _ _ aD (@aq _ _ _ _ _ _ _ hr (@af _ _ 2 _ (by rfl) (by first|exact e_ rfl|exact r_ (e_ rfl)|exact r_ (r_ rfl)) (by decide) (by decide)) (@ge_int _ _ _ _) (by intro _ _;rfl)) (@aq _ _ _ _ _ _ _ hr (@af _ _ 2 _ (by rfl) (by first|exact e_ rfl|exact r_ (e_ rfl)|exact r_ (r_ rfl)) (by decide) (by decide)) (@ge_int _ _ _ _) (by intro _ _;rfl)))) (aF _))) (by rfl) (by rfl) (by rfl) (by intro _;rfl)) (@ag _) (by rfl)) (by decide) (by decide) (by rfl) (by rfl))))))),fun ts kk hl hp=>?_⟩;clear hl;obtain⟨t,x,y,s,rfl,hs,q⟩:=hp;walk_at "go";refine aY (xF hs).1 ?_;have l2:=(xF hs).2;unfold inM ptM at q;dsimp only at q;generalize edL.getD s []=es at *;walk_at "go";refine⟨.inl ⟨by decide,by decide⟩,.inl ⟨by decide,by decide⟩,aW (by rw[a_,sizeLine_eq];lia) (fun i acc ie=>∃z1 z2,acc=(es.take i).map (fun e=>ptP (2*(x+e.1),2*(y+e.2)))/\ie=[z1,z2,.int y,.int x]) ⟨_,_,rfl,rfl⟩ ?_ ?_⟩
 ·rintro i u _ _ ⟨z1,z2,rfl,rfl⟩ ei;obtain⟨e,ee,rfl⟩:=aZ ei;walk_at "go";exact⟨.inl ⟨by decide,by decide⟩,.inl ⟨by decide,by decide⟩,_,_,by rw[map_take ee];rfl,rfl⟩
 rintro _ _ ⟨z1,z2,rfl,rfl⟩;rw[a_,y_];walk_at "go";have ep:T.tup [T.int (2*x+1),T.int (2*y+1)]::JV (fun e=>ptP (2*(x+e.1),2*(y+e.2))) es=((2*x+1,2*y+1)::es.map fun e=>((2*(x+e.1),2*(y+e.2)):Pt)).map ptP:=by rw[f',F_];rfl
 have lp:((2*x+1,2*y+1)::es.map fun e=>((2*(x+e.1),2*(y+e.2)):Pt)).length=3:=by rw[d_,a_,l2]
 rw[ep];generalize ((2*x+1,2*y+1)::es.map fun e=>((2*(x+e.1),2*(y+e.2)):Pt))=ps at *;refine⟨by lia,aW (by rw[a_,sizeLine_eq];lia) (fun i acc ie=>∃z1 z2,acc=(ps.take i).map (fun p=>T.bl (decide ((p.1.natAbs:Int)+p.2.natAbs<=2*(t.1+t.2.1))))/\ie=[z1,z2,tvT false false t]) ⟨_,_,rfl,rfl⟩ ?_ ?_⟩
 ·rintro i u _ _ ⟨z1,z2,rfl,rfl⟩ ei;obtain⟨p,ee,rfl⟩:=aZ ei;walk_at "go";exact⟨.inl ⟨by decide,by decide⟩,_,_,by rw[map_take ee],rfl⟩
 rintro _ _ ⟨z1,z2,rfl,rfl⟩;rw[a_,y_];walk_at "go";refine aY (cD _ _) ?_;walk_at "go";rw[Ko];exact q
end
noncomputable def AR:FP:=fun ts k=>∃(t:Tl),ts=[tvT false false t,ptP (0,0)]/\tlO t/\k (.dT true (dG bc (mkA t))) ts
section
variable{P:Oj}{w:Ot}{K:N7}{mg:Str->Option N5}{base:Ou}
theorem y9:FnScope ["_law_tool_here","_law_corner","_law_found","_law_x","_law_y","_law_side"] ["_law_tool_here","_law_corner"] (ax wj):=⟨rfl,rfl,rfl,by decide +kernel,rfl,by decide +kernel,by decide +kernel⟩
theorem DP(F:Fun K "_law_mark" "_law_mark" wj f fd)(TX:Txt mg)  (G_in_mark:Cal P w K mg base 1 "_law_in_mark" ["_law_tool_here","_law_x","_law_y","_law_side"] (aG K 4 rq)):FnOk P w K mg base CX0 2 f fd ["_law_tool_here","_law_corner"] (aG K 2 AR):=by
 refine br F y9 [true,true] rfl (fun cdv A outer s H E hr=>?_);have sc:=@y9;refine⟨_,(ai (aA (i:=2) sc.nd (by rfl) (e_ rfl) (by rfl) (aB qv)) (ai (bG OD (by rfl) (jC (by rfl) TX.range (ae (aB (bJ (aq hr (af 0) ge_int))) (ae (aB (aq hr (af 0) ge_int)) ag))) (av (i:=3) sc.nd (by rfl) (e_ rfl) (by rfl)) (aj (bG OD (by rfl) (jC (by rfl) TX.range (ae (aB (bJ (aq hr (af 0) ge_int))) (ae (aB (aq hr (af 0) ge_int)) ag))) (av (i:=4) sc.nd (by rfl) (e_ rfl) (by rfl)) (aj (bG OD (by rfl) (d6 (by rfl) TX.range (ae ge_int ag)) (av (i:=5) sc.nd (by rfl) (e_ rfl) (by rfl)) (aj (bz (cN (cw (ay G_in_mark hr (by rfl) (ah (af 0) (ah (af 3) (ah (af 4) (ah (af 5) az))))))) (aj (ja dF (ny (i:=2) hr (aB (aC (ae (ak aD (aq hr (af 1) ge_int) (af 3)) (ae (ak aD (aq hr (af 1) ge_int) (af 4)) (ae (af 5) ag)))))))) aQ))))))) (aj (aE (p8 2))))),fun ts kk hl hp=>?_⟩;clear hl;obtain⟨t,rfl,ht,q⟩:=hp;obtain⟨t1,t2,t3,t4⟩:=ht;walk_at "go";refine⟨rfl,by lia,b8 (fun i env=>∃z3 z4 z5,env=[tvT false false t,ptP (0,0),.dT true (dG bc (mkN t.1 (t.1+t.2.1) i)),z3,z4,z5]) ⟨_,_,_,rfl⟩ ?_ ?_⟩
 ·rintro i u _ ⟨z3,z4,z5,rfl⟩ ei;have hi:=dW ei;have et:=js ei;subst et;walk_at "go";refine⟨by lia,b8 (fun j env=>∃z4 z5,env=[tvT false false t,ptP (0,0),.dT true (dG bc (mkN t.1 (t.1+t.2.1) i++mkC t.1 (t.1+t.2.1) (-t.1+i) j)),.int (-t.1+i),z4,z5]) ⟨_,_,by rw[show mkC t.1 (t.1+t.2.1) (-t.1+i) 0=[]from rfl,D_]⟩ ?_ ?_⟩
  ·rintro j u _ ⟨z4,z5,rfl⟩ ej;have hj:=dW ej;have et:=js ej;subst et;walk_at "go";refine⟨by decide,b8 (fun s env=>∃z5,env=[tvT false false t,ptP (0,0),.dT true (dG bc (mkN t.1 (t.1+t.2.1) i++mkC t.1 (t.1+t.2.1) (-t.1+i) j++((u_ s).filter fun s=>decide (inM (t.1+t.2.1) (-t.1+i,-t.1+j,s)=true)).map fun s=>(-t.1+(i:Int),-t.1+(j:Int),s))),.int (-t.1+i),.int (-t.1+j),z5]) ⟨_,by rw[List.range_zero,List.filter_nil,LG,D_]⟩ ?_ ?_⟩
   ·rintro s u _ ⟨z5,rfl⟩ es;have hs4:s<4:=dW es;have et:=js es;subst et;rw[LP];walk_at "go";refine⟨t,-t.1+i,-t.1+j,s,rfl,hs4,?_⟩;walk_at "go";rw[Lf,Mk,v_];refine An (fun h=>?_) (fun h=>?_)
    ·walk_at "go";have l1:=Gh (r:=t.1) (R:=t.1+t.2.1) (i:=i) (j:=j) (s:=s) (by lia);have ef:((Nm (fun s=>decide (inM (t.1+t.2.1) (-t.1+i,-t.1+j,s)=true)) [s]).map fun s=>((-t.1+(i:Int),-t.1+(j:Int),s):Qt))=[(-t.1+(i:Int),-t.1+(j:Int),s)]:=by rw[JN,h];rfl
     rw[LP,LP];exact⟨by rw[pz];lia,_,by rw[ef,<-k_,<-Bn (ρ:=bc) EY,<-pL];rfl⟩
    walk_at "go";have ef:((Nm (fun s=>decide (inM (t.1+t.2.1) (-t.1+i,-t.1+j,s)=true)) [s]).map fun s=>((-t.1+(i:Int),-t.1+(j:Int),s):Qt))=[]:=by rw[JN,h];rfl
    exact⟨_,by rw[ef,D_]⟩
   rintro _ ⟨z5,rfl⟩;have e1:mkC t.1 (t.1+t.2.1) (-t.1+i) (j+1)=mkC t.1 (t.1+t.2.1) (-t.1+i) j++_:=e9;exact⟨_,_,by rw[e1,<-k_];rfl⟩
  rintro _ ⟨z4,z5,rfl⟩;rw[bE];have e1:mkN t.1 (t.1+t.2.1) (i+1)=mkN t.1 (t.1+t.2.1) i++_:=e9;exact⟨_,_,_,by rw[e1]⟩
 rintro _ ⟨z3,z4,z5,rfl⟩;rw[bE];walk_at "go";exact q
end
noncomputable def Bv:FP:=fun ts k=>∃c n m,ts=[stT c n,.int m]/\n<2 ^ 39/\2<=m/\m<=6/\∀(c':Cells) (t:Tl),tlO t->k (tvT false false t) [stT c' (n+5),.int m]
section
variable{P:Oj}{w:Ot}{K:N7}{mg:Str->Option N5}{base:Ou}
theorem yj:FnScope ["_law_state","_law_most","_law_r","_law_k"] ["_law_state","_law_most"] (ax wL):=⟨rfl,rfl,rfl,by decide +kernel,rfl,by decide +kernel,by decide +kernel⟩
theorem Di(F:Fun K "_law_tool" "_law_tool" wL f fd)(TX:Txt mg)  (G_take:Cal P w K mg base 1 "_law_take" ["_law_state","_law_many"] (aG K 2 jV)):FnOk P w K mg base CX0 2 f fd ["_law_state","_law_most"] (aG K 2 Bv):=by refine br F yj [true,true] rfl (fun cdv A outer s H E hr=>?_);have sc:=@yj;refine⟨_,(ai (aA (i:=2) sc.nd (by rfl) (e_ rfl) (by rfl) (ak aD ge_int (ay G_take hr (by rfl) (aM 0 (ah (aB (ak bA (af 1) ge_int)) az))))) (ai (aA (i:=3) sc.nd (by rfl) (e_ rfl) (by rfl) (ak aD ge_int (ay G_take hr (by rfl) (aM 0 (ah (aB (ak bA (af 2) ge_int)) az))))) (aj (aE (aC (ae (bq 2) (ae (bq 3) (ae (ak aD ge_int (ay G_take hr (by rfl) (aM 0 (ah ge_int az)))) (ae (ak aD ge_int (ay G_take hr (by rfl) (aM 0 (ah ge_int az)))) (ae (ak aD ge_int (ay G_take hr (by rfl) (aM 0 (ah ge_int az)))) ag)))))))))),fun ts kk hl hp=>?_⟩;clear hl;obtain⟨c,n,m,rfl,hn,m0,m1,q⟩:=hp;walk_at "go";walk_at "take";intro r c1 a1 b1;walk_at "go";walk_at "take";intro kk c2 a2 b2;walk_at "go";walk_at "take";intro u c3 a3 b3;walk_at "go";walk_at "take";intro v c4 a4 b4;walk_at "go";walk_at "take";intro w' c5 a5 b5;walk_at "go";exact q c5 (2+r,1+kk,_,_,_) ⟨by dsimp only;lia,by dsimp only;lia,by dsimp only;lia,by dsimp only;lia⟩
end
noncomputable def xY:FP:=fun ts k=>∃c n m,ts=[stT c n,.int m]/\n<2 ^ 38/\2<=m/\m<=6/\∀(c':Cells) (n':Nat) (tl:List Tl),n<=n'->n'<=n+100->0<tl.length->tl.length<=5->(∀t∈tl,tlO t)->k (.lst true (tl.map (tvT false false))) [stT c' n',.int m]
section
variable{P:Oj}{w:Ot}{K:N7}{mg:Str->Option N5}{base:Ou}
theorem uM:FnScope ["_law_state","_law_most"] ["_law_state","_law_most"] (ax sZ):=⟨rfl,rfl,rfl,by decide +kernel,rfl,by decide +kernel,by decide +kernel⟩
theorem BJ(F:Fun K "_law_tools" "_law_tools" sZ f fd)(TX:Txt mg)  (G_take:Cal P w K mg base 1 "_law_take" ["_law_state","_law_many"] (aG K 2 jV))(G_tool:Cal P w K mg base 2 "_law_tool" ["_law_state","_law_most"] (aG K 2 Bv)):FnOk P w K mg base CX0 3 f fd ["_law_state","_law_most"] (aG K 2 xY):=by
 refine br F uM [true,true] rfl (fun cdv A outer s H E hr=>?_);have sc:=@uM;have nd1:(["_law_turn","_law_most","_law_state"]:List Str).Nodup:=by decide +kernel
 refine⟨_,(aj (aE (bO sc ["_law_turn","_law_most","_law_state"] [none,some 1,some 0] nd1 (by decide +kernel) (d6 (by rfl) TX.range (ae (aq hr (aB (bM (ae ge_int (ae ge_int (ae ge_int (ae ge_int (ae ge_int (ae ge_int ag)))))))) (ay G_take hr (by rfl) (aM 0 (ah ge_int az)))) ag)) (fun _ _ _=>(av (i:=0) nd1 (by rfl) (e_ rfl) (by rfl) (hf:=(r_ rfl)))) (fun _ _ _=>bD) (fun _ _ _=>(ay G_tool hr (by rfl) (aM 2 (ah (bq 1) az))))))),fun ts kk hl hp=>?_⟩;clear hl;obtain⟨c,n,m,rfl,hn,m0,m1,q⟩:=hp;walk_at "go";walk_at "take";intro r c1 a1 b1;walk_at "go";obtain⟨h,ef,f0,f1⟩:=fT (fun v=>1<=v/\v<=5) (ns:=[1,2,3,1,2,5]) (i:=r) (by omega) (by show r<6;omega) (by intro v hv;simp only[o_,JO,or_false]at hv;lia)
 refine aY ef ?_;walk_at "go";refine⟨by lia,aW (by rw[bE,sizeLine_eq];lia) (fun i acc ie=>∃(c':Cells) (n':Nat) (tl:List Tl) (z:T),n<=n'/\n'<=n+1+5*i/\tl.length=i/\(∀t∈tl,tlO t)/\acc=tl.map (tvT false false)/\ie=[z,.int m,stT c' n']) ⟨c1,n+1,[],_,by lia,by lia,rfl,(fun _ h=>by cases h),rfl,rfl⟩ ?_ ?_⟩
 ·rintro i u _ _ ⟨c',n',tl,z,l2,l3,l4,ht,rfl,rfl⟩ ei;have hi:=dW ei;walk_at "go";refine⟨c',n',m,rfl,by lia,m0,m1,fun c2 t h=>?_⟩;walk_at "go";refine⟨c2,n'+5,tl++[t],_,by lia,by lia,by rw[g_,l4];rfl,fun v mv=>?_,by rw[v_];rfl,rfl⟩;rcases A_.mp mv with mv|mv
  ·exact ht v mv
  rw[A'.mp mv];exact h
 rintro _ _ ⟨c',n',tl,z,l2,l3,l4,ht,rfl,rfl⟩;rw[bE]at l3 l4;walk_at "go";exact q c' n' tl (by omega) (by lia) (by lia) (by lia) ht
end
noncomputable def vF:FP:=fun ts k=>∃c n p m,ts=[stT c n,ptP p,.int m]/\n<2 ^ 38/\0<=m/\m<=40/\∀(c':Cells) (n':Nat) (ps:List Plc) (e:Pt),n<=n'->n'<=n+300->(∀p'∈ps,(p.1-m<=p'.1.1/\p'.1.1<=p.1+m)/\p.2-m<=p'.1.2/\p'.1.2<=p.2+m)->ps.length<=m.toNat+1->0<ps.length->((p.1-m<=e.1/\e.1<=p.1+m)/\p.2-m<=e.2/\e.2<=p.2+m)->k (.tup [.lst true (ps.map plT),ptP e]) [stT c' n',ptP p,.int m]
section
variable{P:Oj}{w:Ot}{K:N7}{mg:Str->Option N5}{base:Ou}
theorem rA:FnScope ["_law_state","_law_corner","_law_many","_law_x","_law_y","_law_z","_law_places_here","_law_direction","_law_turn","_law_way"] ["_law_state","_law_corner","_law_many"] (ax oZ):=⟨rfl,rfl,rfl,by decide +kernel,rfl,by decide +kernel,by decide +kernel⟩
theorem zH(F:Fun K "_law_places" "_law_places" oZ f fd)(TX:Txt mg)  (G_take:Cal P w K mg base 1 "_law_take" ["_law_state","_law_many"] (aG K 2 jV)):FnOk P w K mg base CX0 2 f fd ["_law_state","_law_corner","_law_many"] (aG K 3 vF):=by
 refine br F rA [true,true,true] rfl (fun cdv A outer s H E hr=>?_);have sc:=@rA;refine⟨_,(ai (ja (bq 1) (eO (n:=2) (by rfl) (aH (av (i:=3) sc.nd (by rfl) (e_ rfl) (by rfl)) (aH (av (i:=4) sc.nd (by rfl) (e_ rfl) (by rfl)) cG)))) (ai (aA (i:=5) sc.nd (by rfl) (e_ rfl) (by rfl) (ay G_take hr (by rfl) (aM 0 (ah ge_int az)))) (ai (aA (i:=6) sc.nd (by rfl) (e_ rfl) (by rfl) (aB (bM (ae (aC (ae (af 3) (ae (af 4) (ae (af 5) ag)))) ag)))) (ai (aA (i:=7) sc.nd (by rfl) (e_ rfl) (by rfl) (ay G_take hr (by rfl) (aM 0 (ah ge_int az)))) (ai (bG OD (by rfl) (d6 (by rfl) TX.range (ae (bq 2) ag)) (av (i:=8) sc.nd (by rfl) (e_ rfl) (by rfl)) (iz (bz (aX (bh hr) (ay G_take hr (by rfl) (aM 0 (ah ge_int az))) ge_int (aF _)) (aj (aA (i:=7) sc.nd (by rfl) (e_ rfl) (by rfl) (ay G_take hr (by rfl) (aM 0 (ah ge_int az))))) aQ) (ai (aA (i:=9) sc.nd (by rfl) (e_ rfl) (by rfl) (ay G_take hr (by rfl) (aM 0 (ah ge_int az)))) (iz (bz (cN (wo (xh (aX (bh hr) (af 9) ge_int (aF _)) (uj (aX hE (af 5) ge_int (aF _)))))) (aj (aA (i:=5) sc.nd (by rfl) (e_ rfl) (by rfl) (aB (ak aD (af 5) ge_int)))) (ai (aA (i:=3) sc.nd (by rfl) (e_ rfl) (by rfl) (aB (ak aD (af 3) (aq hr (bM (ae ge_int (ae ge_int (ae ge_int (ae (bJ ge_int) (ae (bJ ge_int) (ae (bJ ge_int) (ae ge_int (ae ge_int ag))))))))) (af 7))))) (ai (aA (i:=4) sc.nd (by rfl) (e_ rfl) (by rfl) (aB (ak aD (af 4) (aq hr (bM (ae ge_int (ae ge_int (ae ge_int (ae ge_int (ae ge_int (ae (bJ ge_int) (ae (bJ ge_int) (ae (bJ ge_int) ag))))))))) (af 7))))) (aj (aA (i:=5) sc.nd (by rfl) (e_ rfl) (by rfl) (aq hr (bM (ae (bq 5) (ae (bq 5) (ae (aB (au (jH rfl) (by rfl) TX.min (by decide +kernel) (ae ge_int (ae (ak aD (af 5) ge_int) ag)))) (ae (ay G_take hr (by rfl) (aM 0 (ah (aB (ak aD (af 5) ge_int)) az))) (ae (bq 5) (ae (bq 5) ag))))))) (bq 9))))))) (aj (cI (dy 6 ON OO bK (ae (aB (aC (ae (af 3) (ae (af 4) (ae (af 5) ag))))) ag)))))))) (aj (aE (aC (ae (p8 6) (ae (aB (aC (ae (af 3) (ae (af 4) ag)))) ag)))))))))),fun ts kk hl hp=>?_⟩;clear hl;obtain⟨c,n,p,m,rfl,hn,m0,m1,q⟩:=hp;rw[ptP,pt];walk_at "go";walk_at "take";intro z c1 a1 b1;walk_at "go";walk_at "take";intro d c2 a2 b2;walk_at "go";refine⟨by lia,b8 (fun i env=>∃(c':Cells) (n':Nat) (ps:List Plc) (x y z d:Int) (z8 z9:T),n<=n'/\n'<=n+2+5*i/\ps.length=i+1/\(p.1-i<=x/\x<=p.1+i/\p.2-i<=y/\y<=p.2+i/\0<=z/\z<=6/\0<=d/\d<8)/\(∀p'∈ps,(p.1-i<=p'.1.1/\p'.1.1<=p.1+i)/\p.2-i<=p'.1.2/\p'.1.2<=p.2+i)/\env=[stT c' n',ptP p,.int m,.int x,.int y,.int z,.lst true (ps.map plT),.int d,z8,z9]) ⟨c2,n+1+1,[(p,z)],p.1,p.2,z,d,_,_,by lia,by lia,rfl,by lia,fun p' m'=>?_,rfl⟩ ?_ ?_⟩
 ·rw[A'.mp m'];dsimp only;lia
 ·rintro i t _ ⟨c',n',ps,x,y,z,d,z8,z9,l1,l2,l3,hb,hm,rfl⟩ ei;have hi:=dW ei;walk_at "go";refine kl (fun env=>∃(c':Cells) (n':Nat) (d:Int) (z8:T),n<=n'/\n'<=n+4+5*i/\(0<=d/\d<8)/\env=[stT c' n',ptP p,.int m,.int x,.int y,.int z,.lst true (ps.map plT),.int d,z8,z9]) ?_ ?_
  ·walk_at "go";walk_at "take";intro r c3 r1 r2;walk_at "go";refine aR (fun g=>?_) (fun g=>?_)
   ·walk_at "go";walk_at "take";intro r' c4 r3 r4;walk_at "go";exact⟨_,_,_,_,by lia,by lia,⟨r3,r4⟩,rfl⟩
   walk_at "go";exact⟨_,_,_,_,by lia,by lia,⟨hb.2.2.2.2.2.2.1,hb.2.2.2.2.2.2.2⟩,rfl⟩
  clear l1 l2;rintro _ ⟨c',n',d,z8,l1,l2,hd,rfl⟩;walk_at "go";walk_at "take";intro w c5 w1 w2;walk_at "go";refine kl (fun env=>∃(c':Cells) (n':Nat) (x' y' z':Int) (z8:T),n<=n'/\n'<=n+7+5*i/\(x-1<=x'/\x'<=x+1/\y-1<=y'/\y'<=y+1/\0<=z'/\z'<=6)/\env=[stT c' n',ptP p,.int m,.int x',.int y',.int z',.lst true (ps.map plT),.int d,z8,.int w]) ?_ ?_
  ·walk_at "go";refine aR (fun g=>?sa) (fun g=>?sb)
   case' sb=>
    walk_at "go";clear g
   case' sa=>
    walk_at "go";refine aR (fun g2=>?sc) (fun g2=>?sd)
   case sc=>
    walk_at "go";exact⟨_,_,x,y,z+1,_,by lia,by lia,by lia,rfl⟩
   case' sd=>
    walk_at "go";clear g g2;refine ?sb
   case sb=>
    obtain⟨u,eu,u0,u1⟩:=fT (fun v=>-1<=v/\v<=1) (ns:=[1,1,0,-1,-1,-1,0,1]) (i:=d) hd.1 hd.2 (by decide);refine aY eu ?_;walk_at "go";obtain⟨v,ev,v0,v1⟩:=fT (fun v=>-1<=v/\v<=1) (ns:=[0,1,1,1,0,-1,-1,-1]) (i:=d) hd.1 hd.2 (by decide);refine aY ev ?_;walk_at "go";walk_at "take";intro r c6 r1 r2;walk_at "go";obtain⟨z',ez,z0,z1⟩:=fT (fun v=>0<=v/\v<=6) (ns:=[z,z,min 6 (z+1),r,z,z]) (i:=w) w1 w2 (by intro v hv;simp only[o_,JO,or_false]at hv;lia)
    refine aY ez ?_;walk_at "go";exact⟨_,_,_,_,_,_,by lia,by lia,by lia,rfl⟩
  rintro _ ⟨c',n',x',y',z',z8,l1,l2,hb',rfl⟩;walk_at "go";refine⟨by lia,c',n',ps++[((x',y'),z')],x',y',z',d,_,_,l1,by lia,by rw[g_,l3];rfl,by lia,fun p' m'=>?_,by rw[v_];rfl⟩;rcases A_.mp m' with m'|m'
  ·have:=hm p' m';lia
  rw[A'.mp m'];dsimp only;omega
 rintro _ ⟨c',n',ps,x,y,z,d,z8,z9,l1,l2,l3,hb,hm,rfl⟩;rw[bE]at *;walk_at "go";exact q c' n' ps (x,y) l1 (by lia) (fun p' m'=>by have:=hm p' m';omega) (by lia) (by lia) (by dsimp only;omega)
end
noncomputable def Eb:FP:=fun ts k=>∃(o o2:Bool) (P:List Od) (tl:List Tl) (l C:Int) (N:Nat),ts=[.lst o (P.map (odT false false)),.lst o2 (tl.map (tvT false false)),.int l]/\OkP tl.length C N P/\N<=400/\(tl.length<=5/\∀t∈tl,tlO t)/\∀qs:List Qt,Cuts l tl P qs->k (.dT true (dG bc qs)) [.lst false (P.map (odT false false)),.lst o2 (tl.map (tvT false false)),.int l]
section
variable{P:Oj}{w:Ot}{K:N7}{mg:Str->Option N5}{base:Ou}
theorem Cb:FnScope ["_law_program_here","_law_tools_here","_law_layer","_law_marks","_law_found","_law_spots","_law_taken","_law_order","_law_x","_law_y","_law_z","_law_number","_law_right","_law_up","_law_side"] ["_law_program_here","_law_tools_here","_law_layer"] (ax Ad):=⟨rfl,rfl,rfl,by decide +kernel,rfl,by decide +kernel,by decide +kernel⟩
theorem Ff(F:Fun K "_law_cut" "_law_cut" Ad f fd)(TX:Txt mg)  (G_mark:Cal P w K mg base 2 "_law_mark" ["_law_tool_here","_law_corner"] (aG K 2 AR)):FnOk P w K mg base CX0 3 f fd ["_law_program_here","_law_tools_here","_law_layer"] (aG K 3 Eb):=by
 refine br F Cb [true,true,true] rfl (fun cdv A outer s H E hr=>?_);have sc:=@Cb;have nd1:(["_law_tool_here"]:List Str).Nodup:=by decide +kernel
 refine⟨_,(ai (vM sc (i:=3) ["_law_tool_here"] [none] nd1 (by decide +kernel) (by rfl) (e_ rfl) (by rfl) (bo (af 1)) (fun _ _ _=>(av (i:=0) nd1 (by rfl) (e_ rfl) (by rfl) (hf:=(r_ rfl)))) (fun _ _ _=>bD) (fun _ _ _=>(ay G_mark hr (by rfl) (ah (af 0) (ah (aC (ae ge_int (ae ge_int ag))) az)))) (by rfl)) (ai (aA (i:=4) sc.nd (by rfl) (e_ rfl) (by rfl) (aB qv)) (ai (aA (i:=5) sc.nd (by rfl) (e_ rfl) (by rfl) (aB qv)) (ai (aA (i:=6) sc.nd (by rfl) (e_ rfl) (by rfl) ge_int) (ai (bG OD (by rfl) (bo (bq 0)) (av (i:=7) sc.nd (by rfl) (e_ rfl) (by rfl)) (iz (bz (cN (aX (bh hr) (aq hr (af 7) ge_int) ge_str (aF _))) (aj (aA (i:=6) sc.nd (by rfl) (e_ rfl) (by rfl) (aB (aq hr (af 7) ge_int)))) aQ) (aj (bz (cN (aX (bh hr) (aq hr (af 7) ge_int) ge_str (aF _))) (aj (bG OD (by rfl) (bo (aB (aq hr (af 7) ge_int))) (eO (n:=3) (by rfl) (aH (av (i:=8) sc.nd (by rfl) (e_ rfl) (by rfl)) (aH (av (i:=9) sc.nd (by rfl) (e_ rfl) (by rfl)) (aH (av (i:=10) sc.nd (by rfl) (e_ rfl) (by rfl)) cG)))) (aj (bz (cN (aX sF (af 10) (af 2) (aF _))) (aj (ja dF (ny (i:=5) hr (aB (aC (ae (af 6) (ae (af 8) (ae (af 9) ag)))))))) aQ)))) aQ)))) (ai (bG OD (by rfl) (xI (bq 5)) (eO (n:=3) (by rfl) (aH (av (i:=11) sc.nd (by rfl) (e_ rfl) (by rfl)) (aH (av (i:=12) sc.nd (by rfl) (e_ rfl) (by rfl)) (aH (av (i:=13) sc.nd (by rfl) (e_ rfl) (by rfl)) cG)))) (aj (bG OD (by rfl) (xI (aq hr (bq 3) (bq 11))) (eO (n:=3) (by rfl) (aH (av (i:=8) sc.nd (by rfl) (e_ rfl) (by rfl)) (aH (av (i:=9) sc.nd (by rfl) (e_ rfl) (by rfl)) (aH (av (i:=14) sc.nd (by rfl) (e_ rfl) (by rfl)) cG)))) (aj (ja dF (ny (i:=4) hr (aB (aC (ae (ak aD (af 8) (af 12)) (ae (ak aD (af 9) (af 13)) (ae (af 14) ag))))))))))) (aj (aE (p8 4))))))))),fun ts kk hl hp=>?_⟩;clear hl;obtain⟨o,o2,P,tl,l,C,N,rfl,hP,hN,⟨hl,ht⟩,q⟩:=hp;walk_at "go";refine aW (by rw[a_,sizeLine_eq];lia) (fun i acc ie=>∃z,acc=(tl.take i).map (fun t=>T.dT true (dG bc (mkA t)))/\ie=[z]) ⟨_,rfl,rfl⟩ ?_ ?_
 ·rintro i u _ _ ⟨z,rfl,rfl⟩ ei;obtain⟨t,et,rfl⟩:=aZ ei;walk_at "go";refine⟨t,rfl,ht t (F' et),?_⟩;walk_at "go";exact⟨_,by rw[map_take et],rfl⟩
 rintro _ _ ⟨z,rfl,rfl⟩;rw[a_,y_];walk_at "go";refine⟨rfl,rfl,b8 (fun i env=>∃(z7 z8 z9 z10:T),env=[.lst false (P.map (odT false false)),.lst o2 (tl.map (tvT false false)),.int l,.lst true (tl.map fun t=>T.dT true (dG bc (mkA t))),.dT true [],.dT true (dG fS (bF fS [] (sps l (P.take i) 0))),.int (tlA (P.take i) 0:Int),z7,z8,z9,z10,.any,.any,.any,.any]) ⟨_,_,_,_,rfl⟩ ?_ ?_⟩
 ·rintro i t _ ⟨z7,z8,z9,z10,rfl⟩ ei;obtain⟨od,eo,rfl⟩:=aZ ei;obtain⟨et,e0⟩:=yl hP eo;have hw:=(lY (l:=l) (Q:=[od]) (P:=P.take i) (t:=0)).2;rw[<-et]at hw;have hm:=F' eo;walk_at "go";refine kl (fun env=>env=[.lst false (P.map (odT false false)),.lst o2 (tl.map (tvT false false)),.int l,.lst true (tl.map fun t=>T.dT true (dG bc (mkA t))),.dT true [],.dT true (dG fS (bF fS [] (sps l (P.take i) 0))),.int (tlA (P.take (i+1)) 0:Int),odT false false od,z8,z9,z10,.any,.any,.any,.any]) ?_ ?_
  ·rw[hw.2];cases od with
   |tk j=>rw[tQ];walk_at "go";rfl
   |ov b u v=>rw[tN];walk_at "go";rfl
   |ct ps=>rw[uh];walk_at "go";rfl
  rintro _ rfl;rw[hw.1,hw.2];have le:(sps l (P.take i) 0).length<=400:=by have h1:=mD (l:=l) (P:=P.take i) (t:=0);have h2:=vh (P:=P) (i:=i);have h3:=hP.2.2.1;lia
  cases od with
  |tk j=>rw[tQ];walk_at "go";exact⟨_,_,_,_,by rw[show sps l [Od.tk j] (tlA (P.take i) 0)=[]from rfl,D_]⟩
  |ov b u v=>rw[tN];walk_at "go";exact⟨_,_,_,_,by rw[show sps l [Od.ov b u v] (tlA (P.take i) 0)=[]from rfl,D_]⟩
  |ct ps=>
   have hps:=sQ hm;have hnp:=hP.2.2.1;have e1:sps l [Od.ct ps] (tlA (P.take i) 0)=(ps.filter fun p=>decide (l<p.2)).map fun p=>(tlA (P.take i) 0,p.1):=D_ _;have e2:tlA [Od.ct ps] (tlA (P.take i) 0)=tlA (P.take i) 0:=rfl;rw[e1,e2,dC,uh];clear hw e1 e2;generalize sps l (P.take i) 0=S at *;generalize tlA (P.take i) 0=tn at *;have lS:=dE (ρ:=fS) (l:=[]) (r:=S);rw[JY]at lS;generalize bF fS [] S=SS at *;walk_at "go";refine b8 (fun j env=>∃(z8 z9 z10:T),env=[.lst false (P.map (odT false false)),.lst o2 (tl.map (tvT false false)),.int l,.lst true (tl.map fun t=>T.dT true (dG bc (mkA t))),.dT true [],.dT true (dG fS (bF fS SS (((ps.take j).filter fun p=>decide (l<p.2)).map fun p=>(tn,p.1)))),.int (tn:Int),odT false false (.ct ps),z8,z9,z10,.any,.any,.any,.any]) ⟨_,_,_,rfl⟩ ?_ ?_
   ·rintro j t _ ⟨z8,z9,z10,rfl⟩ ej;obtain⟨p,ep,rfl⟩:=aZ ej;have hj:=(gV.mp ep).1;rw[plT];walk_at "go";rw[rO ep];refine aR (fun g=>?_) (fun g=>?_)
    ·walk_at "go";have la:=dE (ρ:=fS) (l:=SS) (r:=((ps.take j).filter fun p=>decide (l<p.2)).map fun p=>(tn,p.1));rw[a_]at la;have lb:=m_ la (Kx (m_ (KL _ _) (Md _ _)) _);rw[if_pos g,dC];exact⟨by rw[pz];lia,_,_,_,by rw[bF,bF,<-pL];rfl⟩
    walk_at "go";rw[if_neg g,D_];exact⟨_,_,_,rfl⟩
   rintro _ ⟨z8,z9,z10,rfl⟩;rw[a_,y_];exact⟨_,_,_,_,rfl⟩
 rintro _ ⟨z7,z8,z9,z10,rfl⟩;rw[a_,y_];have hv:∀v∈bF fS [] (sps l P 0),v.1<tl.length:=fun v m=>((dI pj).mp m).elim (nomatch ·) (BQ hP v);have hS:(bF fS [] (sps l P 0)).length<=400:=by have h1:=dE (ρ:=fS) (l:=[]) (r:=sps l P 0);have h2:=mD (l:=l) (P:=P) (t:=0);have h3:=hP.2.2.1;rw[JY]at h1;lia
 have fin:∀q:Qt,q∈bF bc [] (fnd tl (bF fS [] (sps l P 0)))↔q.2.2<4/\∃v∈sps l P 0,inL (mkT (tR tl v.1) v.2) q:=fun q=>by
  rw[dI fu,CG ht hv];constructor
  ·rintro(h|⟨a,v,m,b⟩)
   ·cases h
   exact⟨a,v,((dI pj).mp m).elim (nomatch ·) id,b⟩
  rintro⟨a,v,m,b⟩;exact .inr ⟨a,v,(dI pj).mpr (.inr m),b⟩
 have q:=q _ ⟨mF fu KA,fin⟩;clear fin;generalize bF fS [] (sps l P 0)=S at *;generalize (tlA P 0:Int)=tn at *;walk_at "go";refine b8 (fun i env=>∃(b:Bool) (z8 z9 z11 z12 z13 z14:T),env=[.lst false (P.map (odT false false)),.lst o2 (tl.map (tvT false false)),.int l,.lst b (tl.map fun t=>T.dT b (dG bc (mkA t))),.dT true (dG bc (bF bc [] (fnd tl (S.take i)))),.dT false (dG fS S),.int tn,z7,z8,z9,z10,z11,z12,z13,z14]) ⟨true,_,_,_,_,_,_,rfl⟩ ?_ ?_
 ·rintro i t _ ⟨b,z8,z9,z11,z12,z13,z14,rfl⟩ ei;obtain⟨v,ev,rfl⟩:=aZ ei;have hi:=(gV.mp ev).1;have mv:=F' ev;walk_at "go";refine aY (IC (hv v mv)) ?_;walk_at "go";have lf:=xO ht (S:=S.take i) fun w mw=>hv w (JF mw);have la:=dE (ρ:=bc) (l:=[]) (r:=fnd tl (S.take i));have lk:=yO (uy ht (hv v mv));rw[JY]at la;rw[G_]at lf;have es:bF bc [] (fnd tl (S.take (i+1)))=bF bc (bF bc [] (fnd tl (S.take i))) ((mkA (tl.getD v.1 (0,0,0,0,0))).map (mvQ v.2)):=by
   rw[JR,ev,<-dC,<-C9]
   rfl
  rw[es];clear es;generalize bF bc [] (fnd tl (S.take i))=F at *;generalize mkA (tl.getD v.1 (0,0,0,0,0))=M at *;refine b8 (fun j env=>∃(z8 z9 z14:T),env=[.lst false (P.map (odT false false)),.lst o2 (tl.map (tvT false false)),.int l,.lst false (tl.map fun t=>T.dT false (dG bc (mkA t))),.dT true (dG bc (bF bc F ((M.map (mvQ v.2)).take j))),.dT false (dG fS S),.int tn,z7,z8,z9,z10,.int (v.1:Int),.int v.2.1,.int v.2.2,z14]) ⟨_,_,_,rfl⟩ ?_ ?_
  ·rintro j t _ ⟨z8,z9,z14,rfl⟩ ej;obtain⟨m,em,rfl⟩:=aZ ej;walk_at "go";have lc:=dE (ρ:=bc) (l:=F) (r:=(M.map (mvQ v.2)).take j);have ld:=m_ lc (Kx (Md _ _) _);rw[a_]at ld;rw[mP (a:=mvQ v.2 m) (by rw[z_,em];rfl)];exact⟨by rw[pz];lia,_,_,_,by rw[<-pL];rfl⟩
  rintro _ ⟨z8,z9,z14,rfl⟩;have e3:(M.map (mvQ v.2)).take (M.map fun a=>T.tup [T.int a.1,T.int a.2.1,T.int (a.2.2:Int)]).length=M.map (mvQ v.2):=by rw[a_,show M.length=(M.map (mvQ v.2)).length from(a_ ..).symm,y_]
  rw[e3];exact⟨false,_,_,_,_,_,_,rfl⟩
 rintro _ ⟨b,z8,z9,z11,z12,z13,z14,rfl⟩;rw[a_,y_];walk_at "go";exact q
end
noncomputable def rE:FP:=fun ts k=>∃c n o,∃tl:List Tl,∃far cuts most:Int,ts=[stT c n,.lst o (tl.map (tvT false false)),.int far,.int cuts,.int most]/\n<2 ^ 36/\0<tl.length/\tl.length<=5/\0<=far/\far<=15/\0<=cuts/\cuts<=10/\1<=most/\most<=8/\∀(c':Cells) (n':Nat) (P:List Od) (z2:T),n<=n'->n'<=n+9000->OkP tl.length 100 168 P->P.length<=62->P≠[]->k (.lst true (P.map (odT false false))) [stT c' n',.lst o (tl.map (tvT false false)),z2,.int cuts,.int most]
section
variable{P:Oj}{w:Ot}{K:N7}{mg:Str->Option N5}{base:Ou}
theorem qa:FnScope ["_law_state","_law_tools_here","_law_far","_law_cuts","_law_most","_law_program_here","_law_turn","_law_corner","_law_again","_law_places_here"] ["_law_state","_law_tools_here","_law_far","_law_cuts","_law_most"] (ax mO):=⟨rfl,rfl,rfl,by decide +kernel,rfl,by decide +kernel,by decide +kernel⟩
theorem x8(F:Fun K "_law_program" "_law_program" mO f fd)(TX:Txt mg)  (G_take:Cal P w K mg base 1 "_law_take" ["_law_state","_law_many"] (aG K 2 jV))(G_places:Cal P w K mg base 2 "_law_places" ["_law_state","_law_corner","_law_many"] (aG K 3 vF)):FnOk P w K mg base CX0 3 f fd ["_law_state","_law_tools_here","_law_far","_law_cuts","_law_most"] (aG K 5 rE):=by
 refine br F qa [true,true,false,true,true] rfl (fun cdv A outer s H E hr=>?_);have sc:=@qa;refine⟨_,(ai (aA (i:=5) sc.nd (by rfl) (e_ rfl) (by rfl) (bM (ae (aC (ae ge_str (ae (ay G_take hr (by rfl) (aM 0 (ah (aB (au bS (by rfl) TX.len (by decide +kernel) (ae (af 1) ag))) az))) ag))) ag))) (iz (bz (cN (aX (bh hr) (af 2) ge_int (aF _))) (ai (aA (i:=2) sc.nd (by rfl) (e_ rfl) (by rfl) ge_int) (aj (cI (dy 5 ON OO bK (ae (aC (ae ge_str (ae (bR dM (by rfl) TX.tuple (by decide +kernel) (ae (aq hr (ay G_places hr (by rfl) (aM 0 (ah (aB (aC (ae ge_int (ae ge_int ag)))) (ah (ay G_take hr (by rfl) (aM 0 (ah (bq 4) az))) az)))) ge_int) ag)) ag))) ag))))) aQ) (ai (bG OD (by rfl) (d6 (by rfl) TX.range (ae (bq 3) ag)) (av (i:=6) sc.nd (by rfl) (e_ rfl) (by rfl)) (iz (bz (aX (bh hr) (ay G_take hr (by rfl) (aM 0 (ah ge_int az))) ge_int (aF _)) (aj (cI (dy 5 ON OO bK (ae (aC (ae ge_str (ae (ay G_take hr (by rfl) (aM 0 (ah (aB (au bS (by rfl) TX.len (by decide +kernel) (ae (af 1) ag))) az))) ag))) ag)))) aQ) (ai (aA (i:=7) sc.nd (by rfl) (e_ rfl) (by rfl) (aC (ae (ak bA (ay G_take hr (by rfl) (aM 0 (ah (aB (ak aD (ak aK ge_int (af 2)) ge_int)) az))) (bq 2)) (ae (ak bA (ay G_take hr (by rfl) (aM 0 (ah (aB (ak aD (ak aK ge_int (af 2)) ge_int)) az))) (bq 2)) ag)))) (ai (cI (dy 5 ON OO bK (ae (aC (ae ge_str (ae (aq hr (aB (bM (ae ge_str (ae ge_str ag)))) (ay G_take hr (by rfl) (aM 0 (ah ge_int az)))) (ae (aB (aq hr (af 7) ge_int)) (ae (aB (aq hr (af 7) ge_int)) ag))))) ag))) (aj (bG OD (by rfl) (d6 (by rfl) TX.range (ae (ak aD ge_int (ay G_take hr (by rfl) (aM 0 (ah ge_int az)))) ag)) (av (i:=8) sc.nd (by rfl) (e_ rfl) (by rfl)) (iz (bz (wo (xh (cN (aX sF (af 8) ge_int (aF _))) (uj (aX (bh hr) (ay G_take hr (by rfl) (aM 0 (ah ge_int az))) ge_int (aF _))))) (aj (cI (dy 5 ON OO bK (ae (aC (ae ge_str (ae (ay G_take hr (by rfl) (aM 0 (ah (aB (au bS (by rfl) TX.len (by decide +kernel) (ae (af 1) ag))) az))) ag))) ag)))) aQ) (ai (ja (ay G_places hr (by rfl) (aM 0 (ah (bq 7) (ah (ay G_take hr (by rfl) (aM 0 (ah (bq 4) az))) az)))) (eO (n:=2) (by rfl) (aH (av (i:=9) sc.nd (by rfl) (e_ rfl) (by rfl)) (aH (av (i:=7) sc.nd (by rfl) (e_ rfl) (by rfl)) cG)))) (aj (cI (dy 5 ON OO bK (ae (aB (aC (ae ge_str (ae (bR dM (by rfl) TX.tuple (by decide +kernel) (ae (af 9) ag)) ag)))) ag)))))))))))) (aj (aE (p8 5)))))),fun ts kk hl hp=>?_⟩;clear hl;obtain⟨c,n,o,tl,far,cuts,most,rfl,hn,l0,l1,f0,f1,k0,k1,m0,m1,q⟩:=hp;walk_at "go";walk_at "take";intro t0 c1 t1 t2;walk_at "go";obtain⟨t0',rfl⟩:∃j:Nat,t0=(j:Int):=⟨t0.toNat,by lia⟩;have p0:PrO tl.length [.tk t0'] 0 1:=J0 (by lia);refine kl (fun env=>∃(c':Cells) (n':Nat) (P:List Od) (far:Int),n<=n'/\n'<=n+400/\PrO tl.length P 8 2/\(1<=far/\far<=15)/\env=[stT c' n',.lst o (tl.map (tvT false false)),.int far,.int cuts,.int most,.lst true (P.map (odT false false)),.any,.any,.any,.any]) ?_ ?_
 ·walk_at "go";refine aR (fun g=>?_) (fun g=>?_)
  ·walk_at "go";walk_at "take";intro w c2 w1 w2;walk_at "go";refine⟨c2,n+1+1,(0,0),w,rfl,by lia,w1,by lia,fun c3 n3 ps e l3 l4 hps l5 l6 he=>?_⟩;walk_at "go";exact⟨by decide,c3,n3,[.tk t0']++[.ct ps],5,by lia,by lia,qE (.ct ps) p0 (show ps.length+0<=8 by lia) (b_ _) (fun p' m'=>by have:=hps p' m';dsimp only at this;lia),by lia,rfl⟩
  walk_at "go";exact⟨c1,n+1,[.tk t0'],far,by lia,by lia,qP p0 (by decide) (by decide),by lia,rfl⟩
 clear f0 f1 p0 t1 t2 c1;rintro _ ⟨c1,n1,P,far,l2,l3,pr,hf,rfl⟩;walk_at "go";refine⟨by lia,b8 (fun i env=>∃(c':Cells) (n':Nat) (P:List Od) (z6 z7 z8 z9:T),n<=n'/\n'<=n+400+700*i/\PrO tl.length P (8+16*i) (2+6*i)/\env=[stT c' n',.lst o (tl.map (tvT false false)),.int far,.int cuts,.int most,.lst true (P.map (odT false false)),z6,z7,z8,z9]) ⟨c1,n1,P,_,_,_,_,l2,by omega,pr,rfl⟩ ?_ ?_⟩
 ·clear pr P l2 l3 c1 n1;rintro i t _ ⟨c1,n1,P,z6,z7,z8,z9,l2,l3,pr,rfl⟩ ei;have hi:=dW ei;walk_at "go";refine kl (fun env=>∃(c':Cells) (n':Nat) (P:List Od),n<=n'/\n'<=n+402+700*i/\PrO tl.length P (8+16*i) (3+6*i)/\env=[stT c' n',.lst o (tl.map (tvT false false)),.int far,.int cuts,.int most,.lst true (P.map (odT false false)),t,z7,z8,z9]) ?_ ?_
  ·walk_at "go";walk_at "take";intro w c3 w1 w2;walk_at "go";refine aR (fun g=>?_) (fun g=>?_)
   ·walk_at "go";walk_at "take";intro w' c4 w3 w4;walk_at "go";obtain⟨j,rfl⟩:∃j:Nat,w'=(j:Int):=⟨w'.toNat,by lia⟩;have:=pr.2.2.1;exact⟨by lia,c4,n1+1+1,P++[.tk j],by lia,by lia,qE (.tk j) pr (show 0+_<=_ by lia) (by lia) (show j<tl.length by lia),by rw[v_];rfl⟩
   walk_at "go";exact⟨c3,_,P,by lia,by lia,qP pr (by lia) (by lia),rfl⟩
  clear pr P l2 l3 c1 n1;rintro _ ⟨c1,n1,P,l2,l3,pr,rfl⟩;walk_at "go";refine⟨.inl ⟨by decide,by decide⟩,?_⟩;walk_at "take";intro x c2 x1 x2;walk_at "go";refine⟨.inl ⟨by decide,by decide⟩,?_⟩;walk_at "take";intro y c3 y1 y2;walk_at "go";walk_at "take";intro d c4 d1 d2;walk_at "go";obtain⟨hg,eh⟩:=Hx d1 d2;refine aY eh ?_;walk_at "go";have lP:=pr.2.2.1;refine⟨by lia,?_⟩;walk_at "take";intro k c5 e1 e2;walk_at "go";refine⟨by lia,b8 (fun j env=>∃(c':Cells) (n':Nat) (P:List Od) (cr:Pt) (z8 z9:T),n<=n'/\n'<=n+410+700*i+310*j/\PrO tl.length P (8+16*i+8*j) (4+6*i+2*j)/\(-15-8*(j:Int)<=cr.1/\cr.1<=15+8*(j:Int)/\-15-8*(j:Int)<=cr.2/\cr.2<=15+8*(j:Int))/\env=[stT c' n',.lst o (tl.map (tvT false false)),.int far,.int cuts,.int most,.lst true (P.map (odT false false)),t,ptP cr,z8,z9]) ⟨c5,n1+1+1+1+1,P++[.ov hg (x-far) (y-far)],(x-far,y-far),_,_,by lia,by lia,qE (.ov hg (x-far) (y-far)) pr (show 0+_<=_ by lia) (by lia) trivial,by dsimp only;lia,by rw[v_];rfl⟩ ?_ ?_⟩
  ·clear pr lP P l2 l3;rintro j t' _ ⟨c',n',P,cr,z8,z9,l2,l3,pr,hc,rfl⟩ ej;have hj:=dW ej;have et:=js ej;subst et;walk_at "go";refine kl (fun env=>∃(c':Cells) (n':Nat) (P:List Od),n<=n'/\n'<=n+412+700*i+310*j/\PrO tl.length P (8+16*i+8*j) (5+6*i+2*j)/\env=[stT c' n',.lst o (tl.map (tvT false false)),.int far,.int cuts,.int most,.lst true (P.map (odT false false)),t,ptP cr,.int (0+j),z9]) ?_ ?_
   ·walk_at "go";refine aR (fun g=>?_) (fun g=>?_)
    ·walk_at "go";walk_at "take";intro w c7 w1 w2;walk_at "go";refine aR (fun g=>?_) (fun g=>?_)
     ·walk_at "go";walk_at "take";intro w' c8 w3 w4;walk_at "go";obtain⟨j',rfl⟩:∃j:Nat,w'=(j:Int):=⟨w'.toNat,by lia⟩;have lP:=pr.2.2.1;exact⟨by lia,c8,n'+1+1,P++[.tk j'],by lia,by lia,qE (.tk j') pr (show 0+_<=_ by lia) (by lia) (show j'<tl.length by lia),by rw[v_];rfl⟩
     walk_at "go";exact⟨c7,_,P,by lia,by lia,qP pr (by lia) (by lia),rfl⟩
    walk_at "go";exact⟨c',_,P,l2,by lia,qP pr (by lia) (by lia),rfl⟩
   clear pr P l2 l3;rintro _ ⟨c',n',P,l2,l3,pr,rfl⟩;walk_at "go";walk_at "take";intro w c7 w1 w2;walk_at "go";refine⟨c7,n'+1,cr,w,rfl,by lia,w1,by lia,fun c8 n8 ps e l4 l5 hps l6 l7 he=>?_⟩;walk_at "go";have lP:=pr.2.2.1;exact⟨by lia,c8,n8,P++[.ct ps],e,_,_,by lia,by lia,qE (.ct ps) pr (show ps.length+_<=_ by lia) (by lia) (fun p' m'=>by have:=hps p' m';lia),by lia,by rw[v_];rfl⟩
  rintro _ ⟨c',n',P,cr,z8,z9,l2,l3,pr,hc,rfl⟩;rw[bE]at l3 pr;exact⟨c',n',P,_,_,_,_,l2,by lia,qP pr (by lia) (by lia),rfl⟩
 rintro _ ⟨c',n',P,z6,z7,z8,z9,l2,l3,pr,rfl⟩;rw[bE]at l3 pr;walk_at "go";have pr:PrO tl.length P 168 62:=qP pr (by lia) (by lia);exact q c' n' P _ l2 (by lia) (Ir pr (by decide)) pr.2.2.1 (by obtain⟨i,P',rfl⟩:=pr.1;exact K8 _ _)
end
noncomputable def oK:Nat->FP
 |0=>fun _ _=>False
 |n+1=>fun ts k=>(∃a:Int,ts=[.int a,.int a]/\k (.bl true) ts)\/(∃ns:List Int,1<=n/\ts=[iT ns,iT ns]/\ns.length<=1000/\k (.bl true) ts)\/∃(o o':Bool) (rs:List (List Int)),2<=n/\ts=[.lst o (rs.map iT),.lst o' (rs.map iT)]/\rs.length<=3000000/\(∀r∈rs,r.length<=1000)/\∀z1 z2,k (.bl true) [z1,z2]
section
variable{P:Oj}{w:Ot}{K:N7}{mg:Str->Option N5}{base:Ou}
theorem yk:FnScope ["_law_found","_law_due"] ["_law_found","_law_due"] (ax s_same):=⟨rfl,rfl,rfl,by decide +kernel,rfl,by decide +kernel,by decide +kernel⟩
theorem CO(n:Nat)(F:Fun K "_law_same" "_law_same" s_same f fd)(TX:Txt mg)(G_same:Cal P w K mg base (1+n) "_law_same" ["_law_found","_law_due"] (aG K 2 (oK n))):FnOk P w K mg base CX0 (1+(n+1)) f fd ["_law_found","_law_due"] (aG K 2 (oK (n+1))):=by
 refine br (k:=1+n) F yk [true,true] rfl (fun cdv A outer s H E hr=>?_);have sc:=@yk;have nd1:(["_law_one","_law_other"]:List Str).Nodup:=by decide +kernel
 refine⟨_,(ai (bz (cN (aX sM (af 1) nD (aF _))) (aj ot) aQ) (ai (bz (cN (cw (au aN (by rfl) TX.isinstance (by decide +kernel) (ae (af 1) (ae (dN (n:="dict") (by rfl) TX.dict (by decide +kernel)) ag))))) (ai ot (aj ot)) aQ) (ai (bz (cN (wo (uN (cw (au aN (by rfl) TX.isinstance (by decide +kernel) (ae (af 1) (ae (dN (n:="list") (by rfl) TX.list (by decide +kernel)) ag)))) (tD (cw (au aN (by rfl) TX.isinstance (by decide +kernel) (ae (af 1) (ae (dN (n:="tuple") (by rfl) TX.tuple (by decide +kernel)) ag)))))))) (ai (bz (cN (aX (sh hr) (au aN (by rfl) TX.isinstance (by decide +kernel) (ae (af 0) (ae (dN (n:="list") (by rfl) TX.list (by decide +kernel)) ag))) (au aN (by rfl) TX.isinstance (by decide +kernel) (ae (af 1) (ae (dN (n:="list") (by rfl) TX.list (by decide +kernel)) ag))) (aF _))) (aj (aE dF)) aQ) (ai (bz (cN (wo (uN (aX (sh hr) (au aN (by rfl) TX.isinstance (by decide +kernel) (ae (af 0) (ae (dN (n:="tuple") (by rfl) TX.tuple (by decide +kernel)) ag))) (au aN (by rfl) TX.isinstance (by decide +kernel) (ae (af 1) (ae (dN (n:="tuple") (by rfl) TX.tuple (by decide +kernel)) ag))) (aF _)) (tD (aX (sh hr) (au bS (by rfl) TX.len (by decide +kernel) (ae (af 0) ag)) (au bS (by rfl) TX.len (by decide +kernel) (ae (af 1) ag)) (aF _)))))) (aj (aE dF)) aQ) (aj (aE (aB (au (fU rfl) (by rfl) TX.all (by decide +kernel) (ae (bO sc ["_law_one","_law_other"] [none,none] nd1 (by decide +kernel) (AI (by rfl) TX.zip (ae (af 0) (ae (af 1) ag))) (fun _ _ _=>(eO (n:=2) (by rfl) (aH (av (i:=0) nd1 (by rfl) (e_ rfl) (by rfl) (hf:=(r_ rfl))) (aH (av (i:=1) nd1 (by rfl) (e_ rfl) (by rfl) (hf:=(r_ rfl))) cG)))) (fun _ _ _=>bD) (fun _ _ _=>(ay G_same hr (by rfl) (ah (af 0) (ah (af 1) az))))) ag))))))) aQ) (ai (bz (cN (cw (au aN (by rfl) TX.isinstance (by decide +kernel) (ae (af 1) (ae (dN (n:="str") (by rfl) TX.str (by decide +kernel)) ag))))) (aj ot) aQ) (aj (aE (aB (dQ (au aN (by rfl) TX.isinstance (by decide +kernel) (ae (af 0) (ae (dN (n:="int") (by rfl) TX.int (by decide +kernel)) ag))) (dQ (A7 (au aN (by rfl) TX.isinstance (by decide +kernel) (ae (af 0) (ae (dN (n:="bool") (by rfl) TX.bool (by decide +kernel)) ag)))) (kE (dR (bh hr) (af 0) (af 1) (aF _)))))))))))),fun ts kk hl hp=>?_⟩;clear hl;rcases hp with⟨a,rfl,q⟩|⟨ns,hn,rfl,hl,q⟩|⟨o,o',rs,hn,rfl,hl,hrs,q⟩
 ·walk_at "go";exact q
 ·cases n with
  |zero=>exact absurd hn (by decide)
  |succ m=>
  rw[iT]at q ⊢;walk_at "go";refine mI rfl ?_;walk_at "go";refine mI rfl ?_;walk_at "go";rw[NL,F_];refine aW (by rw[a_,sizeLine_eq];lia) (fun i acc ie=>∃z1 z2,acc=(ns.take i).map (fun _=>T.bl true)/\ie=[z1,z2]) ⟨_,_,rfl,rfl⟩ ?_ ?_
  ·rintro i u _ _ ⟨z1,z2,rfl,rfl⟩ ei;obtain⟨x,ex,rfl⟩:=aZ ei;rw[Ub];walk_at "go";refine .inl ⟨x,rfl,?_⟩;walk_at "go";exact⟨_,_,by rw[map_take ex],rfl⟩
  rintro _ _ ⟨z1,z2,rfl,rfl⟩;rw[a_,y_];walk_at "go";refine aY (cD _ _) ?_;walk_at "go";rw[Ko,show ns.all (id ∘ fun _=>true)=true from K5.mpr fun _ _=>rfl];exact q
 cases n with
 |zero=>exact absurd hn (by decide)
 |succ m=>
 walk_at "go";refine mI rfl ?_;walk_at "go";refine mI rfl ?_;walk_at "go";rw[NL,F_];refine aW (by rw[a_,sizeLine_eq];lia) (fun i acc ie=>∃z1 z2,acc=(rs.take i).map (fun _=>T.bl true)/\ie=[z1,z2]) ⟨_,_,rfl,rfl⟩ ?_ ?_
 ·rintro i u _ _ ⟨z1,z2,rfl,rfl⟩ ei;obtain⟨x,ex,rfl⟩:=aZ ei;rw[Ub];walk_at "go";refine .inr (.inl ⟨x,by lia,rfl,hrs x (F' ex),?_⟩);walk_at "go";exact⟨_,_,by rw[map_take ex],rfl⟩
 rintro _ _ ⟨z1,z2,rfl,rfl⟩;rw[a_,y_];walk_at "go";refine aY (cD _ _) ?_;walk_at "go";rw[Ko,show rs.all (id ∘ fun _=>true)=true from K5.mpr fun _ _=>rfl];exact q _ _
end
noncomputable def jP:FP:=fun ts k=>∃(o o2:Bool) (P:List Od) (tl:List Tl) (l:Int),ts=[.lst o (P.map (odT false false)),.lst o2 (tl.map (tvT false false)),.int l]/\OkP tl.length 100 168 P/\(tl.length<=5/\∀t∈tl,tlO t)/\∀z1 z2,k (.bl true) [z1,z2,.int l]
section
variable{P:Oj}{w:Ot}{K:N7}{mg:Str->Option N5}{base:Ou}
theorem jc:FnScope ["_law_program_here","_law_tools_here","_law_layer","_law_found","_law_places_here","_law_octo","_law_met","_law_quarter"] ["_law_program_here","_law_tools_here","_law_layer"] (ax fL):=⟨rfl,rfl,rfl,by decide +kernel,rfl,by decide +kernel,by decide +kernel⟩
theorem pR(F:Fun K "_law_layer_right" "_law_layer_right" fL f fd)(TX:Txt mg)  (G_is_octo:Cal P w K mg base 3 "is_octo" ["thing"] (aG K 1 rR))(G_quarters_in:Cal P w K mg base 3 "quarters_in" ["octo"] (aG K 1 jR))(G_cut_octos:Cal P w K mg base 5 "cut_octos" ["program","tools","layer"] (aG K 3 iY))(G_same:Cal P w K mg base 4 "_law_same" ["_law_found","_law_due"] (aG K 2 (oK 3)))(G_cut:Cal P w K mg base 3 "_law_cut" ["_law_program_here","_law_tools_here","_law_layer"] (aG K 3 Eb)):FnOk P w K mg base CX0 6 f fd ["_law_program_here","_law_tools_here","_law_layer"] (aG K 3 jP):=by
 refine br F jc [true,true,true] rfl (fun cdv A outer s H E hr=>?_);have sc:=@jc;have nd1:(["_law_order"]:List Str).Nodup:=by decide +kernel
 have nd2:(["_law_octo"]:List Str).Nodup:=by decide +kernel
 have nd3:(["_law_octo"]:List Str).Nodup:=by decide +kernel
 refine⟨_,(ai (aA (i:=3) sc.nd (by rfl) (e_ rfl) (by rfl) (aB (ay G_cut_octos hr (by rfl) (ah (af 0) (ah (af 1) (ah (af 2) az)))))) (ai (aA (i:=4) sc.nd (by rfl) (e_ rfl) (by rfl) (aB (au (yY rfl) (by rfl) TX.sum (by decide +kernel) (ae (bO sc ["_law_order"] [none] nd1 (by decide +kernel) (bo (af 0)) (fun _ _ _=>(av (i:=0) nd1 (by rfl) (e_ rfl) (by rfl) (hf:=(r_ rfl)))) (fun _ _ _=>(xD (aX (bh hr) (aq hr (af 0) ge_int) ge_str (aF _)))) (fun _ _ _=>(au bS (by rfl) TX.len (by decide +kernel) (ae (aq hr (af 0) ge_int) ag)))) ag)))) (ai (bz (cN (wo (uN (oH (cw (au aN (by rfl) TX.isinstance (by decide +kernel) (ae (af 3) (ae (dN (n:="list") (by rfl) TX.list (by decide +kernel)) ag))))) (uN (aX sF (au bS (by rfl) TX.len (by decide +kernel) (ae (af 3) ag)) (af 4) (aF _)) (tD (oH (cw (au (fU rfl) (by rfl) TX.all (by decide +kernel) (ae (bO sc ["_law_octo"] [none] nd2 (by decide +kernel) (bo (af 3)) (fun _ _ _=>(av (i:=0) nd2 (by rfl) (e_ rfl) (by rfl) (hf:=(r_ rfl)))) (fun _ _ _=>bD) (fun _ _ _=>(ay G_is_octo hr (by rfl) (ah (af 0) az)))) ag))))))))) (aj (aE dF)) aQ) (ai (bz (cN (wo (uN (oH (cw (au (fU rfl) (by rfl) TX.all (by decide +kernel) (ae (bO sc ["_law_octo"] [none] nd3 (by decide +kernel) (bo (af 3)) (fun _ _ _=>(av (i:=0) nd3 (by rfl) (e_ rfl) (by rfl) (hf:=(r_ rfl)))) (fun _ _ _=>bD) (fun _ _ _=>(au aN (by rfl) TX.isinstance (by decide +kernel) (ae (af 0) (ae (dN (n:="tuple") (by rfl) TX.tuple (by decide +kernel)) ag))))) ag)))) (tD (aX (sh hr) (zF hr (by rfl) (by rfl) TX.len (by rfl) TX.set (af 3)) (au bS (by rfl) TX.len (by decide +kernel) (ae (af 3) ag)) (aF _)))))) (aj (aE dF)) aQ) (ai (aA (i:=6) sc.nd (by rfl) (e_ rfl) (by rfl) (aB qv)) (ai (E4 3 OD (by rfl) (av (i:=5) sc.nd (by rfl) (e_ rfl) (by rfl)) (aj (bG OD (by rfl) (bo (aB (ay G_quarters_in hr (by rfl) (ah (af 5) az)))) (av (i:=7) sc.nd (by rfl) (e_ rfl) (by rfl)) (aj (ja dF (ny (i:=6) hr (bq 7))))))) (ai (cI (BF 3 PySem.F.slot_list_clear PySem.F.type_list_clear zK)) (aj (aE (aB (ay G_same hr (by rfl) (ah (au (mC rfl) (by rfl) TX.sorted (by decide +kernel) (ae (af 6) ag)) (ah (au (mC rfl) (by rfl) TX.sorted (by decide +kernel) (ae (ay G_cut hr (by rfl) (ah (af 0) (ah (af 1) (ah (af 2) az)))) ag)) az))))))))))))),fun ts kk hl hp=>?_⟩;clear hl;obtain⟨o,o2,P,tl,l,rfl,hP,⟨hl,ht⟩,q⟩:=hp;walk_at "go";refine⟨false,false,false,false,false,P,tl,l,100,168,rfl,hP,by decide,fun z0 z1=>?_⟩;walk_at "go";have hP2:=hP.2.1;have lo:=qb (l:=l) (tl:=tl) (P:=P);have hN:=hP.2.2.1;refine aW (by rw[a_,sizeLine_eq];lia) (fun i acc ie=>∃z,acc=((P.take i).filter Br).map (fun o=>T.int (Bx o:Int))/\ie=[z]) ⟨_,rfl,rfl⟩ ?_ ?_
 ·rintro i u _ _ ⟨z,rfl,rfl⟩ ei;obtain⟨od,eo,rfl⟩:=aZ ei;rw[rO eo];cases od with
  |tk j=>rw[tQ];walk_at "go";exact⟨_,(D_ _).symm,rfl⟩
  |ov b x y=>rw[tN];walk_at "go";exact⟨_,(D_ _).symm,rfl⟩
  |ct ps=>
   rw[uh];walk_at "go";exact⟨_,rfl,rfl⟩
 rintro _ _ ⟨z,rfl,rfl⟩;rw[a_,y_];walk_at "go";rw[AV];refine aR (fun g=>absurd g (by lia)) (fun g=>?_);clear g;walk_at "go";have ow:∀x∈dO l tl P,∃r R p q,x=swT (r,R) (p,q)/\(1<=r/\r<R/\R<2*r)/\r<=6/\(-100<=p.1/\p.1<=100/\-100<=p.2/\p.2<=100)/\-100<=q.1/\q.1<=100/\-100<=q.2/\q.2<=100:=fun x mx=>FW hP ht mx;have nd:(dO l tl P).Nodup:=DA;have cu:∀qt:Qt,qt.2.2<4->(inU (dO l tl P) qt↔∃v∈sps l P 0,inL (mkT (tR tl v.1) v.2) qt):=fun qt h4=>Ga (T:=tR tl) (fun o=>uI) (fun v m=>(Em ht (BQ hP v m)).1) h4;generalize dO l tl P=os at *;refine aW (by rw[a_,sizeLine_eq];lia) (fun i acc ie=>∃z,acc=(os.take i).map (fun _=>T.bl true)/\ie=[z]) ⟨_,rfl,rfl⟩ ?_ ?_
 ·rintro i u _ _ ⟨z,rfl,rfl⟩ ei;obtain⟨x,ex,rfl⟩:=aZ ei;obtain⟨r,R,p,q',rfl,h1,_⟩:=ow x (F' ex);walk_at "go";refine⟨r,R,p,q',rfl,h1.1,h1.2.1,h1.2.2,?_⟩;walk_at "go";exact⟨_,by rw[map_take ex],rfl⟩
 rintro _ _ ⟨z,rfl,rfl⟩;rw[a_,y_];walk_at "go";have al:os.all (id ∘ fun _=>true)=true:=K5.mpr fun _ _=>rfl;refine aY (cD _ _) ?_;walk_at "go";rw[Ko,al];walk_at "go";refine aW (by rw[a_,sizeLine_eq];lia) (fun i acc ie=>∃z,acc=(os.take i).map (fun _=>T.bl true)/\ie=[z]) ⟨_,rfl,rfl⟩ ?_ ?_
 ·rintro i u _ _ ⟨z,rfl,rfl⟩ ei;obtain⟨x,ex,rfl⟩:=aZ ei;rw[ocT];walk_at "go";exact⟨_,by rw[map_take ex],rfl⟩
 rintro _ _ ⟨z,rfl,rfl⟩;rw[a_,y_];walk_at "go";refine aY (cD _ _) ?_;walk_at "go";rw[Ko,al];walk_at "go";refine aY (nM ocT ocL Au (fun x=>K8 _ _) os) ?_;refine⟨JX.mpr (nd.imp fun{a b} ne e=>ne (sL _ _ e)),by rw[a_];lia,?_⟩;walk_at "go";have vb:∀x∈os,x.a<=x.b/\bdO x/\rj x=false:=fun x mx=>by obtain⟨r,R,p,q',rfl,h1,h6,hp',hq'⟩:=ow x mx;have bd:=Hr (p:=p) (q:=q') h1.1 h1.2.1 h1.2.2 h6 hp' hq';exact⟨(Ej (w:=(p,q')) h1.1 h1.2.1 h1.2.2).1.1,bd,E5 h1.1 h1.2.1⟩
 have bx:∀L:List Qt,(∀q∈L,∃x∈os,q∈iU x)->(bF bc [] L).length<=2560000:=fun L hL=>DZ (mF fu KA) fun q' mq=>by
  rcases(dI fu).mp mq with h|h
  ·cases h
  obtain⟨x,mx,hx⟩:=hL q' h;exact Ce (vb x mx).1 (vb x mx).2.1 hx
 refine⟨rfl,DO (us:=os.map ocT) (fun i env=>∃z5 z7,env=[.lst o (P.map (odT false false)),.lst o2 (tl.map (tvT false false)),.int l,.any,.int (nPl P:Int),z5,.dT true (dG bc (bF bc [] ((os.take i).flatMap iU))),z7]) rfl ⟨_,_,rfl⟩ ?_ ?_⟩
 ·rintro i t _ ⟨z5,z7,rfl⟩ ei;obtain⟨x,ex,rfl⟩:=aZ ei;have mx:=F' ex;have vx:=vb x mx;walk_at "go";refine⟨x,rfl,vx.2.2,vx.2.1,?_⟩;walk_at "go";have es:(os.take (i+1)).flatMap iU=(os.take i).flatMap iU++iU x:=by rw[JR,ex,K_];exact congrArg _ (D_ _)
  have hA:∀q∈(os.take i).flatMap iU,∃x∈os,q∈iU x:=fun q' h=>by obtain⟨y,my,hy⟩:=K7.mp h;exact⟨y,JF my,hy⟩
  rw[es,show ocN x (x.b-x.a).toNat=iU x from rfl];generalize (os.take i).flatMap iU=F at *;refine b8 (fun j env=>∃z7,env=[.lst o (P.map (odT false false)),.lst o2 (tl.map (tvT false false)),.int l,.any,.int (nPl P:Int),ocT x,.dT true (dG bc (bF bc [] (F++(iU x).take j))),z7]) ⟨_,by rw[NH,D_]⟩ ?_ ?_
  ·rintro j t _ ⟨z7,rfl⟩ ej;obtain⟨y,ey,rfl⟩:=aZ ej;walk_at "go";have lb:=bx (F++(iU x).take j) fun q' h=>(A_.mp h).elim (hA q') fun h=>⟨x,mx,JF h⟩;have ea:bF bc [] (F++(iU x).take (j+1))=md bc (bF bc [] (F++(iU x).take j)) y:=by rw[dC,dC,mP ey]
   rw[ea];exact⟨by rw[pz];lia,_,by rw[<-pL];rfl⟩
  rintro _ ⟨z7,rfl⟩;rw[a_,y_];exact⟨_,_,rfl⟩
 rintro _ hs ⟨z5,z7,rfl⟩ lh;rw[a_,y_];walk_at "go";refine⟨(bF bc [] (os.flatMap iU)).map bc,by unfold dG;rw[F_,F_];rfl,(fun r m=>by obtain⟨_,_,rfl⟩:=t_.mp m;exact K8 _ _),fun n1=>?_⟩;refine⟨false,false,P,tl,l,100,168,rfl,hP,by decide,⟨hl,ht⟩,fun qs hq=>?_⟩;walk_at "go";refine⟨qs.map bc,by unfold dG;rw[F_,F_];rfl,(fun r m=>by obtain⟨_,_,rfl⟩:=t_.mp m;exact K8 _ _),fun n2=>?_⟩;have me:∀q',q'∈bF bc [] (os.flatMap iU)↔q'∈qs:=fun q'=>by
  rw[dI fu,hq.2];constructor
  ·rintro(h|h)
   ·cases h
   obtain⟨x,mx,hx⟩:=K7.mp h;obtain⟨h4,hi⟩:=(tf (vb x mx).1).mp hx;exact⟨h4,(cu q' h4).mp ⟨x,mx,hi⟩⟩
  rintro⟨h4,h⟩;obtain⟨x,mx,hi⟩:=(cu q' h4).mpr h;exact .inr (K7.mpr ⟨x,mx,(tf (vb x mx).1).mpr ⟨h4,hi⟩⟩)
 have pm:(bF bc [] (os.flatMap iU)).Perm qs:=(List.perm_ext_iff_of_nodup (mF fu KA) hq.1).mpr me;have e:pf ((bF bc [] (os.flatMap iU)).map bc)=pf (qs.map bc):=lW ZS.uw ((jK _).trans (pm.map bc)) (jq ZS.uw _);have lq:qs.length<=2560000:=by rw[<-pm.length_eq];exact bx _ fun q' h=>by obtain⟨y,my,hy⟩:=K7.mp h;exact⟨y,my,hy⟩
 rw[e];have ps:(pf (qs.map bc)).Perm (qs.map bc):=jK _;refine .inr (.inr ⟨true,true,pf (qs.map bc),by decide,rfl,by rw[ps.length_eq,a_];lia,fun r mr=>?_,fun z1 z2=>?_⟩)
 ·obtain⟨_,_,rfl⟩:=t_.mp (ps.mem_iff.mp mr);show 3<=1000
  decide
 walk_at "go";exact q _ _
theorem Af:FnScope ["_law_script","_law_state","_law_tools_here","_law_many","_law_program_here","_law_kept","_law_layer","_law_listed","_law_octos"] ["_law_script"] (ax jo):=⟨rfl,rfl,rfl,by decide +kernel,rfl,by decide +kernel,by decide +kernel⟩
theorem ER(F:Fun K "law" "law" jo f fd)(TX:Txt mg)  (G_cut_octos:Cal P w K mg base 5 "cut_octos" ["program","tools","layer"] (aG K 3 iY))(G_begin:Cal P w K mg base 1 "_law_begin" ["_law_script"] (aG K 1 (tM K)))(G_take:Cal P w K mg base 1 "_law_take" ["_law_state","_law_many"] (aG K 2 jV))(G_tools:Cal P w K mg base 3 "_law_tools" ["_law_state","_law_most"] (aG K 2 xY))(G_program:Cal P w K mg base 3 "_law_program" ["_law_state","_law_tools_here","_law_far","_law_cuts","_law_most"] (aG K 5 rE))(G_layer_right:Cal P w K mg base 6 "_law_layer_right" ["_law_program_here","_law_tools_here","_law_layer"] (aG K 3 jP)):FnOk P w K mg base CX0 7 f fd ["_law_script"] (aG K 1 (BC K)):=by
 refine br F Af [true] rfl (fun cdv A outer s H E hr=>?_);have sc:=@Af;have nd1:(["_law_order"]:List Str).Nodup:=by decide +kernel
 have nd2:(["_law_part"]:List Str).Nodup:=by decide +kernel
 have nd3:(["_law_tool_here"]:List Str).Nodup:=by decide +kernel
 refine⟨_,(ai (aA (i:=1) sc.nd (by rfl) (e_ rfl) (by rfl) (aB (ay G_begin hr (by rfl) (ah (af 0) az)))) (ai (aA (i:=2) sc.nd (by rfl) (e_ rfl) (by rfl) (ay G_tools hr (by rfl) (aM 1 (ah ge_int az)))) (iz (aA (i:=3) sc.nd (by rfl) (e_ rfl) (by rfl) (ge_if (aX (bh hr) (ay G_take hr (by rfl) (aM 1 (ah ge_int az))) ge_int (aF _)) (ak aD ge_int (ay G_take hr (by rfl) (aM 1 (ah ge_int az)))) (ak aD ge_int (ay G_take hr (by rfl) (aM 1 (ah ge_int az)))))) (ai (aA (i:=4) sc.nd (by rfl) (e_ rfl) (by rfl) (ay G_program hr (by rfl) (aM 1 (ah (bq 2) (ah (aq hr (aB (bM (ae ge_int (ae ge_int (ae ge_int ag))))) (ay G_take hr (by rfl) (aM 1 (ah ge_int az)))) (ah (bq 3) (ah ge_int az))))))) (ai (aA (i:=5) sc.nd (by rfl) (e_ rfl) (by rfl) (aB (aC (ae (bR iM (by rfl) TX.list (by decide +kernel) (ae (af 4) ag)) (ae (bR iM (by rfl) TX.list (by decide +kernel) (ae (af 2) ag)) ag))))) (ai (bG OD (by rfl) (bo (aC (ae ge_int (ae ge_int (ae (ak aD ge_int (ay G_take hr (by rfl) (aM 1 (ah ge_int az)))) (ae ge_int ag)))))) (av (i:=6) sc.nd (by rfl) (e_ rfl) (by rfl)) (aj (bz (cN (oH (cw (ay G_layer_right hr (by rfl) (ah (af 4) (ah (af 2) (ah (af 6) az))))))) (aj (aE dF)) aQ))) (ai (vM sc (i:=7) ["_law_order"] [none] nd1 (by decide +kernel) (by rfl) (e_ rfl) (by rfl) (bo (af 4)) (fun _ _ _=>(av (i:=0) nd1 (by rfl) (e_ rfl) (by rfl) (hf:=(r_ rfl)))) (fun _ _ _=>bD) (fun _ _ _=>(C7 ["_law_part"] [none] nd2 (by rfl) (by rfl) (by rfl) (bo (af 0)) (fun _ _ _=>(av (i:=0) nd2 (by rfl) (e_ rfl) (by rfl) (hf:=(r_ rfl)))) (fun _ _ _=>bD) (fun _ _ _=>(ge_if (cw (au aN (by rfl) TX.isinstance (by decide +kernel) (ae (af 0) (ae (dN (n:="tuple") (by rfl) TX.tuple (by decide +kernel)) ag)))) (bR iM (by rfl) TX.list (by decide +kernel) (ae (af 0) ag)) (af 0))))) (by rfl)) (ai (aA (i:=8) sc.nd (by rfl) (e_ rfl) (by rfl) (aB (au jO (by rfl) TX.sorted (by decide +kernel) (ae (ay G_cut_octos hr (by rfl) (ah (af 7) (ah (bO sc ["_law_tool_here"] [none] nd3 (by decide +kernel) (bo (af 2)) (fun _ _ _=>(av (i:=0) nd3 (by rfl) (e_ rfl) (by rfl) (hf:=(r_ rfl)))) (fun _ _ _=>bD) (fun _ _ _=>(bR iM (by rfl) TX.list (by decide +kernel) (ae (af 0) ag)))) (ah ge_int az)))) ag)))) (aj (aE (aB (dQ (dR (bh hr) (af 8) (au jO (by rfl) TX.sorted (by decide +kernel) (ae (ay G_cut_octos hr (by rfl) (ah (af 4) (ah (af 2) (ah ge_int az)))) ag)) (aF _)) (kE (dR (bh hr) (aC (ae (af 4) (ae (af 2) ag))) (af 5) (aF _))))))))))))))),fun ts kk hl hp=>?_⟩;clear hl;obtain⟨t,ns,rfl,hs,hn,q⟩:=hp;walk_at "go";obtain⟨e,i⟩:=Fq hs;rw[e];refine⟨i,t,ns,rfl,hs,hn,fun c=>⟨C4,?_⟩⟩;walk_at "go";refine⟨c,0,4,rfl,by decide,by decide,by decide,fun c1 n1 tl l1 l2 l3 l4 ht=>?_⟩;walk_at "go";refine kl (fun env=>∃(c':Cells) (n':Nat) (cu:Int),n'<=n1+2/\(0<=cu/\cu<=10)/\env=[t,stT c' n',.lst true (tl.map (tvT false false)),.int cu,.any,.any,.any,.any,.any]) ?_ ?_
 ·walk_at "go";walk_at "take";intro g c2 g1 g2;walk_at "go";refine aR (fun h=>?_) (fun h=>?_)
  ·walk_at "go";walk_at "take";intro u c3 u1 u2;walk_at "go";exact⟨_,n1+1+1,_,by lia,by lia,rfl⟩
  walk_at "go";walk_at "take";intro u c3 u1 u2;walk_at "go";exact⟨_,n1+1+1,_,by lia,by lia,rfl⟩
 rintro _ ⟨c4,n4,cu,l5,hc,rfl⟩;walk_at "go";walk_at "take";intro fa c5 a1 a2;walk_at "go";obtain⟨far,ef,f0,f1⟩:=fT (fun v=>0<=v/\v<=15) (ns:=[5,15,0]) (i:=fa) a1 a2 (by decide);refine aY ef ?_;walk_at "go";refine⟨c5,n4+1,false,tl,far,cu,6,rfl,by lia,l3,l4,f0,f1,hc.1,hc.2,by decide,by decide,fun c6 n6 P z2 l7 l8 hP lP ne=>?_⟩;walk_at "go";walk_at "take";intro y c7 y1 y2;walk_at "go";refine b8 (fun i env=>∃z6,env=[t,stT c7 (n6+1),.lst false (tl.map (tvT false false)),.int cu,.lst true (P.map (odT false false)),.tup [.lst true (P.map (odT false false)),.lst true (tl.map (tvT false false))],z6,.any,.any]) ⟨_,rfl⟩ ?_ ?_
 ·rintro i u _ ⟨z6,rfl⟩ ei;obtain⟨l,rfl⟩:∃l,u=T.int l:=by have:=F' ei;simp only[o_,JO,or_false]at this;rcases this with h|h|h|h <;> exact⟨_,h⟩
  clear ei;walk_at "go";refine⟨false,false,P,tl,l,rfl,hP,⟨l4,ht⟩,fun z1 z2=>?_⟩;walk_at "go";exact⟨_,rfl⟩
 rintro _ ⟨z6,rfl⟩;walk_at "go";have hN:=hP.2.2.1;have lo:=qb (l:=0) (tl:=tl) (P:=P);refine aW (by rw[a_,sizeLine_eq];lia) (fun i acc ie=>∃z,acc=(P.take i).map (odT true true)/\ie=[z]) ⟨_,rfl,rfl⟩ ?_ ?_
 ·rintro i u _ _ ⟨z,rfl,rfl⟩ ei;obtain⟨od,eo,rfl⟩:=aZ ei;rw[map_take eo];walk_at "go";refine⟨zX,?_⟩;rw[FL];refine aW (by have:=Cn (o:=od);rw[sizeLine_eq];lia) (fun i acc ie=>∃z,acc=((odP od).take i).map lsP/\ie=[z]) ⟨_,rfl,rfl⟩ ?_ ?_
  ·rintro i u _ _ ⟨z,rfl,rfl⟩ ei;rw[map_take ei];rcases B4 (F' ei)with⟨x,rfl⟩|⟨x,rfl⟩|⟨ps,rfl⟩
   ·walk_at "go";exact⟨_,rfl,rfl⟩
   ·walk_at "go";exact⟨_,rfl,rfl⟩
   walk_at "go";exact⟨_,rfl,rfl⟩
  rintro _ _ ⟨z,rfl,rfl⟩;rw[y_];walk_at "go";exact⟨_,by rw[HH],rfl⟩
 rintro _ _ ⟨z,rfl,rfl⟩;rw[a_,y_];walk_at "go";refine⟨K5.mpr fun _ _=>AO,?_⟩;refine aW (by rw[a_,sizeLine_eq];lia) (fun i acc ie=>∃z,acc=(tl.take i).map (tvT true true)/\ie=[z]) ⟨_,rfl,rfl⟩ ?_ ?_
 ·rintro i u _ _ ⟨z,rfl,rfl⟩ ei;obtain⟨tt,et,rfl⟩:=aZ ei;rw[map_take et,show tvT false false tt=.tup [.int tt.1,.int tt.2.1,.int tt.2.2.1,.int tt.2.2.2.1,.int tt.2.2.2.2]from rfl];walk_at "go";exact⟨_,rfl,rfl⟩
 rintro _ _ ⟨z,rfl,rfl⟩;rw[a_,y_];walk_at "go";refine⟨false,true,true,false,true,P,tl,0,100,168,rfl,hP,by decide,fun z0 z1=>?_⟩;walk_at "go";refine C5 ?_;refine⟨by rw[zU],rfl,?_⟩;refine⟨false,false,false,false,false,P,tl,0,100,168,rfl,hP,by decide,fun z0 z1=>?_⟩;walk_at "go";refine C5 ?_;refine y4 rfl yi yi (by decide) ?_;walk_at "go";refine y4 (n:=5) rfl (sP (aP (Be (gx fun _ _=>En)) (aP (Be (gx fun _ _=>Ew)) fy))) (sP (aP (Be (gx fun _ _=>En)) (aP (Be (gx fun _ _=>Ew)) fy))) (by decide) ?_;walk_at "go";exact q _
end
variable {α:Type}
theorem ar0{P:List α->Prop}(h:P []):∀us:List α,us.length=0->P us:=fun us e=>by
 cases us with
 |nil=>exact h
 |cons a r=>cases e
theorem ar1{P:List α->Prop}(h:∀a0,P [a0]):∀us:List α,us.length=1->P us:=fun us e=>by
 cases us with
 |nil=>cases e
 |cons a0 r=>exact ar0 (P:=fun r=>P (a0::r)) (h a0) r (Ks e)
theorem ar2{P:List α->Prop}(h:∀a0 a1,P [a0,a1]):∀us:List α,us.length=2->P us:=fun us e=>by
 cases us with
 |nil=>cases e
 |cons a0 r=>exact ar1 (P:=fun r=>P (a0::r)) (h a0) r (Ks e)
theorem ar3{P:List α->Prop}(h:∀a0 a1 a2,P [a0,a1,a2]):∀us:List α,us.length=3->P us:=fun us e=>by
 cases us with
 |nil=>cases e
 |cons a0 r=>exact ar2 (P:=fun r=>P (a0::r)) (h a0) r (Ks e)
theorem ar4{P:List α->Prop}(h:∀a0 a1 a2 a3,P [a0,a1,a2,a3]):∀us:List α,us.length=4->P us:=fun us e=>by
 cases us with
 |nil=>cases e
 |cons a0 r=>exact ar3 (P:=fun r=>P (a0::r)) (h a0) r (Ks e)
theorem ar5{P:List α->Prop}(h:∀a0 a1 a2 a3 a4,P [a0,a1,a2,a3,a4]):∀us:List α,us.length=5->P us:=fun us e=>by
 cases us with
 |nil=>cases e
 |cons a0 r=>exact ar4 (P:=fun r=>P (a0::r)) (h a0) r (Ks e)
theorem ar6{P:List α->Prop}(h:∀a0 a1 a2 a3 a4 a5,P [a0,a1,a2,a3,a4,a5]):∀us:List α,us.length=6->P us:=fun us e=>by
 cases us with
 |nil=>cases e
 |cons a0 r=>exact ar5 (P:=fun r=>P (a0::r)) (h a0) r (Ks e)
theorem ar7{P:List α->Prop}(h:∀a0 a1 a2 a3 a4 a5 a6,P [a0,a1,a2,a3,a4,a5,a6]):∀us:List α,us.length=7->P us:=fun us e=>by
 cases us with
 |nil=>cases e
 |cons a0 r=>exact ar6 (P:=fun r=>P (a0::r)) (h a0) r (Ks e)
theorem ar8{P:List α->Prop}(h:∀a0 a1 a2 a3 a4 a5 a6 a7,P [a0,a1,a2,a3,a4,a5,a6,a7]):∀us:List α,us.length=8->P us:=fun us e=>by
 cases us with
 |nil=>cases e
 |cons a0 r=>exact ar7 (P:=fun r=>P (a0::r)) (h a0) r (Ks e)
theorem walk{l:RH}{q:Oj}{loose:List Str}{XP:(Str->Option N5)->Ou->Prop}{YP:Ot->Ou->Prop}{d:DefRec}{K:Rw->N7}(hn:l.most=some 63)(hdf:d.params.defaults=[])
  (hY:∀(w:Ot) (h:Ou),YP w h->(K w.params).In h)
  (F:∀(w:Ot) (mg:Str->Option N5) (fa:N8) (h:Ou),(K w.params).In h->h.Ns OW mg->mg d.name=some (.ref fa)->
   ∃fd:OA,(∀(s:N9) (u:N5),RT s fd ⟨[u],[]⟩ [("_law_script",u)])/\∀base:Ou,(K w.params).In base->base.Ns OW mg->FnOk l.prog w (K w.params) mg base CX0 7 fa fd ["_law_script"] (yK (K w.params))) :
  T3 q loose XP YP l.row.toRowW d [] (fun f vs=>Tc f vs):=
 L2.CV (n:=63) (k:=7) (x:="_law_script") (CX:=fun _=>CX0) (sp:=fun w=>yK (K w.params)) hn (by decide) hdf ⟨rfl,by decide,by decide,rfl⟩ hY F (fun _ _ a ns hl _ hS=>⟨a,ns,rfl,hS,hl,fun _=>rfl⟩) fun _ _ _ _ _ z=>z
noncomputable def kd(P:Rw) (x:Str) (t:Tok) (v:N5):PX:=⟨PyData.keyHash P x,.str x t,v⟩
noncomputable def kf(n:Str) (s:OF) (m:N5) (c:N8):Obj:=⟨.type "function",none,.func (PD n n (fC s) (dA s) (ax s) .none .none .none m none (.ref c) .none),#[]⟩
noncomputable def KK(P:Rw):N7:=[(3,⟨.type "dict",none,.dict #[kd P "__name__" 165 (.str "law_millpath_k54_octos_of_programs" 413),kd P "__doc__" 166 (.none),kd P "__package__" 167 (.none),kd P "__loader__" 168 (.builtin "__main__.__loader__#opaque"),kd P "__spec__" 169 (.none),kd P "__annotations__" 170 (.ref 6),kd P "__builtins__" 171 (.ref 4),kd P "__file__" 173 (.str "/claim/cut.py" 172),kd P "__cached__" 174 (.none),kd P "STEPS" 211 (.ref 23),kd P "INNER" 220 (.ref 28),kd P "stepped" 230 (.ref 35),kd P "straight" 240 (.ref 42),kd P "inner_point" 248 (.ref 49),kd P "is_number" 257 (.ref 56),kd P "is_row" 264 (.ref 63),kd P "are_numbers" 270 (.ref 68),kd P "octo_of" 278 (.ref 73),kd P "is_octo" 285 (.ref 80),kd P "all_met" 299 (.ref 87),kd P "ends_met" 314 (.ref 94),kd P "added" 320 (.ref 99),kd P "moved" 328 (.ref 106),kd P "quarters_in" 334 (.ref 111),kd P "is_flat" 341 (.ref 118),kd P "holds" 352 (.ref 125),kd P "mark_of" 364 (.ref 132),kd P "swept" 373 (.ref 139),kd P "cut_octos" 389 (.ref 146),kd P "ways_at" 402 (.ref 153),kd P "goes_on" 412 (.ref 160),kd P "_law_begin" 422 (.ref 167),kd P "_law_take" 435 (.ref 174),kd P "_law_tool" 445 (.ref 181),kd P "_law_mark" 457 (.ref 188),kd P "_law_in_mark" 463 (.ref 193),kd P "_law_same" 469 (.ref 198),kd P "_law_tools" 475 (.ref 203),kd P "_law_places" 491 (.ref 210),kd P "_law_program" 507 (.ref 217),kd P "_law_cut" 513 (.ref 222),kd P "_law_layer_right" 519 (.ref 227),kd P "law" 525 (.ref 232)] 43,#[]⟩),(35,kf "stepped" nz (.str "millpath.corners" 187) 34),(34,⟨.type "code",none,.fields #[.str "stepped" 221,.str "stepped" 222,.str "/claim/cut.py" 223,.int (4) 0,.int (3) 0,.int (0) 0,.int (0) 0,.int (3) 0,.ref 29,.bool true,.int (181) 0,.ref 30,.none,.ref 31,.ref 32,.ref 33,.int (228) 0,.int (4) 0,.str "/claim/cut.py" 229],#[]⟩),(42,kf "straight" jT (.str "millpath.corners" 187) 41),(41,⟨.type "code",none,.fields #[.str "straight" 231,.str "straight" 232,.str "/claim/cut.py" 233,.int (7) 0,.int (2) 0,.int (0) 0,.int (0) 0,.int (3) 0,.ref 36,.bool true,.int (181) 0,.ref 37,.none,.ref 38,.ref 39,.ref 40,.int (238) 0,.int (7) 0,.str "/claim/cut.py" 239],#[]⟩),(49,kf "inner_point" fG (.str "millpath.corners" 187) 48),(48,⟨.type "code",none,.fields #[.str "inner_point" 241,.str "inner_point" 242,.str "/claim/cut.py" 243,.int (15) 0,.int (1) 0,.int (0) 0,.int (0) 0,.int (3) 0,.ref 43,.bool true,.int (181) 0,.ref 44,.none,.ref 45,.ref 46,.ref 47,.int (246) 0,.int (15) 0,.str "/claim/cut.py" 247],#[]⟩),(56,kf "is_number" jt (.str "millpath.kinds" 249) 55),(55,⟨.type "code",none,.fields #[.str "is_number" 251,.str "is_number" 252,.str "/claim/cut.py" 253,.int (19) 0,.int (1) 0,.int (0) 0,.int (0) 0,.int (3) 0,.ref 50,.bool true,.int (181) 0,.ref 51,.none,.ref 52,.ref 53,.ref 54,.int (255) 0,.int (19) 0,.str "/claim/cut.py" 256],#[]⟩),(63,kf "is_row" pT (.str "millpath.kinds" 249) 62),(62,⟨.type "code",none,.fields #[.str "is_row" 258,.str "is_row" 259,.str "/claim/cut.py" 260,.int (21) 0,.int (1) 0,.int (0) 0,.int (0) 0,.int (3) 0,.ref 57,.bool true,.int (181) 0,.ref 58,.none,.ref 59,.ref 60,.ref 61,.int (262) 0,.int (21) 0,.str "/claim/cut.py" 263],#[]⟩),(68,kf "are_numbers" fJ (.str "millpath.kinds" 249) 67),(67,⟨.type "code",none,.fields #[.str "are_numbers" 265,.str "are_numbers" 266,.str "/claim/cut.py" 267,.int (23) 0,.int (2) 0,.int (0) 0,.int (0) 0,.int (3) 0,.ref 64,.bool true,.int (181) 0,.ref 65,.none,.none,.none,.ref 66,.int (268) 0,.int (23) 0,.str "/claim/cut.py" 269],#[]⟩),(73,kf "octo_of" nA (.str "millpath.octos" 271) 72),(72,⟨.type "code",none,.fields #[.str "octo_of" 273,.str "octo_of" 274,.str "/claim/cut.py" 275,.int (26) 0,.int (1) 0,.int (0) 0,.int (0) 0,.int (3) 0,.ref 69,.bool true,.int (181) 0,.ref 70,.none,.none,.none,.ref 71,.int (276) 0,.int (26) 0,.str "/claim/cut.py" 277],#[]⟩),(80,kf "is_octo" nK (.str "millpath.octos" 271) 79),(79,⟨.type "code",none,.fields #[.str "is_octo" 279,.str "is_octo" 280,.str "/claim/cut.py" 281,.int (32) 0,.int (1) 0,.int (0) 0,.int (0) 0,.int (3) 0,.ref 74,.bool true,.int (181) 0,.ref 75,.none,.ref 76,.ref 77,.ref 78,.int (283) 0,.int (32) 0,.str "/claim/cut.py" 284],#[]⟩),(87,kf "all_met" n9 (.str "millpath.octos" 271) 86),(86,⟨.type "code",none,.fields #[.str "all_met" 286,.str "all_met" 287,.str "/claim/cut.py" 288,.int (36) 0,.int (8) 0,.int (0) 0,.int (0) 0,.int (3) 0,.ref 81,.bool true,.int (181) 0,.ref 82,.none,.ref 83,.ref 84,.ref 85,.int (297) 0,.int (36) 0,.str "/claim/cut.py" 298],#[]⟩),(94,kf "ends_met" kP (.str "millpath.octos" 271) 93),(93,⟨.type "code",none,.fields #[.str "ends_met" 300,.str "ends_met" 301,.str "/claim/cut.py" 302,.int (38) 0,.int (8) 0,.int (0) 0,.int (0) 0,.int (3) 0,.ref 88,.bool true,.int (181) 0,.ref 89,.none,.ref 90,.ref 91,.ref 92,.int (312) 0,.int (38) 0,.str "/claim/cut.py" 313],#[]⟩),(99,kf "added" tE (.str "millpath.octos" 271) 98),(98,⟨.type "code",none,.fields #[.str "added" 315,.str "added" 316,.str "/claim/cut.py" 317,.int (43) 0,.int (2) 0,.int (0) 0,.int (0) 0,.int (3) 0,.ref 95,.bool true,.int (181) 0,.ref 96,.none,.none,.none,.ref 97,.int (318) 0,.int (43) 0,.str "/claim/cut.py" 319],#[]⟩),(106,kf "moved" tW (.str "millpath.octos" 271) 105),(105,⟨.type "code",none,.fields #[.str "moved" 321,.str "moved" 322,.str "/claim/cut.py" 323,.int (45) 0,.int (2) 0,.int (0) 0,.int (0) 0,.int (3) 0,.ref 100,.bool true,.int (181) 0,.ref 101,.none,.ref 102,.ref 103,.ref 104,.int (326) 0,.int (45) 0,.str "/claim/cut.py" 327],#[]⟩),(111,kf "quarters_in" fF (.str "millpath.octos" 271) 110),(110,⟨.type "code",none,.fields #[.str "quarters_in" 329,.str "quarters_in" 330,.str "/claim/cut.py" 331,.int (47) 0,.int (1) 0,.int (0) 0,.int (0) 0,.int (3) 0,.ref 107,.bool true,.int (181) 0,.ref 108,.none,.none,.none,.ref 109,.int (332) 0,.int (47) 0,.str "/claim/cut.py" 333],#[]⟩),(118,kf "is_flat" mS (.str "millpath.octos" 271) 117),(117,⟨.type "code",none,.fields #[.str "is_flat" 335,.str "is_flat" 336,.str "/claim/cut.py" 337,.int (57) 0,.int (1) 0,.int (0) 0,.int (0) 0,.int (3) 0,.ref 112,.bool true,.int (181) 0,.ref 113,.none,.ref 114,.ref 115,.ref 116,.int (339) 0,.int (57) 0,.str "/claim/cut.py" 340],#[]⟩),(125,kf "holds" sg (.str "millpath.octos" 271) 124),(124,⟨.type "code",none,.fields #[.str "holds" 342,.str "holds" 343,.str "/claim/cut.py" 344,.int (59) 0,.int (2) 0,.int (0) 0,.int (0) 0,.int (3) 0,.ref 119,.bool true,.int (181) 0,.ref 120,.none,.ref 121,.ref 122,.ref 123,.int (350) 0,.int (59) 0,.str "/claim/cut.py" 351],#[]⟩),(132,kf "mark_of" ni (.str "millpath.tools" 353) 131),(131,⟨.type "code",none,.fields #[.str "mark_of" 355,.str "mark_of" 356,.str "/claim/cut.py" 357,.int (65) 0,.int (2) 0,.int (0) 0,.int (0) 0,.int (3) 0,.ref 126,.bool true,.int (181) 0,.ref 127,.none,.ref 128,.ref 129,.ref 130,.int (362) 0,.int (65) 0,.str "/claim/cut.py" 363],#[]⟩),(139,kf "swept" sJ (.str "millpath.tools" 353) 138),(138,⟨.type "code",none,.fields #[.str "swept" 365,.str "swept" 366,.str "/claim/cut.py" 367,.int (69) 0,.int (3) 0,.int (0) 0,.int (0) 0,.int (3) 0,.ref 133,.bool true,.int (181) 0,.ref 134,.none,.ref 135,.ref 136,.ref 137,.int (371) 0,.int (69) 0,.str "/claim/cut.py" 372],#[]⟩),(146,kf "cut_octos" j8 (.str "millpath.areas" 374) 145),(145,⟨.type "code",none,.fields #[.str "cut_octos" 376,.str "cut_octos" 377,.str "/claim/cut.py" 378,.int (72) 0,.int (3) 0,.int (0) 0,.int (0) 0,.int (3) 0,.ref 140,.bool true,.int (181) 0,.ref 141,.none,.ref 142,.ref 143,.ref 144,.int (387) 0,.int (72) 0,.str "/claim/cut.py" 388],#[]⟩),(153,kf "ways_at" mT (.str "millpath.areas" 374) 152),(152,⟨.type "code",none,.fields #[.str "ways_at" 390,.str "ways_at" 391,.str "/claim/cut.py" 392,.int (82) 0,.int (2) 0,.int (0) 0,.int (0) 0,.int (3) 0,.ref 147,.bool true,.int (181) 0,.ref 148,.none,.ref 149,.ref 150,.ref 151,.int (400) 0,.int (82) 0,.str "/claim/cut.py" 401],#[]⟩),(160,kf "goes_on" nI (.str "millpath.areas" 374) 159),(159,⟨.type "code",none,.fields #[.str "goes_on" 403,.str "goes_on" 404,.str "/claim/cut.py" 405,.int (94) 0,.int (2) 0,.int (0) 0,.int (0) 0,.int (3) 0,.ref 154,.bool true,.int (181) 0,.ref 155,.none,.ref 156,.ref 157,.ref 158,.int (410) 0,.int (94) 0,.str "/claim/cut.py" 411],#[]⟩),(167,kf "_law_begin" oD (.str "law_millpath_k54_octos_of_programs" 413) 166),(166,⟨.type "code",none,.fields #[.str "_law_begin" 415,.str "_law_begin" 416,.str "/claim/cut.py" 417,.int (103) 0,.int (1) 0,.int (0) 0,.int (0) 0,.int (3) 0,.ref 161,.bool true,.int (181) 0,.ref 162,.none,.ref 163,.ref 164,.ref 165,.int (420) 0,.int (103) 0,.str "/claim/cut.py" 421],#[]⟩),(174,kf "_law_take" tL (.str "law_millpath_k54_octos_of_programs" 413) 173),(173,⟨.type "code",none,.fields #[.str "_law_take" 423,.str "_law_take" 424,.str "/claim/cut.py" 425,.int (108) 0,.int (2) 0,.int (0) 0,.int (0) 0,.int (3) 0,.ref 168,.bool true,.int (181) 0,.ref 169,.none,.ref 170,.ref 171,.ref 172,.int (433) 0,.int (108) 0,.str "/claim/cut.py" 434],#[]⟩),(181,kf "_law_tool" wL (.str "law_millpath_k54_octos_of_programs" 413) 180),(180,⟨.type "code",none,.fields #[.str "_law_tool" 436,.str "_law_tool" 437,.str "/claim/cut.py" 438,.int (119) 0,.int (2) 0,.int (0) 0,.int (0) 0,.int (3) 0,.ref 175,.bool true,.int (181) 0,.ref 176,.none,.ref 177,.ref 178,.ref 179,.int (443) 0,.int (119) 0,.str "/claim/cut.py" 444],#[]⟩),(188,kf "_law_mark" wj (.str "law_millpath_k54_octos_of_programs" 413) 187),(187,⟨.type "code",none,.fields #[.str "_law_mark" 446,.str "_law_mark" 447,.str "/claim/cut.py" 448,.int (123) 0,.int (2) 0,.int (0) 0,.int (0) 0,.int (3) 0,.ref 182,.bool true,.int (181) 0,.ref 183,.none,.ref 184,.ref 185,.ref 186,.int (455) 0,.int (123) 0,.str "/claim/cut.py" 456],#[]⟩),(193,kf "_law_in_mark" nH (.str "law_millpath_k54_octos_of_programs" 413) 192),(192,⟨.type "code",none,.fields #[.str "_law_in_mark" 458,.str "_law_in_mark" 459,.str "/claim/cut.py" 460,.int (131) 0,.int (4) 0,.int (0) 0,.int (0) 0,.int (3) 0,.ref 189,.bool true,.int (181) 0,.ref 190,.none,.none,.none,.ref 191,.int (461) 0,.int (131) 0,.str "/claim/cut.py" 462],#[]⟩),(198,kf "_law_same" s_same (.str "law_millpath_k54_octos_of_programs" 413) 197),(197,⟨.type "code",none,.fields #[.str "_law_same" 464,.str "_law_same" 465,.str "/claim/cut.py" 466,.int (135) 0,.int (2) 0,.int (0) 0,.int (0) 0,.int (3) 0,.ref 194,.bool true,.int (181) 0,.ref 195,.none,.none,.none,.ref 196,.int (467) 0,.int (135) 0,.str "/claim/cut.py" 468],#[]⟩),(203,kf "_law_tools" sZ (.str "law_millpath_k54_octos_of_programs" 413) 202),(202,⟨.type "code",none,.fields #[.str "_law_tools" 470,.str "_law_tools" 471,.str "/claim/cut.py" 472,.int (151) 0,.int (2) 0,.int (0) 0,.int (0) 0,.int (3) 0,.ref 199,.bool true,.int (181) 0,.ref 200,.none,.none,.none,.ref 201,.int (473) 0,.int (151) 0,.str "/claim/cut.py" 474],#[]⟩),(210,kf "_law_places" oZ (.str "law_millpath_k54_octos_of_programs" 413) 209),(209,⟨.type "code",none,.fields #[.str "_law_places" 476,.str "_law_places" 477,.str "/claim/cut.py" 478,.int (153) 0,.int (3) 0,.int (0) 0,.int (0) 0,.int (3) 0,.ref 204,.bool true,.int (181) 0,.ref 205,.none,.ref 206,.ref 207,.ref 208,.int (489) 0,.int (153) 0,.str "/claim/cut.py" 490],#[]⟩),(217,kf "_law_program" mO (.str "law_millpath_k54_octos_of_programs" 413) 216),(216,⟨.type "code",none,.fields #[.str "_law_program" 492,.str "_law_program" 493,.str "/claim/cut.py" 494,.int (170) 0,.int (5) 0,.int (0) 0,.int (0) 0,.int (3) 0,.ref 211,.bool true,.int (181) 0,.ref 212,.none,.ref 213,.ref 214,.ref 215,.int (505) 0,.int (170) 0,.str "/claim/cut.py" 506],#[]⟩),(222,kf "_law_cut" Ad (.str "law_millpath_k54_octos_of_programs" 413) 221),(221,⟨.type "code",none,.fields #[.str "_law_cut" 508,.str "_law_cut" 509,.str "/claim/cut.py" 510,.int (186) 0,.int (3) 0,.int (0) 0,.int (0) 0,.int (3) 0,.ref 218,.bool true,.int (181) 0,.ref 219,.none,.none,.none,.ref 220,.int (511) 0,.int (186) 0,.str "/claim/cut.py" 512],#[]⟩),(227,kf "_law_layer_right" fL (.str "law_millpath_k54_octos_of_programs" 413) 226),(226,⟨.type "code",none,.fields #[.str "_law_layer_right" 514,.str "_law_layer_right" 515,.str "/claim/cut.py" 516,.int (202) 0,.int (3) 0,.int (0) 0,.int (0) 0,.int (3) 0,.ref 223,.bool true,.int (181) 0,.ref 224,.none,.none,.none,.ref 225,.int (517) 0,.int (202) 0,.str "/claim/cut.py" 518],#[]⟩),(232,kf "law" jo (.str "law_millpath_k54_octos_of_programs" 413) 231),(231,⟨.type "code",none,.fields #[.str "law" 520,.str "law" 521,.str "/claim/cut.py" 522,.int (215) 0,.int (1) 0,.int (0) 0,.int (0) 0,.int (3) 0,.ref 228,.bool true,.int (181) 0,.ref 229,.none,.none,.none,.ref 230,.int (523) 0,.int (215) 0,.str "/claim/cut.py" 524],#[]⟩),(23,⟨.type "tuple",none,.seq #[.ref 15,.ref 16,.ref 17,.ref 18,.ref 19,.ref 20,.ref 21,.ref 22] 0,#[]⟩),(15,⟨.type "tuple",none,.seq #[.int (1) 189,.int (0) 190] 0,#[]⟩),(16,⟨.type "tuple",none,.seq #[.int (1) 191,.int (1) 192] 0,#[]⟩),(17,⟨.type "tuple",none,.seq #[.int (0) 193,.int (1) 194] 0,#[]⟩),(18,⟨.type "tuple",none,.seq #[.int (-1) 196,.int (1) 197] 0,#[]⟩),(19,⟨.type "tuple",none,.seq #[.int (-1) 199,.int (0) 200] 0,#[]⟩),(20,⟨.type "tuple",none,.seq #[.int (-1) 202,.int (-1) 204] 0,#[]⟩),(21,⟨.type "tuple",none,.seq #[.int (0) 205,.int (-1) 207] 0,#[]⟩),(22,⟨.type "tuple",none,.seq #[.int (1) 208,.int (-1) 210] 0,#[]⟩),(28,⟨.type "tuple",none,.seq #[.ref 24,.ref 25,.ref 26,.ref 27] 0,#[]⟩),(24,⟨.type "tuple",none,.seq #[.int (3) 212,.int (2) 213] 0,#[]⟩),(25,⟨.type "tuple",none,.seq #[.int (2) 214,.int (3) 215] 0,#[]⟩),(26,⟨.type "tuple",none,.seq #[.int (1) 216,.int (2) 217] 0,#[]⟩),(27,⟨.type "tuple",none,.seq #[.int (2) 218,.int (1) 219] 0,#[]⟩)]
noncomputable def kas:List N8:=[3,35,34,42,41,49,48,56,55,63,62,68,67,73,72,80,79,87,86,94,93,99,98,106,105,111,110,118,117,125,124,132,131,139,138,146,145,153,152,160,159,167,166,174,173,181,180,188,187,193,192,198,197,203,202,210,209,217,216,222,221,227,226,232,231,23,15,16,17,18,19,20,21,22,28,24,25,26,27]
theorem wW(P:Rw):kas=(KK P).map (·.1):=by kernel_rfl
noncomputable def VW:Oj:=PySem.W.view PySem.Challenge.pw_millpath_k54_octos_of_programs [1,2,3,4,5,7,8,9,11,12,13,14,15,16,17,18,19,21,22,24,25,26,28,29,30,31,32,33,34,35,36,37,38,39]
def Gv(s:OF):Pos:=match s with
 | .FunctionDef _ _ _ _ _ _ _ _ _ p=>p
 | _=>⟨0,0,0,0⟩
variable {mg:Str->Option N5}
theorem dfn{h:Ou}{P:Rw}{x:Str}{st:OF}{ps:List Str}(X:(KK P).In h)(G:h.Ns OW mg)(f c:N8)(m:N5)(l:(KK P).lookup f=some (kf x st m c):=by kernel_rfl)(a:QV (KK P) OW x=some (some (.ref f)):=by kernel_rfl)(cd:QY (KK P) (.ref c) x=true:=by kernel_rfl)(kp:Qu (KK P) (.ref f)=true:=by kernel_rfl)
  (hb:∀(kV doc pm:N5) (an:Option N8) (cdv ct:N5) (us:List N5),us.length=ps.length->Ue (PD x x (fC st) (dA st) (ax st) .none kV doc pm an cdv ct) ⟨us,[]⟩=pure (ps.zip us):=by intro _ _ _ _ _ _ us;revert us;first|(apply ar1;intros;rfl)|(apply ar2;intros;rfl)|(apply ar3;intros;rfl)|(apply ar4;intros;rfl)|(apply ar5;intros;rfl)|(apply ar8;intros;rfl)):Dfn (KK P) mg x st ps:=⟨f,_,wO (st:=st) l cd kp,Ri X G a,(wO (st:=st) l cd kp).binds hb⟩
def mo0:N5:=.str "millpath.corners" 187
def mo1:N5:=.str "millpath.kinds" 249
def mo2:N5:=.str "millpath.octos" 271
def mo3:N5:=.str "millpath.tools" 353
def mo4:N5:=.str "millpath.areas" 374
def mo5:N5:=.str "law_millpath_k54_octos_of_programs" 413
set_option maxHeartbeats 0 in
theorem all_mk{l:RH}{w:Ot}{h:Ou}{fa:N8}(X:(KK w.params).In h)(G:h.Ns OW mg)(hfa:mg "law"=some (.ref fa)):∃fd:OA,(∀(s:N9) (v:N5),RT s fd ⟨[v],[]⟩ [("_law_script",v)])/\∀base:Ou,(KK w.params).In base->base.Ns OW mg->FnOk l.prog w (KK w.params) mg base CX0 7 fa fd ["_law_script"] (yK (KK w.params)):=by
 have e:=hfa.symm.trans (Ri X G (show QV (KK w.params) OW "law"=some (some (.ref 232)) by kernel_rfl));cases e;have z:∀{x:Str},QV (KK w.params) OW x=some none->mg x=none:=fun h=>PySem.W.mg_none_of X G h;have T:Txt mg:=⟨z (by kernel_rfl),z (by kernel_rfl),z (by kernel_rfl),z (by kernel_rfl),z (by kernel_rfl),z (by kernel_rfl),z (by kernel_rfl),z (by kernel_rfl),z (by kernel_rfl),z (by kernel_rfl),z (by kernel_rfl),z (by kernel_rfl),z (by kernel_rfl),z (by kernel_rfl),z (by kernel_rfl),z (by kernel_rfl),z (by kernel_rfl),z (by kernel_rfl),z (by kernel_rfl),z (by kernel_rfl),z (by kernel_rfl)⟩;have F:=wO (st:=jo) (K:=KK w.params) (x:="law") (qual:="law") (f:=232) (oc:=.type "function") (od:=none) (an:=none) (osl:=#[]) (kV:=.none) (doc:=.none) (pm:=mo5) (cdv:=.ref 231) (ct:=.none) (by kernel_rfl) (by kernel_rfl) (by kernel_rfl);refine⟨PD "law" "law" (fC jo) (dA jo) (ax jo) .none .none .none mo5 none (.ref 231) .none,fun s v=>.of_eq rfl,fun base _ _=>?_⟩;have cl1:(KK w.params).lookup 23=some ⟨.type "tuple",none,.seq #[.ref 15,.ref 16,.ref 17,.ref 18,.ref 19,.ref 20,.ref 21,.ref 22] 0,#[]⟩:=by kernel_rfl
 have cl2:(KK w.params).lookup 15=some ⟨.type "tuple",none,.seq #[.int (1) 189,.int (0) 190] 0,#[]⟩:=by kernel_rfl
 have cl3:(KK w.params).lookup 16=some ⟨.type "tuple",none,.seq #[.int (1) 191,.int (1) 192] 0,#[]⟩:=by kernel_rfl
 have cl4:(KK w.params).lookup 17=some ⟨.type "tuple",none,.seq #[.int (0) 193,.int (1) 194] 0,#[]⟩:=by kernel_rfl
 have cl5:(KK w.params).lookup 18=some ⟨.type "tuple",none,.seq #[.int (-1) 196,.int (1) 197] 0,#[]⟩:=by kernel_rfl
 have cl6:(KK w.params).lookup 19=some ⟨.type "tuple",none,.seq #[.int (-1) 199,.int (0) 200] 0,#[]⟩:=by kernel_rfl
 have cl7:(KK w.params).lookup 20=some ⟨.type "tuple",none,.seq #[.int (-1) 202,.int (-1) 204] 0,#[]⟩:=by kernel_rfl
 have cl8:(KK w.params).lookup 21=some ⟨.type "tuple",none,.seq #[.int (0) 205,.int (-1) 207] 0,#[]⟩:=by kernel_rfl
 have cl9:(KK w.params).lookup 22=some ⟨.type "tuple",none,.seq #[.int (1) 208,.int (-1) 210] 0,#[]⟩:=by kernel_rfl
 have cl10:(KK w.params).lookup 28=some ⟨.type "tuple",none,.seq #[.ref 24,.ref 25,.ref 26,.ref 27] 0,#[]⟩:=by kernel_rfl
 have cl11:(KK w.params).lookup 24=some ⟨.type "tuple",none,.seq #[.int (3) 212,.int (2) 213] 0,#[]⟩:=by kernel_rfl
 have cl12:(KK w.params).lookup 25=some ⟨.type "tuple",none,.seq #[.int (2) 214,.int (3) 215] 0,#[]⟩:=by kernel_rfl
 have cl13:(KK w.params).lookup 26=some ⟨.type "tuple",none,.seq #[.int (1) 216,.int (2) 217] 0,#[]⟩:=by kernel_rfl
 have cl14:(KK w.params).lookup 27=some ⟨.type "tuple",none,.seq #[.int (2) 218,.int (1) 219] 0,#[]⟩:=by kernel_rfl
 have gt_STEPS:QV (KK w.params) OW "STEPS"=some (some (.ref 23)):=by kernel_rfl
 have gt_INNER:QV (KK w.params) OW "INNER"=some (some (.ref 28)):=by kernel_rfl
 have C_STEPS:Glb (KK w.params) mg "STEPS" tU:=⟨.ref 23,_,Ri X G gt_STEPS,rfl,fun _ _=>(.cst (.inr ⟨_,_,0,cl1,rfl,rfl,(by show 8<=sizeLine;decide),(.cons (show RelV (.ref 15) (.ref 15)from rfl) (.cons (show RelV (.ref 16) (.ref 16)from rfl) (.cons (show RelV (.ref 17) (.ref 17)from rfl) (.cons (show RelV (.ref 18) (.ref 18)from rfl) (.cons (show RelV (.ref 19) (.ref 19)from rfl) (.cons (show RelV (.ref 20) (.ref 20)from rfl) (.cons (show RelV (.ref 21) (.ref 21)from rfl) (.cons (show RelV (.ref 22) (.ref 22)from rfl) .nil))))))))⟩) (.cons rfl (.cst (.inr ⟨_,_,0,cl2,rfl,rfl,(by show 2<=sizeLine;decide),(.cons (show RelV (.int (1)) (.int (1) 189)from⟨_,rfl⟩) (.cons (show RelV (.int (0)) (.int (0) 190)from⟨_,rfl⟩) .nil))⟩) (.cons rfl .int (.cons rfl .int .nil))) (.cons rfl (.cst (.inr ⟨_,_,0,cl3,rfl,rfl,(by show 2<=sizeLine;decide),(.cons (show RelV (.int (1)) (.int (1) 191)from⟨_,rfl⟩) (.cons (show RelV (.int (1)) (.int (1) 192)from⟨_,rfl⟩) .nil))⟩) (.cons rfl .int (.cons rfl .int .nil))) (.cons rfl (.cst (.inr ⟨_,_,0,cl4,rfl,rfl,(by show 2<=sizeLine;decide),(.cons (show RelV (.int (0)) (.int (0) 193)from⟨_,rfl⟩) (.cons (show RelV (.int (1)) (.int (1) 194)from⟨_,rfl⟩) .nil))⟩) (.cons rfl .int (.cons rfl .int .nil))) (.cons rfl (.cst (.inr ⟨_,_,0,cl5,rfl,rfl,(by show 2<=sizeLine;decide),(.cons (show RelV (.int (-1)) (.int (-1) 196)from⟨_,rfl⟩) (.cons (show RelV (.int (1)) (.int (1) 197)from⟨_,rfl⟩) .nil))⟩) (.cons rfl .int (.cons rfl .int .nil))) (.cons rfl (.cst (.inr ⟨_,_,0,cl6,rfl,rfl,(by show 2<=sizeLine;decide),(.cons (show RelV (.int (-1)) (.int (-1) 199)from⟨_,rfl⟩) (.cons (show RelV (.int (0)) (.int (0) 200)from⟨_,rfl⟩) .nil))⟩) (.cons rfl .int (.cons rfl .int .nil))) (.cons rfl (.cst (.inr ⟨_,_,0,cl7,rfl,rfl,(by show 2<=sizeLine;decide),(.cons (show RelV (.int (-1)) (.int (-1) 202)from⟨_,rfl⟩) (.cons (show RelV (.int (-1)) (.int (-1) 204)from⟨_,rfl⟩) .nil))⟩) (.cons rfl .int (.cons rfl .int .nil))) (.cons rfl (.cst (.inr ⟨_,_,0,cl8,rfl,rfl,(by show 2<=sizeLine;decide),(.cons (show RelV (.int (0)) (.int (0) 205)from⟨_,rfl⟩) (.cons (show RelV (.int (-1)) (.int (-1) 207)from⟨_,rfl⟩) .nil))⟩) (.cons rfl .int (.cons rfl .int .nil))) (.cons rfl (.cst (.inr ⟨_,_,0,cl9,rfl,rfl,(by show 2<=sizeLine;decide),(.cons (show RelV (.int (1)) (.int (1) 208)from⟨_,rfl⟩) (.cons (show RelV (.int (-1)) (.int (-1) 210)from⟨_,rfl⟩) .nil))⟩) (.cons rfl .int (.cons rfl .int .nil))) .nil)))))))))⟩;have C_INNER:Glb (KK w.params) mg "INNER" yy:=⟨.ref 28,_,Ri X G gt_INNER,rfl,fun _ _=>(.cst (.inr ⟨_,_,0,cl10,rfl,rfl,(by show 4<=sizeLine;decide),(.cons (show RelV (.ref 24) (.ref 24)from rfl) (.cons (show RelV (.ref 25) (.ref 25)from rfl) (.cons (show RelV (.ref 26) (.ref 26)from rfl) (.cons (show RelV (.ref 27) (.ref 27)from rfl) .nil))))⟩) (.cons rfl (.cst (.inr ⟨_,_,0,cl11,rfl,rfl,(by show 2<=sizeLine;decide),(.cons (show RelV (.int (3)) (.int (3) 212)from⟨_,rfl⟩) (.cons (show RelV (.int (2)) (.int (2) 213)from⟨_,rfl⟩) .nil))⟩) (.cons rfl .int (.cons rfl .int .nil))) (.cons rfl (.cst (.inr ⟨_,_,0,cl12,rfl,rfl,(by show 2<=sizeLine;decide),(.cons (show RelV (.int (2)) (.int (2) 214)from⟨_,rfl⟩) (.cons (show RelV (.int (3)) (.int (3) 215)from⟨_,rfl⟩) .nil))⟩) (.cons rfl .int (.cons rfl .int .nil))) (.cons rfl (.cst (.inr ⟨_,_,0,cl13,rfl,rfl,(by show 2<=sizeLine;decide),(.cons (show RelV (.int (1)) (.int (1) 216)from⟨_,rfl⟩) (.cons (show RelV (.int (2)) (.int (2) 217)from⟨_,rfl⟩) .nil))⟩) (.cons rfl .int (.cons rfl .int .nil))) (.cons rfl (.cst (.inr ⟨_,_,0,cl14,rfl,rfl,(by show 2<=sizeLine;decide),(.cons (show RelV (.int (2)) (.int (2) 218)from⟨_,rfl⟩) (.cons (show RelV (.int (1)) (.int (1) 219)from⟨_,rfl⟩) .nil))⟩) (.cons rfl .int (.cons rfl .int .nil))) .nil)))))⟩;have G_take:Cal l.prog w (KK w.params) mg base 1 "_law_take" ["_law_state","_law_many"] (aG (KK w.params) 2 jV):=A5 (dfn X G 174 173 mo5) T;have G_begin:Cal l.prog w (KK w.params) mg base 1 "_law_begin" ["_law_script"] (aG (KK w.params) 1 (tM (KK w.params))):=zg (dfn X G 167 166 mo5) T;have G_stepped:=(dfn X G 35 34 mo0).cal (base:=base) (P:=l.prog) (w:=w) fun _ _ F=>x5 F T C_STEPS;have G_straight:=(dfn X G 42 41 mo0).cal (base:=base) (P:=l.prog) (w:=w) fun _ _ F=>uo F T C_STEPS G_stepped;have G_octo_of:=(dfn X G 73 72 mo2).cal (base:=base) (P:=l.prog) (w:=w) fun _ _ F=>vT F T;have G_added:=(dfn X G 99 98 mo2).cal (base:=base) (P:=l.prog) (w:=w) fun _ _ F=>Bu F T;have G_moved:=(dfn X G 106 105 mo2).cal (base:=base) (P:=l.prog) (w:=w) fun _ _ F=>Aj F T G_octo_of G_added;have G_mark_of:=(dfn X G 132 131 mo3).cal (base:=base) (P:=l.prog) (w:=w) fun _ _ F=>wJ F T G_moved;have G_swept:=(dfn X G 139 138 mo3).cal (base:=base) (P:=l.prog) (w:=w) fun _ _ F=>AU F T G_octo_of G_added G_mark_of;have G_goes_on:=(dfn X G 160 159 mo4).cal (base:=base) (P:=l.prog) (w:=w) fun _ _ F=>vX F T G_straight;have G_ways_at:=(dfn X G 153 152 mo4).cal (base:=base) (P:=l.prog) (w:=w) fun _ _ F=>w9 F T G_goes_on;have G_cut_octos:=(dfn X G 146 145 mo4).cal (base:=base) (P:=l.prog) (w:=w) fun _ _ F=>t7 F T G_swept G_ways_at;have G_is_number:=(dfn X G 56 55 mo1).cal (base:=base) (P:=l.prog) (w:=w) fun _ _ F=>sj F T;have G_is_row:=(dfn X G 63 62 mo1).cal (base:=base) (P:=l.prog) (w:=w) fun _ _ F=>zB F T;have G_are_numbers:=(dfn X G 68 67 mo1).cal (base:=base) (P:=l.prog) (w:=w) fun _ _ F=>oP F T G_is_number G_is_row;have G_ends_met:=(dfn X G 94 93 mo2).cal (base:=base) (P:=l.prog) (w:=w) fun _ _ F=>uP F T;have G_all_met:=(dfn X G 87 86 mo2).cal (base:=base) (P:=l.prog) (w:=w) fun _ _ F=>xb F T G_ends_met;have G_is_octo:=(dfn X G 80 79 mo2).cal (base:=base) (P:=l.prog) (w:=w) fun _ _ F=>wq F T G_are_numbers G_all_met;have G_inner_point:=(dfn X G 49 48 mo0).cal (base:=base) (P:=l.prog) (w:=w) fun _ _ F=>pQ F T C_INNER;have G_is_flat:=(dfn X G 118 117 mo2).cal (base:=base) (P:=l.prog) (w:=w) fun _ _ F=>wb F T;have G_holds:=(dfn X G 125 124 mo2).cal (base:=base) (P:=l.prog) (w:=w) fun _ _ F=>BI F T G_inner_point;have G_quarters_in:=(dfn X G 111 110 mo2).cal (base:=base) (P:=l.prog) (w:=w) fun _ _ F=>pD F T G_is_flat G_holds;have G_in_mark:=(dfn X G 193 192 mo5).cal (base:=base) (P:=l.prog) (w:=w) fun _ _ F=>xt F T;have G_mark:=(dfn X G 188 187 mo5).cal (base:=base) (P:=l.prog) (w:=w) fun _ _ F=>DP F T G_in_mark;have G_tool:=(dfn X G 181 180 mo5).cal (base:=base) (P:=l.prog) (w:=w) fun _ _ F=>Di F T G_take;have G_tools:=(dfn X G 203 202 mo5).cal (base:=base) (P:=l.prog) (w:=w) fun _ _ F=>BJ F T G_take G_tool;have G_places:=(dfn X G 210 209 mo5).cal (base:=base) (P:=l.prog) (w:=w) fun _ _ F=>zH F T G_take;have G_cut:=(dfn X G 222 221 mo5).cal (base:=base) (P:=l.prog) (w:=w) fun _ _ F=>Ff F T G_mark;have G_program:=(dfn X G 217 216 mo5).cal (base:=base) (P:=l.prog) (w:=w) fun _ _ F=>x8 F T G_take G_places;have G_same:Cal l.prog w (KK w.params) mg base 4 "_law_same" ["_law_found","_law_due"] (aG (KK w.params) 2 (oK 3)):=Nat.rec (motive:=fun n=>Cal l.prog w (KK w.params) mg base (1+n) "_law_same" ["_law_found","_law_due"] (aG (KK w.params) 2 (oK n))) ((dfn X G 198 197 mo5).cal fun f fd (_:Fun (KK w.params) "_law_same" "_law_same" s_same f fd)=>Bj rfl) (fun n ih=>(dfn X G 198 197 mo5).cal fun _ _ F=>CO n F T ih) 3;have G_layer_right:=(dfn X G 227 226 mo5).cal (base:=base) (P:=l.prog) (w:=w) fun _ _ F=>pR F T G_is_octo G_quarters_in G_cut_octos G_same G_cut;exact G2 (ER F T G_cut_octos G_begin G_take G_tools G_program G_layer_right)
end Mp
open PySem PySem.W PyProof.Rows
set_option maxRecDepth 100000 in
set_option maxHeartbeats 0 in
theorem Mp.Fo:PySem.Challenge.rw_millpath_k54_octos_of_programs.wellSaid=true:=by kernel_rfl
set_option maxRecDepth 100000 in
theorem Mp.left:PySem.W.LeftO PySem.Challenge.rw_millpath_k54_octos_of_programs.row.prog Mp.VW [] (fun s=>PySem.W.xlAt Mp.VW [] s&&PySem.W.recOk (PySem.Challenge.rw_millpath_k54_octos_of_programs.row.toRowW.records) s) (Ve (Sh Mp.KK Mp.kas Mp.wW)) (Vf (Sh Mp.KK Mp.kas Mp.wW)) 6000:=fun w=>by kernel_rfl
set_option maxRecDepth 100000 in
set_option maxHeartbeats 0 in
theorem PySem.Challenge.cw_millpath_k54_octos_of_programs_holds : PySem.Challenge.rw_millpath_k54_octos_of_programs.Holds := by
 refine PySem.W.holds_law Mp.Fo fun Fo=>?_;refine PySem.W.holds_open (r:=PySem.Challenge.rw_millpath_k54_octos_of_programs.row) (XP:=PySem.W.XL Mp.VW []) (YP:=Va (Sh Mp.KK Mp.kas Mp.wW)) (d:=⟨"law",L2.fC Mp.jo,L2.dA Mp.jo,L2.ax Mp.jo,Mp.Gv Mp.jo⟩) (kwd:=[]) Mp.left (Vi _) (U_ _) (fun s e=>PySem.W.xl_of s (M8.mp e).1) Vg (by kernel_rfl) (by kernel_rfl) (by kernel_rfl) (fun s e=>PySem.W.recFacts_of (M8.mp e).2) (by kernel_rfl) Fo (by kernel_rfl) ⟨rfl,rfl,rfl,rfl,rfl,by decide +kernel⟩ ?hw ?hc
 case hw=>w_witness2
 case hc=>
  refine Mp.walk (l:=PySem.Challenge.rw_millpath_k54_octos_of_programs) rfl (by kernel_rfl) (fun w h Y=>PySem.W.kIn_of Y) ?F
  case F=>
  intro w mg fa h KX G hmg;exact Mp.all_mk KX G hmg
