import PyProof.Rows.All
import Wide.All
import OpenK.AllK
import Wide.FinOn
import Lean
import PyProof.EqAt
import PyProof.EqKinds
import PyProof.TupleCall
import PyProof.ZipIter
import PyProof.NeKinds
import PyProof.SeqI3
import PyProof.MaxThree
import PyProof.CompUse
import PyProof.EnumMake
import PyProof.Draws
import PyProof.EnumFor
import PyProof.Rows.EnumRows
import PyProof.DictFindH
import PyProof.DictRoadsH
import PyProof.TupleKey
import PyProof.DictWalks
import PyProof.AttrMissHeap
import KE.KDictOf
import KE.KDictList
import PyProof.Rows.SortRuns
import KE.KSortTup
import PyProof.ListRange
import KE.KUnpack
import PySem.Challenge.RW_millpath_k22_papers_of_what_is_left
set_option maxHeartbeats 4000000
set_option Elab.async false
set_option linter.all false
set_option maxRecDepth 100000
set_option genSizeOf false
set_option bootstrap.genMatcherCode false
noncomputable section
open List renaming length_map->a_,getElem?_eq_some_iff->c_,getElem?_eq_getElem->d_,map_cons->e_,perm_middle->f_,length_append->f',append_assoc->gV,size_toArray->g_,length_cons->j_,getElem?_map->k_,map_append->l_,perm_append_comm_assoc->m_,mem_cons->n_,mem_map->o_,mem_cons_of_mem->q_,mem_append_right->r_,Perm.trans->t_,range->w_,mem_cons_self->x_,take_length->yp,length_take->y_,map_map->z_,getD_eq_getElem?_getD->A',mem_append->B_,mem_of_getElem?->B',mem_singleton->C_,pairwise_append->D_,take_append_drop->E_,length_drop->F',map_congr_left->nw,mem_append_left->G',append_nil->H_,mem_map_of_mem->I_,nodup_cons->J_,length_set->K_,Perm.append_left->L_,take_of_length_le->MQ,length_reverse->MR,find?_cons->MT,cons_append->MV,Pairwise.sublist->MW,map->MZ,eq_nil_of_length_eq_zero->M_,perm_append_comm->Na,cons.inj->Nb,pairwise_map->Nc,mem_filter->Nd,getElem_mem->Ni,mem_of_mem_take->Nj,take_add_one->Nm,cons.injEq->Nn,map_eq_nil_iff->Np,drop_of_length_le->Nq,getElem?_append_right->Nt,not_mem_nil->Nv,getElem?_eq_none->Nx,extract_eq_drop_take->Ny,range_succ->NA,reverse_cons->NB,length_range->NC,getElem?_cons_succ->NF,replicate->NG,drop_zero->NH,drop_length->NI,pairwise_cons->NL,getElem?_append_left->NP,mem_of_mem_drop->NQ,findIdx?_eq_some_iff_getElem->NR,mem_range->NS,Perm.swap->NT,all_eq_true->NU,all_map->NV,filterMap_cons_some->NX,filterMap_cons_none->NY,filter_cons->N1,length_pos_iff->N2,getElem?_range->N3,getElem?_cons_zero->N4,length_nil->N6,getElem?_drop->N8,getElem?_take->N9,take_sublist->Od,drop_sublist->Of,nodup_append->Oh,map_nil->Oi,mem_iff_getElem?->Oj,eraseIdx_sublist->Om,length_filter_le->Oo,lookup_cons->Ot,mem_iff_getElem->Ou,getElem_toArray->Ov,any_eq_true->Oy,reverse_append->OA,flatMap_append->OC,drop_eq_getElem_cons->OD,Pairwise.imp_of_mem->OI,set_set->OJ,set_eq_of_length_le->OK,filter_append->OM,drop_drop->ON,pairwise_singleton->OP,Pairwise.nil->OQ,reverse_perm->OU,getElem?_set_self->OV,getElem_map->OX,countP_cons->OZ,getElem?_set_ne->O1,forIn_cons->O3,nil_append->O6,drop_append_of_le_length->O_,filterMap_cons->O',forIn_nil->Pb,Perm.cons->Pe,length->Pf,zip_cons_cons->Pg,set_cons_succ->Ph,any_cons->Pm,take_add->Pq,map_drop->Py,map_take->Pz,pairwise_iff_getElem->PN,findIdx?_eq_none_iff->PQ,getElem?_take_of_lt->PR,zipIdx_cons->PU,mem_reverse->PV,ext_getElem->PX,any_map->PY,map_fst_zip->P7,map_snd_zip->P8,map_reverse->P_,eraseIdx_cons_succ->P',length_eq_zero_iff->Qa,of_mem_zip->Qb,Perm->Qe,Perm.append_right->Qg,flatMap_singleton->Qh,filter->Qi,drop_eq_nil_of_le->Qj,length_pos_of_mem->Ql,nodup_nil->Qn,singleton_append->Qo,getElem?_zipWith->Qp,reverse_reverse->Qq,take_nil->Qv,all_cons->Qw,length_zipWith->Qx,replicate_succ->Qy,mem_filterMap->Qz,filterMap_map->QA,set_cons_zero->QC,map_id'->QG,ext_getElem?->QH,any_eq_false->QK,map_id->QM,getElem_inj->QN,flatMap_def->QR,cons_ne_nil->QS,zipIdx_nil->QT,foldl_cons->QW,zip_append->QZ,Perm.of_eq->Q3,filter_nil->Q4,Perm.refl->Q7,filterMap->Q8,drop_nil->Q_,zipWith->Rc,Sublist->Rf
open Nat renaming le_refl->b_,le_trans->p_,ne_of_lt->s_,lt_of_lt_of_le->u_,zero_le->A_,le_of_lt->L',le_of_not_lt->MU,lt_of_le_of_lt->MX,le_of_eq->Ng,pos_of_ne_zero->Nh,sub_le->Nz,lt_irrefl->ND,le_of_ble_eq_true->NM,succ.inj->NZ,succ_pos->N0,min_eq_left->N7,one_pos->Oa,zero_add->Ol,add_le_add_left->Oz,add_sub_cancel'->OB,sub_lt_left_of_lt_add->OE,ne_of_gt->OF,lt_of_le_of_ne->OH,add_sub_cancel_left->OO,le_of_lt_succ->OR,add_assoc->OW,min_eq_right->OY,lt_trans->O2,sub_self->O4,le_sub_one_of_lt->O5,add_lt_add_left->Pa,lt_succ_of_lt->PH,sub_lt->PK,min_self->PZ,le_add_right->P0,max_eq_right->P4,add_zero->P5,succ_le_succ->P9,not_lt_zero->Qc,sub_le_sub_right->Qr,add_le_add_right->Qs,sub_zero->QB,le_succ_of_le->QI,add_sub_assoc->QJ,le_succ->QL,lt_of_not_le->QP,le_add_left->QU,le_antisymm->QV,not_lt->QY,succ->Rm
open Int renaming le_trans->K',toNat_natCast->Nl,le_refl->Nr,emod_lt_of_pos->OL,emod_nonneg->O7,zero_add->O9,fdiv_eq_ediv_of_nonneg->Pj,fmod_eq_emod_of_nonneg->Pl,le_max_left->Q0,min_le_left->Q1,min_eq_left->Q2,lt_trans->Rg,max_le->Rk,le_min->Rl
open Option renaming some.inj->F_,bind_some->MY,map_eq_some_iff->NJ,getD_some->NW,bind_eq_some_iff->N5,some.injEq->Oe,isSome_iff_exists->OG,isSome_map->PD,some->Qf,map_eq_none_iff->Qk,isNone_some->QE,isNone_none->QF,getD_none->QO,map->QX,any->Rj
open Bool renaming false_eq_true->C',and_eq_true->J',false_ne_true->Nf,true_and->Nu,false_and->Nw,and_true->NN,beq_eq_decide_eq->O0,or_eq_false_iff->O8,not_false->Pc,false_or->Pn,not_true->Po,eq_false_iff->PJ,and_false->Qm,and_eq_true_iff->Qu,bne_false->Q5,false_bne->Q6,bne_true->Q9,true_bne->Ra
open Array renaming length_toList->h_,getElem?_toList->i_,getElem?_eq_getElem->v_,toList_append->MP,perm_iff_toList_perm->NO,getElem?_eq_none->N_,getElem?_extract->Ob,toList_push->Og,toList_extract->Ow,toList_reverse->Ox,getElem?_eq_some_iff->Pu,toList_setIfInBounds->Pw,size_setIfInBounds->P6,Perm.refl->Qd,size_extract->QD,toList_map->QQ,toList->Rb
open And renaming imp_right->PC
open Or renaming inl->bt,inr->i'
open Prod renaming ext->Oq,fst->Rh,ext_iff->Ri,snd->Rn
open Decidable renaming of_not_not->Yb
open False renaming elim->RL
open ForInStep renaming done->RG,yield->RQ
open Ne renaming symm->T3
open PyProof renaming noPylong_small->Vy
open PyProof.Rows renaming Keyed->Ry,arrOf->Rz,wpS_bind->RB,SortSt->RD,wpS_pure->RH,pendingOf->RO,wpS_forRange->R6,elem'->R7,failedOf->R8,wpS_mono->Su,seqObj->Sx,callWith_type1->Sz,SortKind->SQ,slot_tuple_getitem->Te,subscriptTail->Tg,reverseSlice'->Tz,wpS_get->TF,AllBare->Uc,envOfC->Um,wpS_modify->Uu,assignInOrder_cons->UI,Subscript_->U5,gallopOf->Vh,wpS_lift->Vi,subscriptTail_builtinR->VA,mergeAt'->V2,getElem?_mirror_all->V',minRun'->Wm,tuples'->Wn,assignInOrder_nil->Wr,tail_any->WH,callWith_builtin1->WU,bubble->W4,getElem?_bubble->W5,ltAt'->W6,get?_update_seq->W9,slicePart_none->Xc,countRun'->Xn,listUpdate_at->Xx,IsTup->XA,keyKind'->XO,binarySort'->X4,seqEpoch_at->X5,Call_->X'
open PyProof.Rows.IsTup renaming new->Wf
open PyProof.Rows.LSm renaming kept_iter->Xv
open PyProof.Rows.SortSt renaming mk'->S9
open PySem renaming wpAny_bind->Ro,Value->Rq,Addr->Rt,Shared->Ru,wpAny_pure->Rv,wpAny->RA,Program->RC,Expr->RI,model->RJ,World->RK,Heap->RM,starEach->RN,FuncData->RP,Around->RS,compareOp->RT,Stmt->RW,eval->RY,wpAny_mono->RZ,wpAny_holding->R1,sysModules->R5,wpAny_pyIter_tuple->R9,intItems->R_,wpAny_callSpecial?_slot->R',assignEach->Sd,mainGlobals->Se,wpAny_truthy_bool->Sf,wpAny_newObj_type->Sg,foldedSetIterable->Sh,wpAny_dictEntries->Si,wpAny_field->Sj,Scope->Sl,wpAny_call_entry->Sm,binaryOp->Ss,wpAny_pyIter_list->Sy,wpAny_ite_split->SD,mem_of_lookup->SE,IsPair->SF,wpAny_seqItems->SI,sliceBounds->SK,wpAny_typeNameOfWhole_keyiter->SM,bootBuiltins->SR,backTo->SS,tupleKind_room_in1->SX,DictEntry->SY,wpAny_setField_rec->S0,Builtin->S4,wpAny_attempt->S6,wpAny_rule->S7,NameKind->S_,wpAny_standAt->Tf,tupleKind->Ti,wpAny_Call_Name_kw->Tj,Model->Tp,rawInt->Tq,IsZip->Tt,numAt->Tu,Paired->Tv,behindInMarks->Tw,attributeBase->Tx,wpAny_letGo->TB,wpAny_passesOwn->TJ,swapsWith->TN,assign->TQ,wpAny_getItem_list_slice->TU,sliceRange->T5,pyNext->T7,intItems_at->T_,comprehension->T',wpAny_eqBool_int->Ua,wpAny_isInstance->Ub,codeAny->Ud,wpAny_notOrdered_dict->Ue,entryOfKey->Uj,letOwnedTupleGo->Uk,codeAny_mono->Ul,wpAny_specialOf->Up,wpAny_updateSeq_pair->Uq,wpAny_dictEpoch->Us,holding->Uy,getItem->UA,Keyword->UB,wpAny_setField->UD,firstArgMember->UE,subscripted->UH,slicePick->UK,assignInOrder->UR,swapsWithSole->US,swappedStores->UT,evalPart_none->UW,evalPart_some->UX,wpAny_onRaise->UY,Comprehension->UZ,wpAny_newList->U0,wpAny_missedRemoval_other->U8,valueAt->U',callerA->Va,pyIter->Vb,noFill_tuple_add->Vc,IsPart->Vd,Params->Ve,wpAny_execs_nil->Vq,again->Vs,CmpOp->Vt,atKey->Vu,keywordEach->VC,wpAny_of_eq->VD,codeAny_compStart_list->VE,BindsTo->VG,getitemInPython_of_ne->VH,wpAny_isOneOf_keyiter->VL,builtinsNs->VS,bindL->VT,bindC->VU,call_meets->VX,wpAny_letTemporaryGo->VY,field->VZ,wpAny_newFunctionEnv->V0,wpAny_pyIter_keyiter->V4,seq_tuple_add->V7,Builtin->V8,isTrue->We,lastMarks->Wg,wpAny_List_spliced->Wh,concat_meets->Wi,seqIndex_neg->Wj,wpAny_tupleItemsOf->Wk,call_meetsIn->Wl,wpAny_assign_Name->Wq,wpAny_pyIter_enum->Wv,wpAny_Call_method->Wy,wpAny_Slice->WA,seqIndex_of->WB,wpAny_execs_cons->WE,bindName->WG,backToKw->WI,wpAny_comp_letGo->WM,wpAny_pyIter_zip->WN,wpAny_Name->WT,call_tuple_same->WV,typeIs_int->WW,wpAny_operating->WX,call->WY,setItem->W_,standAt->W',wpAny_bindName->Xa,letTemporaryGo->Xe,wpAny_newTuple->Xf,isSubtype_stop->Xg,argBest->Xi,wpAny_fieldsOf->Xj,isSubtype_type->Xk,cellsFrom->Xm,intBits_le_64->Xp,call_list_seq->Xr,wpAny_handled->Xt,wpAny_standIf->Xu,bindArgs->XE,wpAny_typeOf->XF,typeOf->XG,newExc->XI,callType_new->XJ,IsEnum->XM,HeapKind->XQ,wpAny_mkInt->XX,interactive->XY,IsRangeIter->XZ,wpAny_throw->X2,idxH_unique->X6,operate->X7,MeetsIn->X9
open PySem.AutoSeq1 renaming wpAny_loadPart'->Tb,list_insert_list_int_val_1->Wo,list_extend_list_list_0->WJ,list_reverse_list_0->Xd
open PySem.Builtin.Dict renaming keyAndDefault->U1,showsAll->VJ,takeOut->V5,dictSlotNone->XC,pendingCount->XD
open PySem.Builtin.Dict_items renaming ownsTuple->UG
open PySem.Builtin.List renaming listTooLong->TV,listLengthHint->UN,listExtendWith->UO,listSameRef->Vg,listFitsIndex->Xy,listUpdate->XT
open PySem.Builtin.Range renaming rangeSize->XR
open PySem.Builtin.Slice renaming slicePlaces->S8,sliceAdjust->TL,sliceApplied->UU,slicePartIndex->Xb,sliceFields->XB
open PySem.Builtin.SmallTypes renaming nextOf->R0,ownedTupleIsFree->Sv,ownedTupleHandOut->TZ
open PySem.Builtin.Tuple renaming tupleExact->Ta,tupleItemsOf->Xq
open PySem.Calls renaming spliced_cons->SU,callWith_builtin->To,evalArgs_plain->Uo,Name_function_global->UQ,spliced_nil->U3,call_function_entry->U7
open PySem.Data renaming cell->Vr,fields->Wz,seq->XH
open PySem.Env renaming kindOf->WZ
open PySem.F renaming slot_dict_keyiterator_next->Sw,slot_tuple_iterator_next->S5,slot_list_append->Tc,type_list_append->Td,slot_dict_pop->Ts,args_tuple_add_2->TR,entry_tuple_add->T6,slot_tuple_add->T8,slot_zip_next->Ur,args_dict_keyiterator_next_1->Ut,entry_dict_keyiterator_next->Ux,args_tuple_iterator_next_1->UC,entry_tuple_iterator_next->UL,slot_dict_getitem->U6,slot_list_reverse->U9,type_list_reverse->U_,slot_list_extend->Vk,type_list_extend->Vl,plainAttrs_list->Vn,args_dict_pop_3->Vo,plainAttrs_dict->Vp,entry_dict_pop->VF,slot_tuple_lt->VM,slot_dict_len->VO,type_dict_pop->VP,args_zip_next_1->Wt,entry_zip_next->WK,slot_dict_iter->WQ
open PySem.Flow renaming next->Yk
open PySem.Heap renaming get?_push_of_some->Rx,lt_size->RE,get?_push_size->RF,SameBut->Sr,size_push->SO,get?_update_self->S3,get?_update_ne->TH,ExtBut->T9,push->Ug,DictOfH->Uw,IsTuple->Vf,get?_update_other->VB,get?_push_ne->Wx,IsList->WC
open PySem.Heap.DictOf renaming new->Yt
open PySem.Heap.DictOfH renaming typeIs->Wb
open PySem.Heap.IsList renaming push->WL,extBut->Yl
open PySem.Heap.IsListIter renaming extBut->X1
open PySem.Heap.IsRevIter renaming typeIs->X8
open PySem.Heap.IsSliceOf renaming new->UJ
open PySem.Heap.IsTuple renaming push->Wu,extBut->Yg
open PySem.Heap.IsTupleIter renaming extBut->XS
open PySem.Heap.SameBut renaming update->SN
open PySem.IsL renaming update->Yp
open PySem.NameKind renaming free->SH,cell->Yv
open PySem.Obj renaming mapSeq->R3,data_mapFields->TY,isFreed_of_fields->VI,data_mapDictKeys->V6,cls_mapFields->Ws,mapFields->Xw
open PySem.Paired renaming length->Sn,snoc->X0
open PySem.PassesOwn renaming never->RU
open PySem.PyData renaming leavesShort->SJ,showable->Tn,hasDict->Tr,depth->T1,leavesShortAll->Uh,showableAll->UP,hasDictAll->U4,depthAll->Vx,bulkAll->VQ,bulk->WD
open PySem.SeqAt renaming EqAt->V1,RcAt->W0,RcNeAt->XN
open PySem.SeqAt.EqAt renaming same->WS,int_none->Yc,str_none->Yd,none_int->Ye,none_str->Yf,int_str->Yi,str_int->Yj,of_refs->Ym
open PySem.SeqAt.RcAt renaming tuples->Ww,lists->WO
open PySem.SeqAt.RcNeAt renaming lists->UM,lists_lengths->Xz,tuples->Yh
open PySem.Shared renaming heap->TC
open PySem.Str renaming ofString->SW
open PySem.Value renaming ref->RV,none->R4,int->TM,type->Ui,bool->VR,str->Wd,isStrOf->Xo,isInt->XU
open PySem.W renaming Frag->Rr,fnOf->SV,keepIn->T4,kat_nil->Uv,codeIn->Uz,methodObj->U2,kat_cons->Vj,nsIn->Vm,OpenLaw->Vv,kat_yes->Vw,cellsFrom_some->Vz,kat_no->VN,mg_of->V9,kHook->V_,kat_kind->WR,kat_one->W7,KatTups->W8,kitAny->Xh,kat_lt->Xl,WalkO->Xs
open PySem.W.Hook renaming keeps->Yn,says->Yo,obs->Yq,val->Yr,of->Yu
open PySem.W.KatTups renaming cons->V3,nil->Wa
open PySem.W.XL renaming keeps->Ys
open PySem.Walks renaming tuple->X3,list->Ya
open Std.Legacy.Range renaming forIn_eq_forIn_range'->Wc,size->X_
open Sum renaming inr->RX,inl->So
open Sum.inl renaming inj->XW
open True renaming intro->SG
namespace L2
open PySem PySem.Spec PyProof.Rows
abbrev Key:=Sum Int (Option Str)
noncomputable def uh:Key->Rq->Bool
 | .inl k,v=>XU k v
 | .inr (some x),v=>Xo x v
 | .inr none,.none=>true
 | .inr none,_=>false
noncomputable def M7(w:RK):Key->Int
 | .inl k=>hashInt k
 | .inr (some x)=>hashStr w x
 | .inr none=>4238894112
theorem hX:∀{k:Key}{v:Rq},uh k v=true->(∃i t,k=So i/\v=TM i t)\/(∃x t,k=RX (some x)/\v=Wd x t)\/(k=RX none/\v=R4)
 | .inl i,v,h=>by obtain⟨t,e⟩:=Value.isInt_shape (k:=i) (v:=v) h;exact .inl ⟨i,t,rfl,e⟩
 | .inr (some x),v,h=>by obtain⟨t,e⟩:=Value.isStrOf_shape (x:=x) (v:=v) h;exact .inr (.inl ⟨x,t,rfl,e⟩)
 | .inr none,v,h=>by cases v <;> first|exact .inr (.inr ⟨rfl,rfl⟩)|cases h
theorem BP(i:Int)(t:Tok):uh (.inl i) (.int i t)=true:=by simp[uh,XU]
theorem Bk(x:Str)(t:Tok):uh (.inr x) (.str x t)=true:=by simp[uh,Xo]
theorem Ik(a b:Int):decide ((So a:Key)=So b)=(a == b):=by
 by_cases e:a=b
 ·subst e;simp
 have h:¬(So a:Key)=So b:=λq=>e (XW q);rw[decide_eq_false h];exact(beq_eq_false_iff_ne.mpr e).symm
theorem IP(a b:Str):decide ((RX (some a):Key)=RX (some b))=decide (a=b):=by
 by_cases e:a=b
 ·subst e;simp
 have h:¬(RX (some a):Key)=RX (some b):=λq=>e (F_ (Sum.inr.inj q));rw[decide_eq_false h,decide_eq_false e]
variable {A:RS}{E:Rq->Ru->Prop}{s:Ru}{w:RK}
theorem CP{prog:RC}{Q:Int->Ru->Prop}(h:Q 4238894112 {s with toks:=s.toks+1}):RA (RJ prog w) A (PySem.pyHash .none) Q E s:=
 PySem.W.pyHash_slot (T:="NoneType") rfl F.slot_NoneType_hash F.entry_NoneType_hash (F.args_NoneType_hash_1 _) (beq_builtin_none _) (.inl rfl) (Ro (Rv (Ro (XX (Rv ⟨_,_,rfl,h⟩)))))
def cX(prog:RC)(w:RK):PySem.KeyKind prog w Key where
 is:=uh
 hash:=M7 w
 inj:=λv a b ha hb=>by rcases hX ha with⟨i,t,rfl,rfl⟩|⟨x,t,rfl,rfl⟩|⟨rfl,rfl⟩ <;> rcases hX hb with⟨j,u,rfl,e⟩|⟨y,u,rfl,e⟩|⟨rfl,e⟩ <;> cases e <;> rfl
 byValue:=λk v h=>by rcases hX h with⟨i,t,rfl,rfl⟩|⟨x,t,rfl,rfl⟩|⟨rfl,rfl⟩ <;> rfl
 pyHash:=λhv h=>by
  rcases hX hv with⟨i,t,rfl,rfl⟩|⟨x,t,rfl,rfl⟩|⟨rfl,rfl⟩
  ·exact wpAny_pyHash_int h
  ·exact wpAny_pyHash_str h
  exact CP h
 eqBool:=λhu hv h=>by
  rcases hX hu with⟨i,t,rfl,rfl⟩|⟨x,t,rfl,rfl⟩|⟨rfl,rfl⟩ <;> rcases hX hv with⟨j,u,rfl,rfl⟩|⟨y,u,rfl,rfl⟩|⟨rfl,rfl⟩
  ·rw[Ik]at h;exact Ua h
  ·exact Yi i t y u _ _ _ _ h
  ·exact Yc i t _ _ _ _ h
  ·exact Yj x t j u _ _ _ _ h
  ·rw[IP]at h;exact wpAny_eqBool_str h
  ·exact Yd x t _ _ _ _ h
  ·exact Ye j u _ _ _ _ h
  ·exact Yf y u _ _ _ _ h
  exact WS _ _ _ _ _ h
 «strs»:=λk x t v h=>by
  rcases hX h with⟨i,u,rfl,e⟩|⟨y,u,rfl,e⟩|⟨rfl,e⟩
  ·exact nomatch e
  ·injection e with e1 _
   subst e1;cases v <;> rfl
  exact nomatch e
theorem xP(prog:RC)(w:RK)(i:Int)(t:Tok):(cX prog w).is (.inl i) (.int i t)=true:=BP i t
theorem xQ(prog:RC)(w:RK)(x:Str)(t:Tok):(cX prog w).is (.inr x) (.str x t)=true:=Bk x t
inductive V where
 |non|bl (b:Bool)|int (i:Int)|str (x:Str)|byt (b:Array UInt8)|flt (b:UInt64)|ref (a:Rt)|ty (n:String)
 deriving DecidableEq
set_option genInjectivity false
noncomputable def RelV:V->Rq->Prop
 | .non,u=>u=R4
 | .bl b,u=>u=VR b
 | .int i,u=>∃t,u=TM i t
 | .str x,u=>∃t,u=Wd x t
 | .byt b,u=>∃t,u=Value.bytes b t
 | .flt b,u=>∃t,u=Value.float b t
 | .ref a,u=>u=RV a
 | .ty n,u=>u=Ui n
abbrev Vals:List V->List Rq->Prop:=Tv RelV
variable {us:List Rq}{xs:List V}
theorem Vals.length (r:Vals xs us):xs.length=us.length:=Sn r
theorem Vals.get:∀{xs:List V}{us:List Rq}{i:Nat}{x:V},Vals xs us->xs[i]?=some x->∃u,us[i]?=some u/\RelV x u
 | _,_,_,_,.nil,e=>by simp at e
 | _,_,0,_,.cons r _,e=>by simp at e;subst e;exact⟨_,rfl,r⟩
 | _,_,i+1,x,.cons _ t,e=>by obtain⟨u,h1,h2⟩:=Vals.get (i:=i) (x:=x) t (by simpa using e);exact⟨u,by simpa using h1,h2⟩
variable {u:Rq}
theorem Vals.set {x:V}(r:RelV x u):∀{xs:List V}{us:List Rq} (i:Nat),Vals xs us->Vals (xs.set i x) (us.set i u)
 | _,_,_,.nil=>.nil
 | _,_,0,.cons _ t=>.cons r t
 | _,_,i+1,.cons q t=>.cons q (Vals.set r i t)
theorem Vals.append:∀{xs ys:List V}{us ws:List Rq},Vals xs us->Vals ys ws->Vals (xs++ys) (us++ws):=by
 intro xs ys us ws x s;induction x with
 |nil=>exact s
 |cons r t ih=>exact .cons r ih
theorem Vals.take:∀{xs:List V}{us:List Rq} (n:Nat),Vals xs us->Vals (xs.take n) (us.take n)
 | _,_,0,_=>.nil
 | _,_,_+1,.nil=>.nil
 | _,_,n+1,.cons r t=>.cons r (Vals.take n t)
theorem Vals.drop:∀{xs:List V}{us:List Rq} (n:Nat),Vals xs us->Vals (xs.drop n) (us.drop n)
 | _,_,0,r=>r
 | _,_,_+1,.nil=>.nil
 | _,_,n+1,.cons _ t=>Vals.drop n t
def tD:Option V->Option Rq->Prop
 |some v,some u=>RelV v u
 |none,none=>True
 | _,_=>False
def KV{κ:Type}:List (κ×V)->List (κ×Rq)->Prop:=Tv λ(p:κ×V) (q:κ×Rq)=>p.1=q.1/\RelV p.2 q.2
noncomputable def kV:Key->V
 | .inl i=>.int i
 | .inr (some x)=>.str x
 | .inr none=>.non
inductive HO where
 |lst (xs:List V)
 |tup (xs:List V)
 |dK (am:List (Key×V))|dT (am:List (List Key×V))
 |set (S:Int->Bool) (n:Nat)
 |ins (C dx:Rt) (fs:List (Str×V))
 |own (x:Rt)
 |xd (fs:List (Str×V))
 |met (f x:Rt)
 |rng (lo hi:Int)
 |frz (o:Obj) (u:HO)
 |tbl (ps:Array Rq)
 |ext (φ:RM->Prop)
abbrev Hp:=Rt->Option HO
noncomputable def upd(H:Hp)(a:Rt)(o:HO):Hp:=λb=>if b=a then some o else H b
variable {H:Hp}{a:Rt}{o:HO}
theorem ba:upd H a o a=some o:=by unfold upd;rw[if_pos rfl]
variable {b:Rt}
theorem aS(h:b≠a):upd H a o b=H b:=by unfold upd;rw[if_neg h]
theorem Fc{u:HO}:upd (upd H a o) a u=upd H a u:=by funext b;unfold upd;split <;> rfl
theorem wx{u:HO}(h:H a=some o)(h':H b=some u)(d:o≠u):a≠b:=by intro e;subst e;rw[h]at h';exact d (F_ h')
theorem gy(h:H a=some o)(h':H b=none):a≠b:=by intro e;subst e;rw[h]at h';cases h'
section
variable(P:RC)(w:RK)
def cV(H:Hp)(h:RM)(a:Rt):HO->Prop
 | .lst xs=>xs.length<=sizeLine/\∃(be:List Rq) (n:Nat),Vals xs be/\h.get? a=some { cls:=.type "list",data:=.seq be.toArray n}
 | .tup xs=>xs.length<=sizeLine/\∃be:List Rq,Vals xs be/\XA h a be.toArray
 | .dK am=>am.length<=sizeLine/\(a == R5)=false/\∃vs,KV am vs/\h.DictOf (cX P w) a vs
 | .dT am=>am.length<=sizeLine/\(a == R5)=false/\∃xs:List (List Key×Rt×Rq),
   Tv (λ(p:List Key×V) (q:List Key×Rt×Rq)=>p.1=q.1/\H q.2.1=some (.tup (p.1.map kV))/\RelV p.2 q.2.2) am xs/\
   ∃o es ep,h.get? a=some o/\o.ExactDict/\o.data=.dict es ep/\es.toList=xs.map (Uj (Ti (cX P w)))/\(xs.map (·.1)).Nodup
 | .set S n=>h.SetOf (intKind P w) a S n
 | .ins C dx fs=>H dx=some (.own a)/\fs.length<=1000/\dx≠a/\h.get? a=some (PySem.W.instObj C dx)/\
   ∃mA,h.Ns1 dx mA/\(∀f,tD (fs.lookup f) (mA f))/\PySem.Within mA (fs.map (·.1))
 | .own _=>∃o,h.get? a=some o
 | .xd fs=>∃mA,h.Ns1 a mA/\∀f,tD (fs.lookup f) (mA f)
 | .rng lo hi=>∃t u v,h.get? a=some { cls:=.type "range",data:=.fields #[.int lo t,.int hi u,.int 1 v] }
 | .frz o u=>h.get? a=some o/\cV H h a u
 | .tbl ps=>h.get? a=some { cls:=.none,data:=.fields ps}
 | .met f x=>h.get? a=some (U2 (.ref f) (.ref x))
 | .ext φ=>φ h/\(∃o,h.get? a=some o)/\∀h1 h2:RM,φ h1->(∀o,h1.get? a=some o->h2.get? a=some o)->φ h2
def HOk(H:Hp)(h:RM):Prop:=∀a o,H a=some o->cV P w H h a o
end
section
variable{P:RC}{w:RK}{H H':Hp}{h h':RM}{a:Rt}{o:HO}
theorem cV.lt (x:cV P w H h a o):a<h.objs.size:=by
 cases o with
 |lst xs=>obtain⟨_,_,_,_,e⟩:=x;exact RE e
 |tup xs=>obtain⟨_,_,_,p⟩:=x;exact p.lt
 |dK am=>obtain⟨_,_,_,_,o,_,_,e,_⟩:=x;exact RE e
 |dT am=>obtain⟨_,_,_,_,o,_,_,e,_⟩:=x;exact RE e
 |set S n=>obtain⟨o,_,_,_,e,_⟩:=x;exact RE e
 |ins C dx fs=>obtain⟨_,_,_,e,_⟩:=x;exact RE e
 |own y=>obtain⟨_,e⟩:=x;exact RE e
 |xd fs=>obtain⟨_,⟨_,_,_,e,_⟩,_⟩:=x;exact RE e
 |rng lo hi=>obtain⟨_,_,_,e⟩:=x;exact RE e
 |frz ob u=>obtain⟨e,_⟩:=x;exact RE e
 |tbl ps=>exact RE (show h.get? a=some _ from x)
 |met f y=>exact RE (show h.get? a=some _ from x)
 |ext φ=>obtain⟨_,⟨_,e⟩,_⟩:=x;exact RE e
theorem Paired.Ll {α β:Type}{F G:α->β->Prop}:∀{l₁:List α}{l₂:List β},Tv F l₁ l₂->(∀a b,F a b->G a b)->Tv G l₁ l₂:=by
 intro l₁ l₂ x f;induction x with
 |nil=>exact .nil
 |cons r t ih=>exact .cons (f _ _ r) ih
theorem cV.pD (x:cV P w H h a o)(k:∀b u,(b=a\/H b=some (.own a))->h.get? b=some u->h'.get? b=some u)
  (ho:∀b,H b=some (.own a)->H' b=some (.own a)) (ht:∀b xs,H b=some (.tup xs)->H' b=some (.tup xs)):cV P w H' h' a o:=by
 induction o with
 |lst xs=>obtain⟨z,be,n,r,e⟩:=x;exact⟨z,be,n,r,k _ _ (.inl rfl) e⟩
 |tup xs=>obtain⟨z,be,r,ob,e,c⟩:=x;exact⟨z,be,r,ob,k _ _ (.inl rfl) e,c⟩
 |dK am=>obtain⟨z,y,vs,r,ob,es,ep,e,c⟩:=x;exact⟨z,y,vs,r,ob,es,ep,k _ _ (.inl rfl) e,c⟩
 |dT am=>
  obtain⟨z,y,xs,r,ob,es,ep,e,c⟩:=x;exact⟨z,y,xs,Paired.Ll r λp q z=>⟨z.1,ht _ _ z.2.1,z.2.2⟩,ob,es,ep,k _ _ (.inl rfl) e,c⟩
 |set S n=>obtain⟨ob,es,ep,t,e,c⟩:=x;exact⟨ob,es,ep,t,k _ _ (.inl rfl) e,c⟩
 |ins C dx fs=>
  obtain⟨d,z,ne,e,mA,⟨od,es,ep,e2,c⟩,r⟩:=x;exact⟨ho _ d,z,ne,k _ _ (.inl rfl) e,mA,⟨od,es,ep,k _ _ (.inr d) e2,c⟩,r⟩
 |own y=>obtain⟨ob,e⟩:=x;exact⟨ob,k _ _ (.inl rfl) e⟩
 |xd fs=>obtain⟨mA,⟨od,es,ep,e,c⟩,r⟩:=x;exact⟨mA,⟨od,es,ep,k _ _ (.inl rfl) e,c⟩,r⟩
 |rng lo hi=>obtain⟨t,u,v,e⟩:=x;exact⟨t,u,v,k _ _ (.inl rfl) e⟩
 |frz ob u ih=>obtain⟨e,q⟩:=x;exact⟨k _ _ (.inl rfl) e,ih q⟩
 |tbl ps=>
  have e:h.get? a=some { cls:=.none,data:=.fields ps}:=x;show h'.get? a=some { cls:=.none,data:=.fields ps};exact k a _ (.inl rfl) e
 |met f y=>
  have e:h.get? a=some (U2 (.ref f) (.ref y)):=x;show h'.get? a=some (U2 (.ref f) (.ref y));exact k a _ (.inl rfl) e
 |ext φ=>obtain⟨p,⟨o,e⟩,st⟩:=x;exact⟨st _ _ p λo q=>k _ _ (.inl rfl) q,⟨o,k _ _ (.inl rfl) e⟩,st⟩
theorem HOk.lt (x:HOk P w H h)(e:H a=some o):a<h.objs.size:=(x a o e).lt
theorem HOk.fresh (x:HOk P w H h)(e:h.objs.size<=a):H a=none:=by
 cases q:H a with
 |none=>rfl
 |some u=>exact absurd (u_ (x.lt q) e) (ND _)
theorem HOk.kept (x:HOk P w H h)(k:∀b u,h.get? b=some u->h'.get? b=some u):HOk P w H h':=λa o e=>
 (x a o e).pD (λb u _ q=>k b u q) (λ_ q=>q) λ_ _ q=>q
theorem HOk.laid (x:HOk P w H h)(k:∀b u,h.get? b=some u->h'.get? b=some u)(hp:h.objs.size<=a)(new:cV P w (upd H a o) h' a o):HOk P w (upd H a o) h':=λb u e=>by
 have hn:=x.fresh hp;by_cases hb:b=a
 ·subst hb;rw[ba]at e;cases e;exact new
 rw[aS hb]at e;exact(x b u e).pD (λc v _ q=>k c v q) (λc q=>by rw[aS (gy q hn)];exact q) λc xs q=>by rw[aS (gy q hn)];exact q
end
noncomputable def Rd(H:Hp)(a:Rt)(u:HO):Prop:=H a=some u\/∃o,H a=some (.frz o u)
variable {P:RC}{h:RM}
theorem Rd.ok {u:HO}(r:Rd H a u)(x:HOk P w H h):cV P w H h a u:=by
 rcases r with r|⟨o,r⟩
 ·exact x a u r
 obtain⟨_,q⟩:=x a _ r;exact q
noncomputable def Mut:Option HO->Prop
 |some (.lst _)=>True
 |some (.dK _)=>True
 |some (.dT _)=>True
 |some (.set _ _)=>True
 |some (.ins _ _ _)=>True
 |some (.ext _)=>True
 | _=>False
section
variable{P:RC}{w:RK}{H:Hp}{h h':RM}{x e:Rt}{o':HO}
theorem HOk.write (ok:HOk P w H h)(mu:Mut (H x))(he:e=x\/H e=some (.own x))(k:∀b u,b≠e->h.get? b=some u->h'.get? b=some u)(heo:∃u,h'.get? e=some u)
  (new:cV P w (upd H x o') h' x o'):HOk P w (upd H x o') h':=λb u q=>by
 have nown:∀c y,H c=some (.own y)->c≠x:=λc y r z=>by subst z;rw[r]at mu;exact mu
 have ntup:∀c xs,H c=some (.tup xs)->c≠x:=λc xs r z=>by subst z;rw[r]at mu;exact mu
 by_cases hb:b=x
 ·subst hb;rw[ba]at q;cases q;exact new
 rw[aS hb]at q;by_cases hbe:b=e
 ·have q':H b=some (.own x):=by
   rcases he with z|z
   ·exact absurd (hbe.trans z) hb
   rw[hbe];exact z
  rw[q]at q';cases q';obtain⟨v,hv⟩:=heo;exact⟨v,by rw[hbe];exact hv⟩
 refine(ok b u q).pD (λc v hc r=>k c v ?_ r) (λc r=>by rw[aS (nown c b r)];exact r) λc xs r=>by rw[aS (ntup c xs r)];exact r
 rcases hc with rfl|hc
 ·exact hbe
 rintro rfl;rcases he with z|z
 ·exact nown c b hc z
 rw[hc]at z;cases z;exact hb rfl
end
structure Un (fs ex:List Rt) (H H':Hp) (h h':RM):Prop where
 keep:∀b o,h.get? b=some o->H b=none->b ∉ fs->b ∉ ex->h'.get? b=some o
 slot:∀b o,h.get? b=some o->H b=none->b∈fs->b ∉ ex->∃sl,h'.get? b=some {o with slots:=sl}
 free:∀b o,h.get? b=some o->H b=none->b ∉ ex->H' b=none
 there:∀b o,h.get? b=some o->b ∉ ex->∃o',h'.get? b=some o'
 tups:∀b xs,H b=some (.tup xs)->H' b=some (.tup xs)
 frzs:∀b o u,H b=some (.frz o u)->H' b=some (.frz o u)
 tbls:∀b ps,H b=some (.tbl ps)->∃more,H' b=some (.tbl (ps++more))
section
variable{fs fs' ex ex':List Rt}{H H1 H2:Hp}{h h1 h2 h':RM}{a x e:Rt}{o:HO}
theorem Un.any (u:Un fs ex H H1 h h1){ob:Obj}(q:h.get? b=some ob)(n:H b=none)(hx:b ∉ ex):∃sl,h1.get? b=some {ob with slots:=sl}:=by
 by_cases hb:b∈fs
 ·exact u.slot b ob q n hb hx
 exact⟨ob.slots,u.keep b ob q n hb hx⟩
theorem Un.kept (k:∀b u,h.get? b=some u->h'.get? b=some u):Un fs ex H H h h':=
 ⟨λb ob q _ _ _=>k b ob q,λb ob q _ _ _=>⟨ob.slots,k b ob q⟩,λ_ _ _ n _=>n,λb ob q _=>⟨ob,k b ob q⟩,λ_ _ q=>q,λ_ _ _ q=>q,λ_ ps q=>⟨#[],by rw[q];simp⟩⟩
theorem Un.refl:Un fs ex H H h h:=Un.kept λ_ _ q=>q
theorem Un.laid (k:∀b u,h.get? b=some u->h'.get? b=some u)(hp:h.objs.size<=a)(hn:H a=none):Un fs ex H (upd H a o) h h' where
 keep:=λb u q _ _ _=>k b u q
 slot:=λb u q _ _ _=>⟨u.slots,k b u q⟩
 free:=λb u q n _=>by rw[aS (s_ (u_ (RE q) hp))];exact n
 there:=λb u q _=>⟨u,k b u q⟩
 tups:=λb xs q=>by rw[aS (gy q hn)];exact q
 frzs:=λb u xs q=>by rw[aS (gy q hn)];exact q
 tbls:=λb ps q=>⟨#[],by rw[aS (gy q hn),q];simp⟩
theorem Un.write (mu:Mut (H x))(he:e=x\/H e=some (.own x))(k:∀b u,b≠e->h.get? b=some u->h'.get? b=some u)(heo:∃u,h'.get? e=some u):Un fs ex H (upd H x o) h h':=by
 have hx:∀b,H b=none->b≠x:=λb n z=>by subst z;rw[n]at mu;exact mu
 have hb:∀b,H b=none->b≠e:=λb n z=>by
  subst z;rcases he with r|r
  ·exact hx b n r
  rw[n]at r;cases r
 have hm:∀b u,H b=some u->¬Mut (some u)->b≠x:=λb u q nm z=>by subst z;rw[q]at mu;exact nm mu
 refine⟨λb u q n _ _=>k b u (hb b n) q,λb u q n _ _=>⟨u.slots,k b u (hb b n) q⟩,λb u q n _=>by rw[aS (hx b n)];exact n,λb u q _=>?_,
  λb xs q=>by rw[aS (hm b _ q λz=>z)];exact q,λb u xs q=>by rw[aS (hm b _ q λz=>z)];exact q,λb ps q=>⟨#[],by rw[aS (hm b _ q λz=>z),q];simp⟩⟩
 by_cases hbe:b=e
 ·subst hbe;exact heo
 exact⟨u,k b u hbe q⟩
end
noncomputable def trk(h:RM)(H:Hp):List Rt:=(w_ h.objs.size).filter λa=>(H a).isSome
def v8(h:RM)(H:Hp):RM:=PySem.W.hideAll h (trk h H)
theorem B4(h:RM)(H:Hp):(v8 h H).objs.size=h.objs.size:=PySem.W.hideAll_size _ _
theorem E2{o:Obj}(e:h.get? b=some o)(n:H b=none):(v8 h H).get? b=some o:=
 PySem.W.hideAll_get _ e λhm=>by have q:(H b).isSome=true:=(Nd.mp hm).2;rw[n]at q;simp at q
theorem FQ{o:Obj}(e:(v8 h H).get? b=some o):h.get? b=some o/\H b=none:=by
 have e':h.get? b=some o:=PySem.W.of_hideAll (trk h H) e;refine⟨e',?_⟩;cases q:H b with
 |none=>rfl
 |some x=>
  have hm:b∈trk h H:=Nd.mpr ⟨NS.mpr (RE e'),by simp[q]⟩;have z:(v8 h H).get? b=none:=PySem.W.hideAll_none (trk h H) hm;rw[z]at e;cases e
noncomputable def Gd(g h:RM)(L:Rt):List (Rt×Obj):=(w_ h.objs.size).filterMap λa=>if a=L\/(g.get? a).isSome=true then none else(h.get? a).map λo=>(a,o)
def rest(g h:RM)(L d:Rt):List (Rt×Obj):=(Gd g h L).filter λp=>decide (p.1≠d)
structure Mod (K:Rr) (mg:Str->Option Rq) (base:RM):Prop where
 kin:K.In base
 glob:base.Ns Se mg
 blt:∃mb,base.Ns VS mb/\∀x:Str,x≠"__name__"->mb x=SR x
 nolimit:base.NoLimit
structure Cx where
 prog:RC
 w:RK
 K:Rr
 mg:Str->Option Rq
 base:RM
 A:RS
 N:List Str
 s₀:Ru
 H₀:Hp
 env:Env
 outer:List Env
 stack:List Env
 ex:List Rt
 fn:Str->Bool
 calm:Bool
 pn:List (Rt×Obj)
 xe:Rq->Ru->Prop
noncomputable def frs(l:List Env):List Rt:=l.filterMap (·.frame)
abbrev Cx.fs (X:Cx):List Rt:=frs X.outer
noncomputable def Vis(sc:Sl)(x:Str):Prop:=sc.names.lookup x=some .local\/sc.names.lookup x=some .cell\/sc.names.lookup x=some .free
noncomputable def Loc(sc:Sl)(x:Str):Prop:=sc.names.lookup x=some .local\/sc.names.lookup x=some .cell
noncomputable def Look(env:Env)(h:RM)(m:Str->Option Rq)(x:Str)(u:Rq):Prop:=
 (env.kindOf x=some .local/\m x=some u)\/((env.kindOf x=some .cell\/env.kindOf x=some .free)/\∃c,env.cells.lookup x=some c/\h.IsCell c (some u))
structure Cx.Ok (X:Cx):Prop where
 mod:Mod X.K X.mg X.base
 kind:X.env.scope.kind=.function
 glob:X.env.globals=Se
 blt:X.env.builtins=VS
 above:X.s₀.heap.objs.size<=X.env.locals
 inj:∀x y c,X.env.cells.lookup x=some c->X.env.cells.lookup y=some c->x=y
 has:∀x,(X.env.kindOf x=some .cell\/X.env.kindOf x=some .free)->∃c,X.env.cells.lookup x=some c
 cab:∀x c,X.fn x=true->X.env.cells.lookup x=some c->X.s₀.heap.objs.size<=c
 hd:X.calm=true->X.A.handled=none
 frames:X.A.frames=some X.stack
 stk:X.stack=X.outer\/(X.stack=X.env::X.outer/\X.env.frame=some X.env.locals)
 exf:∀b∈X.ex,b≠X.env.locals/\∀x c,X.env.cells.lookup x=some c->c≠b
 bs:∀b o,X.base.get? b=some o->X.s₀.heap.get? b=some o/\X.H₀ b=none
 bsz:X.base.objs.size<=X.s₀.heap.objs.size
 noex:∀b o,X.base.get? b=some o->b ∉ X.ex
 exfs:∀b∈X.ex,b ∉ X.fs
 sH:X.s₀.heap.FunFrames X.base X.outer
 frf:∀b∈X.fs,X.H₀ b=none
structure Inv (X:Cx) (ad:List (Rt×Obj)) (σ:List (Option V)) (H:Hp) (s:Ru):Prop where
 ok:X.Ok
 os:s.os=X.s₀.os
 bare:Uc s.gens
 base:Un X.fs X.ex X.H₀ H X.s₀.heap s.heap
 loc:∃m,s.heap.Ns X.env.locals m/\∀(i:Nat) (x:Str) (v:V),X.N[i]?=some x->σ[i]?=some (some v)->Vis X.env.scope x->∃u,RelV v u/\Look X.env s.heap m x u
 cell:∀x c,X.env.cells.lookup x=some c->∃v,s.heap.IsCell c v
 free:H X.env.locals=none
 freeC:∀x c,X.env.cells.lookup x=some c->H c=none
 pin:∀p∈X.pn++ad,s.heap.get? p.1=some p.2/\H p.1=none/\p.1≠X.env.locals/\p.1 ∉ X.fs/\∀v,p.2.data≠.cell v
 hok:HOk X.prog X.w H s.heap
 len:σ.length=X.N.length
variable {M:Tp}{N:List Str}{Q:Unit->Ru->Prop}{ch:List Rt}{g':Array GenState}{i j t':Nat}{v:V}{x:Str}
section
variable{X:Cx}{ad:List (Rt×Obj)}{σ:List (Option V)}{H H':Hp}{s:Ru}{h':RM}
theorem Cx.Ok.MD (ok:X.Ok){o:Obj}(e:X.base.get? b=some o):b ∉ X.fs:=λhb=>by have:=(ok.sH.mem hb).1;rw[e]at this;cases this
theorem Inv.bs (I:Inv X ad σ H s):∀b o,X.base.get? b=some o->s.heap.get? b=some o/\H b=none:=λb o e=>
 ⟨I.base.keep b o (I.ok.bs b o e).1 (I.ok.bs b o e).2 (I.ok.MD e) (I.ok.noex b o e),I.base.free b o (I.ok.bs b o e).1 (I.ok.bs b o e).2 (I.ok.noex b o e)⟩
theorem Inv.bk (I:Inv X ad σ H s):∀b o,X.base.get? b=some o->s.heap.get? b=some o:=λb o e=>(I.bs b o e).1
theorem Inv.mod (I:Inv X ad σ H s):Mod X.K X.mg X.base:=I.ok.mod
theorem Inv.kIn (I:Inv X ad σ H s):X.K.In s.heap:=I.ok.mod.kin.keeps I.bk
theorem Inv.lt (I:Inv X ad σ H s):X.env.locals<s.heap.objs.size:=let ⟨_,hn,_⟩:=I.loc;hn.lt
theorem Inv.sz (I:Inv X ad σ H s):X.s₀.heap.objs.size<=s.heap.objs.size:=p_ I.ok.above (L' I.lt)
theorem Inv.MK (I:Inv X ad σ H s)(h:s.heap.objs.size<=a):a ∉ X.fs:=λhb=>by obtain⟨_,o,ho,_⟩:=I.ok.sH.mem hb;exact absurd (u_ (RE ho) (p_ I.sz h)) (ND _)
theorem Inv.cne (I:Inv X ad σ H s):∀x c,X.env.cells.lookup x=some c->c≠X.env.locals:=λx c e z=>by obtain⟨v,o,ho,hd⟩:=I.cell x c e;obtain⟨m,⟨o',es,ep,ho',hd',_⟩,_⟩:=I.loc;rw[z,ho']at ho;cases ho;rw[hd']at hd;cases hd
theorem Inv.sH (I:Inv X ad σ H s):s.heap.FunFrames X.base X.outer:=by
 have all:∀(l:List Env),(∀b∈frs l,b∈X.fs)->X.s₀.heap.FunFrames X.base l->s.heap.FunFrames X.base l:=by
  intro l;induction l with
  |nil=>intro _ _;trivial
  |cons env r ih=>
   intro hs hl;obtain⟨hk,⟨L,o,hf,hn,ho,hd⟩,hr⟩:=hl;have hL:L∈X.fs:=hs L (by unfold frs;rw[O',hf];exact x_);obtain⟨sl,e⟩:=I.base.slot L o ho (I.ok.frf L hL) hL λz=>I.ok.exfs L z hL;exact⟨hk,⟨L,_,hf,hn,e,hd⟩,ih (λb hb=>hs b (by unfold frs;rw[O',hf];exact q_ _ hb)) hr⟩
 exact all X.outer (λ_ hb=>hb) I.ok.sH
theorem Inv.stack (I:Inv X ad σ H s):s.heap.FunFrames X.base X.stack:=by
 rcases I.ok.stk with e|⟨e,hf⟩
 ·rw[e];exact I.sH
 rw[e];obtain⟨m,hn,_⟩:=I.loc;refine .cons (by rw[I.ok.kind];decide) hf hn ?_ I.sH;exact Heap.get?_none_of_le (p_ I.ok.bsz I.ok.above)
theorem Inv.zG (I:Inv X ad σ H s):∀b∈frs X.stack,b∈X.env.locals::X.fs:=λb hb=>by
 rcases I.ok.stk with e|⟨e,hf⟩
 ·rw[e]at hb;exact q_ _ hb
 rw[e]at hb;unfold frs at hb;rw[O',hf]at hb;exact hb
theorem Inv.AE (I:Inv X ad σ H s):∀b∈frs X.stack,H b=none:=λb hb=>by
 rcases n_.mp (I.zG b hb)with e|hb
 ·rw[e];exact I.free
 obtain⟨_,o,ho,_⟩:=I.ok.sH.mem hb;exact I.base.free b o ho (I.ok.frf b hb) λz=>I.ok.exfs b z hb
theorem Inv.step {d':Drawn}(I:Inv X ad σ H s)
  (hch:∀b∈ch,(b∈X.ex\/X.s₀.heap.objs.size<=b)/\b≠X.env.locals/\(∀x c,X.env.cells.lookup x=some c->c≠b)/\∀p∈X.pn++ad,p.1≠b)
  (keep:∀b o,b≠X.env.locals->b ∉ X.fs->b ∉ ch->s.heap.get? b=some o->H b=none->h'.get? b=some o)
  (slot:∀b o,b≠X.env.locals->b∈X.fs->b ∉ ch->s.heap.get? b=some o->H b=none->∃sl,h'.get? b=some {o with slots:=sl}) (free:∀b o,b ∉ ch->s.heap.get? b=some o->H b=none->H' b=none)
  (there:∀b o,b ∉ ch->s.heap.get? b=some o->∃o',h'.get? b=some o')
  (tups:∀b xs,H b=some (.tup xs)->H' b=some (.tup xs)) (frzs:∀b o u,H b=some (.frz o u)->H' b=some (.frz o u)) (tbls:∀b ps,H b=some (.tbl ps)->∃more,H' b=some (.tbl (ps++more)))
  (ns:∀m,s.heap.Ns X.env.locals m->h'.Ns X.env.locals m) (hok:HOk X.prog X.w H' h') (hg:Uc g') :
  Inv X ad σ H' {s with heap:=h',gens:=g',drawn:=d',toks:=t'}:=by
 have neL:∀b o,X.s₀.heap.get? b=some o->b≠X.env.locals:=λb o e=>s_ (u_ (RE e) I.ok.above);have neC:∀b o,X.s₀.heap.get? b=some o->b ∉ X.ex->b ∉ ch:=λb o e hx hb=>by
  rcases(hch b hb).1 with z|z
  ·exact hx z
  exact absurd (u_ (RE e) z) (ND _)
 have cellK:∀x c,X.env.cells.lookup x=some c->∀v,s.heap.IsCell c v->h'.IsCell c v:=λx c e v ⟨o,ho,hd⟩=>by
  have nch:c ∉ ch:=λz=>(hch c z).2.2.1 x c e rfl;by_cases hc:c∈X.fs
  ·obtain⟨sl,q⟩:=slot c o (I.cne x c e) hc nch ho (I.freeC x c e);exact⟨_,q,hd⟩
  exact⟨o,keep c o (I.cne x c e) hc nch ho (I.freeC x c e),hd⟩
 refine⟨I.ok,I.os,hg,⟨λb o e n hb hx=>?_,λb o e n hb hx=>?_,λb o e n hx=>?_,λb o e hx=>?_,λb xs e=>tups b xs (I.base.tups b xs e),λb o xs e=>frzs b o xs (I.base.frzs b o xs e),λb ps e=>?_⟩,?_,λx c e=>?_,?_,λx c e=>?_,λp hp=>?_,hok,I.len⟩
 ·exact keep b o (neL b o e) hb (neC b o e hx) (I.base.keep b o e n hb hx) (I.base.free b o e n hx)
 ·obtain⟨sl,e1⟩:=I.base.slot b o e n hb hx;obtain⟨sl',e2⟩:=slot b _ (neL b o e) hb (neC b o e hx) e1 (I.base.free b o e n hx);exact⟨sl',e2⟩
 ·obtain⟨o',e1⟩:=I.base.there b o e hx;exact free b o' (neC b o e hx) e1 (I.base.free b o e n hx)
 ·obtain⟨o',e1⟩:=I.base.there b o e hx;exact there b o' (neC b o e hx) e1
 ·obtain⟨m1,e1⟩:=I.base.tbls b ps e;obtain⟨m2,e2⟩:=tbls b _ e1;exact⟨m1++m2,by rw[e2,Array.append_assoc]⟩
 ·obtain⟨m,hn,hl⟩:=I.loc;refine⟨m,ns m hn,λi x v e1 e2 e3=>?_⟩;obtain⟨u,r,l⟩:=hl i x v e1 e2 e3;refine⟨u,r,?_⟩;rcases l with l|⟨k,c,e,z⟩
  ·exact .inl l
  exact .inr ⟨k,c,e,cellK x c e _ z⟩
 ·obtain⟨v,z⟩:=I.cell x c e;exact⟨v,cellK x c e v z⟩
 ·obtain⟨m,⟨o,_,_,ho,_⟩,_⟩:=I.loc;exact free _ o (λz=>(hch _ z).2.1 rfl) ho I.free
 ·obtain⟨v,o,ho,hd⟩:=I.cell x c e;exact free c o (λz=>(hch c z).2.2.1 x c e rfl) ho (I.freeC x c e)
 obtain⟨e,n,ne,nf,d⟩:=I.pin p hp;have nch:p.1 ∉ ch:=λz=>(hch p.1 z).2.2.2 p hp rfl;exact⟨keep p.1 p.2 ne nf nch e n,free p.1 p.2 nch e n,ne,nf,d⟩
theorem Inv.un (I:Inv X ad σ H s)(u:Un X.fs [] H H' s.heap h')(hok:HOk X.prog X.w H' h'):Inv X ad σ H' {s with heap:=h',toks:=t'}:=by
 obtain⟨m,⟨o,es,ep,ho,r⟩,_⟩:=id I.loc;obtain⟨sl,hL⟩:=u.any ho I.free (by simp);exact I.step (g':=s.gens) (d':=s.drawn) (ch:=[]) (λ_ z=>nomatch z) (λb o _ hb _ e n=>u.keep b o e n hb (by simp)) (λb o _ hb _ e n=>u.slot b o e n hb (by simp)) (λb o _ e n=>u.free b o e n (by simp)) (λb o _ e=>u.there b o e (by simp)) u.tups u.frzs u.tbls (λm' hm=>by obtain⟨o',es',ep',ho',r'⟩:=hm;rw[ho]at ho';cases ho';exact⟨_,es',ep',hL,r'⟩) hok I.bare
theorem Inv.call {d':Drawn}(I:Inv X ad σ H s)(u:Un (frs X.stack) ch H H' s.heap h')(hok:HOk X.prog X.w H' h')(hg:Uc g')
  (hch:∀b∈ch,(b∈X.ex\/X.s₀.heap.objs.size<=b)/\b≠X.env.locals/\(∀x c,X.env.cells.lookup x=some c->c≠b)/\∀p∈X.pn++ad,p.1≠b) :
  Inv X ad σ H' {s with heap:=h',gens:=g',drawn:=d',toks:=t'}:=by
 obtain⟨m,⟨o,es,ep,ho,r⟩,_⟩:=id I.loc;obtain⟨sl,hL⟩:=u.any ho I.free λz=>(hch _ z).2.1 rfl;exact I.step (ch:=ch) hch (λb o hL hb hc e n=>u.keep b o e n (λz=>(n_.mp (I.zG b z)).elim hL hb) hc) (λb o _ _ hc e n=>u.any e n hc) (λb o hc e n=>u.free b o e n hc) (λb o hc e=>u.there b o e hc) u.tups u.frzs u.tbls (λm' hm=>by obtain⟨o',es',ep',ho',r'⟩:=hm;rw[ho]at ho';cases ho';exact⟨_,es',ep',hL,r'⟩) hok hg
theorem Inv.turned {it:Rt}(I:Inv X ad σ H s)(k:∀b o,b≠it->s.heap.get? b=some o->h'.get? b=some o)(hn:H it=none)(hL:it≠X.env.locals)
  (h1:it∈X.ex\/X.s₀.heap.objs.size<=it) (h2:∀x c,X.env.cells.lookup x=some c->c≠it) (h3:∀p∈X.pn++ad,p.1≠it):Inv X ad σ H {s with heap:=h',toks:=t'}:=by
 have nit:∀b u,H b=some u->b≠it:=λb u e z=>by rw[z,hn]at e;cases e
 refine I.step (g':=s.gens) (d':=s.drawn) (ch:=[it]) (λb hb=>?_) (λb o _ _ hc e _=>k b o (λz=>hc (by simp[z])) e) (λb o _ _ hc e _=>⟨o.slots,k b o (λz=>hc (by simp[z])) e⟩) (λ_ _ _ _ n=>n)
  (λb o hc e=>⟨o,k b o (λz=>hc (by simp[z])) e⟩) (λ_ _ e=>e) (λ_ _ _ e=>e) (λb ps e=>⟨#[],by rw[e];simp⟩) (λm hm=>?_) (λb u e=>?_) I.bare
 ·have e:b=it:=by simpa using hb
  subst e;exact⟨h1,hL,h2,h3⟩
 ·obtain⟨o,es,ep,ho,r⟩:=hm;exact⟨o,es,ep,k _ o (T3 hL) ho,r⟩
 refine(I.hok b u e).pD (λc v hc q=>k c v ?_ q) (λ_ q=>q) λ_ _ q=>q;rcases hc with z|z
 ·rw[z];exact nit b u e
 exact nit c _ z
theorem Inv.tok (I:Inv X ad σ H s)(t:Nat):Inv X ad σ H {s with toks:=t}:=I.un (h':=s.heap) (t':=t) Un.refl I.hok
theorem Inv.kept (I:Inv X ad σ H s)(k:∀b u,s.heap.get? b=some u->h'.get? b=some u):Inv X ad σ H {s with heap:=h',toks:=t'}:=I.un (Un.kept k) (I.hok.kept k)
theorem Inv.laid (I:Inv X ad σ H s)(k:∀b u,s.heap.get? b=some u->h'.get? b=some u)(hp:s.heap.objs.size<=a)(new:cV X.prog X.w (upd H a o) h' a o) :
  Inv X ad σ (upd H a o) {s with heap:=h',toks:=t'}:=I.un (Un.laid k hp (I.hok.fresh hp)) (I.hok.laid k hp new)
theorem Inv.write {x e:Rt}(I:Inv X ad σ H s)(mu:Mut (H x))(he:e=x\/H e=some (.own x))(k:∀b u,b≠e->s.heap.get? b=some u->h'.get? b=some u)(heo:∃u,h'.get? e=some u)
  (new:cV X.prog X.w (upd H x o) h' x o):Inv X ad σ (upd H x o) {s with heap:=h',toks:=t'}:=I.un (Un.write mu he k heo) (I.hok.write mu he k heo new)
theorem Inv.zY {pins':List (Rt×Obj)}(I:Inv X ad σ H s)(h:∀p∈pins',s.heap.get? p.1=some p.2/\H p.1=none/\p.1≠X.env.locals/\p.1 ∉ X.fs/\∀v,p.2.data≠.cell v):Inv X pins' σ H s:=
 ⟨I.ok,I.os,I.bare,I.base,I.loc,I.cell,I.free,I.freeC,λp hp=>(B_.mp hp).elim (λz=>I.pin p (G' _ z)) (h p),I.hok,I.len⟩
theorem x5(hN:N.Nodup)(a:N[i]?=some x)(b:N[j]?=some x):i=j:=by obtain⟨h1,e1⟩:=c_.mp a;obtain⟨h2,e2⟩:=c_.mp b;exact(QN hN).mp (e1.trans e2.symm)
theorem tV(I:Inv X ad σ H s)(hN:X.N.Nodup)(hi:X.N[i]?=some x)(hx:Loc X.env.scope x)(r:RelV v u)
  (h:∀s',Inv X ad (σ.set i (some v)) H s'->(∃a,Sr a s.heap s'.heap/\(a=X.env.locals\/X.env.cells.lookup x=some a))->Q () s') (hf:X.fn x=true\/X.env.scope.names.lookup x=some .local:=by first|exact .inl rfl|exact .inr rfl|assumption):RA M A (storeName X.env x u) Q E s:=by
 obtain⟨m,hn,hl⟩:=id I.loc;have hcls:(X.env.scope.kind == .class || (X.env.scope.kind == .module&&X.env.locals != X.env.globals))=false:=by rw[I.ok.kind];rfl
 have hiσ:i<σ.length:=by rw[I.len];exact(c_.mp hi).1
 have cne:=I.cne;have tracked:∀{a:Rt}{h':RM},(∃o,s.heap.get? a=some o/\H a=none)->Sr a s.heap h'->HOk X.prog X.w H h':=λ{a h'} ha hs b ob e=>by
  obtain⟨_,_,hfree⟩:=ha;refine(I.hok b ob e).pD (λc w' hc q=>(hs.2 c ?_).trans q) (λ_ q=>q) λ_ _ q=>q;rintro rfl;rcases hc with rfl|hc
  ·rw[hfree]at e;cases e
  rw[hfree]at hc;cases hc
 rcases hx with hk|hk
 ·refine wpAny_storeName_local hk hn (λh' hn' hs=>?_) hcls;obtain⟨oL,_,_,hoL,_⟩:=id hn;refine h _ ⟨I.ok,I.os,I.bare,⟨λb o e n hb hx=>?_,λb o e n hb hx=>?_,I.base.free,λb o e hx=>?_,I.base.tups,I.base.frzs,I.base.tbls⟩,⟨_,hn',λj y v' e1 e2 e3=>?_⟩,λy c e=>?_,I.free,I.freeC,λp hp=>?_,tracked ⟨oL,hoL,I.free⟩ hs,by simpa using I.len⟩ ⟨_,hs,.inl rfl⟩
  ·exact(hs.2 b (s_ (u_ (RE e) I.ok.above))).trans (I.base.keep b o e n hb hx)
  ·obtain⟨sl,e1⟩:=I.base.slot b o e n hb hx;exact⟨sl,(hs.2 b (s_ (u_ (RE e) I.ok.above))).trans e1⟩
  ·obtain⟨o',e1⟩:=I.base.there b o e hx;exact⟨o',(hs.2 b (s_ (u_ (RE e) I.ok.above))).trans e1⟩
  ·by_cases hj:j=i
   ·subst hj;rw[hi]at e1;cases e1;rw[OV hiσ]at e2;cases e2;exact⟨u,r,.inl ⟨hk,by simp⟩⟩
   rw[O1 (T3 hj)]at e2;obtain⟨u',r',q⟩:=hl j y v' e1 e2 e3;refine⟨u',r',?_⟩;rcases q with⟨k,e⟩|⟨k,c,e,z⟩
   ·refine .inl ⟨k,?_⟩;have:y≠x:=λe=>hj (x5 hN e1 (e▸hi));simp[this,e]
   exact .inr ⟨k,c,e,z.sameBut hs (cne y c e)⟩
  ·obtain⟨w',z⟩:=I.cell y c e;exact⟨w',z.sameBut hs (cne y c e)⟩
  obtain⟨e,n,ne,nf,d⟩:=I.pin p hp;exact⟨(hs.2 p.1 ne).trans e,n,ne,nf,d⟩
 have hfn:X.fn x=true:=by
  rcases hf with z|z
  ·exact z
  rw[z]at hk;cases hk
 obtain⟨c,hc⟩:=I.ok.has x (.inl hk);obtain⟨w',z⟩:=I.cell x c hc;refine wpAny_storeName_cell I.ok.kind hk hc z (λh' hc' hs=>?_);obtain⟨oc,hoc,hocd⟩:=id z;refine h {s with heap:=h'} ⟨I.ok,I.os,I.bare,⟨λb o e n hb hx=>?_,λb o e n hb hx=>?_,I.base.free,λb o e hx=>?_,I.base.tups,I.base.frzs,I.base.tbls⟩,⟨m,hn.sameBut hs (T3 (cne x c hc)),λj y v' e1 e2 e3=>?_⟩,λy c' e=>?_,I.free,I.freeC,λp hp=>?_,tracked ⟨oc,hoc,I.freeC x c hc⟩ hs,by simpa using I.len⟩ ⟨c,hs,.inr hc⟩
 ·exact(hs.2 b (s_ (u_ (RE e) (I.ok.cab x c hfn hc)))).trans (I.base.keep b o e n hb hx)
 ·obtain⟨sl,e1⟩:=I.base.slot b o e n hb hx;exact⟨sl,(hs.2 b (s_ (u_ (RE e) (I.ok.cab x c hfn hc)))).trans e1⟩
 ·obtain⟨o',e1⟩:=I.base.there b o e hx;exact⟨o',(hs.2 b (s_ (u_ (RE e) (I.ok.cab x c hfn hc)))).trans e1⟩
 ·by_cases hj:j=i
  ·subst hj;rw[hi]at e1;cases e1;rw[OV hiσ]at e2;cases e2;exact⟨u,r,.inr ⟨.inl hk,c,hc,hc'⟩⟩
  rw[O1 (T3 hj)]at e2;obtain⟨u',r',q⟩:=hl j y v' e1 e2 e3;refine⟨u',r',?_⟩;rcases q with q|⟨k,c',e,z'⟩
  ·exact .inl q
  refine .inr ⟨k,c',e,z'.sameBut hs ?_⟩;rintro rfl;exact hj (x5 hN e1 (I.ok.inj _ _ _ e hc▸hi))
 ·by_cases hcc:c'=c
  ·subst hcc;exact⟨_,hc'⟩
  obtain⟨w2,z2⟩:=I.cell y c' e;exact⟨w2,z2.sameBut hs hcc⟩
 obtain⟨e,n,ne,nf,d⟩:=I.pin p hp;refine⟨(hs.2 p.1 ?_).trans e,n,ne,nf,d⟩;intro q;rw[q,hoc]at e;have q':oc=p.2:=F_ e;exact d w' (by rw[<-q'];exact hocd)
theorem oP(I:Inv X ad σ H s)(hN:X.N.Nodup)(hi:X.N[i]?=some x)(hx:Loc X.env.scope x)(r:RelV v u)
  (h:∀s',Inv X ad (σ.set i (some v)) H s'->Q () s') (hf:X.fn x=true\/X.env.scope.names.lookup x=some .local:=by first|exact .inl rfl|exact .inr rfl|assumption):RA M A (storeName X.env x u) Q E s:=
 tV I hN hi hx r (λs' I' _=>h s' I') hf
theorem Inv.HN {s':Ru}(I:Inv X ad σ H s)(ho:s'.os=s.os)(u:Un (frs X.stack) ch H H' s.heap s'.heap)(hok:HOk X.prog X.w H' s'.heap)(hg:Uc s'.gens)
  (hch:∀b∈ch,(b∈X.ex\/X.s₀.heap.objs.size<=b)/\b≠X.env.locals/\(∀x c,X.env.cells.lookup x=some c->c≠b)/\∀p∈X.pn++ad,p.1≠b):Inv X ad σ H' s':=by
 obtain⟨h',g',d',t',o'⟩:=s';have e:o'=s.os:=ho;subst e;exact I.call (g':=g') (t':=t') (d':=d') u hok hg hch
end
abbrev XK:=Rq->Option Rt->Hp->Prop
abbrev St:=List (Option V)
abbrev VK:=V->Hp->Prop
abbrev TE:=St->Hp->VK->Prop
abbrev TT:=St->Hp->(Bool->Hp->Prop)->Prop
abbrev TA:=St->Hp->(List V->Hp->Prop)->Prop
structure Ends where
 nx:St->Hp->Prop
 rt:VK
 bk:St->Hp->Prop:=λ_ _=>False
 ct:St->Hp->Prop:=λ_ _=>False
abbrev TS:=Ends->St->Hp->Prop
def EP(X:Cx)(ad:List (Rt×Obj))(σ:St)(Q:VK)(u:Rq)(s':Ru):Prop:=∃v H',Inv X ad σ H' s'/\RelV v u/\Q v H'
noncomputable def TP(X:Cx)(ad:List (Rt×Obj))(σ:St)(Q:Bool->Hp->Prop)(b:Bool)(s':Ru):Prop:=∃H',Inv X ad σ H' s'/\Q b H'
def AP(X:Cx)(ad:List (Rt×Obj))(σ:St)(Q:List V->Hp->Prop)(us:List Rq)(s':Ru):Prop:=∃vs H',Inv X ad σ H' s'/\Vals vs us/\Q vs H'
def SP(X:Cx)(ad:List (Rt×Obj))(D:Ends)(f:Flow)(s':Ru):Prop:=
 match f with
 | .next=>∃ cr H',Inv X ad cr H' s'/\D.nx cr H'
 | .brk=>∃ cr H',Inv X ad cr H' s'/\D.bk cr H'
 | .cont=>∃ cr H',Inv X ad cr H' s'/\D.ct cr H'
 | .ret u=>∃v cr H',Inv X ad cr H' s'/\RelV v u/\D.rt v H'
def PE(X:Cx)(e:RI)(t:TE):Prop:=
 ∀(ad:List (Rt×Obj)) (s:Ru) (σ:St) (H:Hp) (Q:VK),Inv X ad σ H s->t σ H Q->RA (RJ X.prog X.w) X.A (RY e X.env) (EP X ad σ Q) X.xe s
def PT(X:Cx)(e:RI)(t:TT):Prop:=
 ∀(ad:List (Rt×Obj)) (s:Ru) (σ:St) (H:Hp) (Q:Bool->Hp->Prop),Inv X ad σ H s->t σ H Q->RA (RJ X.prog X.w) X.A (We e X.env (RY e X.env)) (TP X ad σ Q) X.xe s
def PW(X:Cx)(e:RI)(t:TT):Prop:=
 ∀(whole:Sem Rq) (ad:List (Rt×Obj)) (s:Ru) (σ:St) (H:Hp) (Q:Bool->Hp->Prop),Inv X ad σ H s->t σ H Q->RA (RJ X.prog X.w) X.A (We e X.env whole) (TP X ad σ Q) X.xe s
variable {X:Cx}{e:RI}
theorem PW.pt {t:TT}(h:PW X e t):PT X e t:=h _
def PA(X:Cx)(es:List RI)(t:TA):Prop:=
 ∀(pos:Pos) (ad:List (Rt×Obj)) (s:Ru) (σ:St) (H:Hp) (Q:List V->Hp->Prop),Inv X ad σ H s->t σ H Q->RA (RJ X.prog X.w) X.A (spliced (SS pos (RN es X.env))) (AP X ad σ Q) X.xe s
def PS(X:Cx)(st:RW)(t:TS):Prop:=
 ∀(ad:List (Rt×Obj)) (s:Ru) (σ:St) (H:Hp) (D:Ends),Inv X ad σ H s->t D σ H->RA (RJ X.prog X.w) X.A (exec st X.env) (SP X ad D) X.xe s
def PSs(X:Cx)(st:List RW)(t:TS):Prop:=
 ∀(ad:List (Rt×Obj)) (s:Ru) (σ:St) (H:Hp) (D:Ends),Inv X ad σ H s->t D σ H->RA (RJ X.prog X.w) X.A (execs st X.env) (SP X ad D) X.xe s
theorem thn{α:Type}{t:Sem α}{Q Q':α->Ru->Prop}(h:RA M A t Q E s)(hQ:∀a s,Q a s->Q' a s):RA M A t Q' E s:=RZ h hQ λ_ _ x=>x
variable {ad:List (Rt×Obj)}{pos:Pos}{σ:St}
section
variable{X:Cx}
noncomputable def Il(i:Nat):TE:=λσ H Q=>∃v,σ[i]?=some (some v)/\Q v H
noncomputable def tC(v:V):TE:=λ_ H Q=>Q v H
theorem kL(hN:X.N[i]?=some x)(hv:Vis X.env.scope x)(hd:(x ==("__debug__":Str))=false:=by decide)(hcd:(x ==("__classdict__":Str))=false:=by decide):PE X (.Name x pos) (Il i):=by
 intro ad s σ H Q I h;obtain⟨v,e,h⟩:=h;obtain⟨m,hn,hl⟩:=I.loc;obtain⟨u,r,l⟩:=hl i x v hN e hv;have fin:EP X ad σ Q u s:=⟨v,H,I,r,h⟩;rcases l with⟨hk,hm⟩|⟨hk,c,hc,hcell⟩
 ·exact WT (wpAny_loadName_local I.ok.kind hk hn hm fin) hd
 rcases hk with hk|hk
 ·exact WT (wpAny_loadName_cell I.ok.kind hk hc hcell fin) hd
 exact WT (wpAny_loadName_free I.ok.kind hk hc hcell fin hcd) hd
theorem iF{i j pos}:PE X (.Constant (.int i) j pos) (tC (.int i)):=λ_ _ _ H _ I h=>wpAny_Constant_int ⟨.int i,H,I.tok _,⟨_,rfl⟩,h⟩
theorem KA{b j pos}:PE X (.Constant (.bool b) j pos) (tC (.bl b)):=λ_ _ _ H _ I h=>Constant_bool ⟨.bl b,H,I,rfl,h⟩
theorem Jq{j pos}:PE X (.Constant .none j pos) (tC .non):=λ_ _ _ H _ I h=>Constant_none ⟨.non,H,I,rfl,h⟩
theorem nY{x j pos}:PE X (.Constant (.str x) j pos) (tC (.str x)):=λ_ _ _ H _ I h=>Calls.Constant_str ⟨.str x,H,I.tok _,⟨_,rfl⟩,h⟩
noncomputable def Gl(X:Cx)(x:Str):Prop:=X.env.kindOf x=some .globalImplicit
theorem AQ{Q:Rq->Ru->Prop}(I:Inv X ad σ H s)(hg:Gl X x)(hm:X.mg x=some u)(h:Q u s)
  (hd:(x ==("__debug__":Str))=false:=by decide):RA (RJ X.prog X.w) X.A (RY (.Name x pos) X.env) Q E s:=
 UQ I.ok.kind hg (Calls.loadGlobal_global (by rw[I.ok.glob];exact I.mod.glob.keeps I.bk) hm h) hd
theorem lH{Q:Rq->Ru->Prop}(I:Inv X ad σ H s)(hg:Gl X x)(hm:X.mg x=none)(hv:SR x=some u)(h:Q u s)
  (hn:x≠"__name__":=by decide) (hd:(x ==("__debug__":Str))=false:=by decide):RA (RJ X.prog X.w) X.A (RY (.Name x pos) X.env) Q E s:=by
 obtain⟨mb,h1,h2⟩:=I.mod.blt;exact UQ I.ok.kind hg (Calls.loadGlobal_builtin (by rw[I.ok.glob];exact I.mod.glob.keeps I.bk) hm (by rw[I.ok.blt];exact h1.keeps I.bk) ((h2 x hn).trans hv) h) hd
theorem GL(hg:Gl X x)(hm:X.mg x=some u)(r:RelV v u)(hd:(x ==("__debug__":Str))=false:=by decide):PE X (.Name x pos) (tC v):=
 λ_ _ _ H _ I h=>AQ I hg hm ⟨v,H,I,r,h⟩ hd
theorem Hb(hg:Gl X x)(hm:X.mg x=none)(hv:SR x=some u)(r:RelV v u)(hn:x≠"__name__":=by decide)(hd:(x ==("__debug__":Str))=false:=by decide):PE X (.Name x pos) (tC v):=
 λ_ _ _ H _ I h=>lH I hg hm hv ⟨v,H,I,r,h⟩ hn hd
variable{a b:RI}{ta tb:TE}{pos:Pos}
variable{tA tB':TT}{rest:List RI}
noncomputable def ME(t u:TT):TT:=λσ H Q=>t σ H λc H1=>if c=true then u σ H1 Q else Q false H1
noncomputable def tOr(t u:TT):TT:=λσ H Q=>t σ H λc H1=>if c=true then Q true H1 else u σ H1 Q
noncomputable def Mn(t:TT):TT:=λσ H Q=>t σ H λc H1=>Q (!c) H1
theorem FE(ha:PT X a tA):PW X (.BoolOp .And [a] pos) tA:=by
 intro wh ad s σ H Q I h;refine isTrue_and (thn (ha ad s σ H Q I h) λc s1 e=>?_);cases c with
 |true=>exact isTrue_and_nil e
 |false=>exact e
theorem JM(ha:PT X a tA):PW X (.BoolOp .Or [a] pos) tA:=by
 intro wh ad s σ H Q I h;refine isTrue_or (thn (ha ad s σ H Q I h) λc s1 e=>?_);cases c with
 |false=>exact isTrue_or_nil e
 |true=>exact e
theorem Ja(ha:PT X a tA)(hb:PW X (.BoolOp .And (b::rest) pos) tB'):PW X (.BoolOp .And (a::b::rest) pos) (ME tA tB'):=by
 intro wh ad s σ H Q I h;refine isTrue_and (thn (ha ad s σ H _ I h) ?_);rintro c s1 ⟨H1,I1,q1⟩;cases c with
 |true=>exact hb wh ad s1 σ H1 Q I1 q1
 |false=>exact⟨H1,I1,q1⟩
theorem Lu(ha:PT X a tA)(hb:PW X (.BoolOp .Or (b::rest) pos) tB'):PW X (.BoolOp .Or (a::b::rest) pos) (tOr tA tB'):=by
 intro wh ad s σ H Q I h;refine isTrue_or (thn (ha ad s σ H _ I h) ?_);rintro c s1 ⟨H1,I1,q1⟩;cases c with
 |true=>exact⟨H1,I1,q1⟩
 |false=>exact hb wh ad s1 σ H1 Q I1 q1
theorem Ke(ha:PT X a tA):PT X (.UnaryOp .Not a pos) (Mn tA):=by intro ad s σ H Q I h;exact isTrue_not (ha ad s σ H (λc H1=>Q (!c) H1) I h)
noncomputable def Ky(ta tb:TE):TE:=λσ H Q=>ta σ H λx H1=>∃c,x=.bl c/\if c=true then tb σ H1 Q else Q (.bl false) H1
noncomputable def Mc(ta tb:TE):TE:=λσ H Q=>ta σ H λx H1=>∃c,x=.bl c/\if c=true then Q (.bl true) H1 else tb σ H1 Q
noncomputable def LF(ta:TE):TE:=λσ H Q=>ta σ H λx H1=>∃c,x=.bl c/\Q (.bl (!c)) H1
theorem Jy{op}{t:TE}(h:PE X a t):PE X (.BoolOp op [a] pos) t:=λad s σ H Q I hw=>BoolOp_one (h ad s σ H Q I hw)
theorem Kb(ha:PE X a ta)(hb:PE X (.BoolOp .And (b::rest) pos) tb):PE X (.BoolOp .And (a::b::rest) pos) (Ky ta tb):=by
 intro ad s σ H Q I h;refine BoolOp_and (thn (ha ad s σ H _ I h) ?_);rintro v s1 ⟨x,H1,I1,r1,q1⟩;obtain⟨c,rfl,q1⟩:=q1;cases r1;refine Sf ?_;cases c with
 |true=>exact hb ad s1 σ H1 Q I1 q1
 |false=>exact⟨.bl false,H1,I1,rfl,q1⟩
theorem Km(ha:PE X a ta)(hb:PE X (.BoolOp .Or (b::rest) pos) tb):PE X (.BoolOp .Or (a::b::rest) pos) (Mc ta tb):=by
 intro ad s σ H Q I h;refine BoolOp_or (thn (ha ad s σ H _ I h) ?_);rintro v s1 ⟨x,H1,I1,r1,q1⟩;obtain⟨c,rfl,q1⟩:=q1;cases r1;refine Sf ?_;cases c with
 |false=>exact hb ad s1 σ H1 Q I1 q1
 |true=>exact⟨.bl true,H1,I1,rfl,q1⟩
theorem Jk(ha:PE X a ta):PE X (.UnaryOp .Not a pos) (LF ta):=by intro ad s σ H Q I h;refine UnaryOp_ (thn (ha ad s σ H _ I h) ?_);rintro v s1 ⟨x,H1,I1,r1,q1⟩;obtain⟨c,rfl,q1⟩:=q1;cases r1;exact not_of (Sf ⟨.bl (!c),H1,I1,rfl,q1⟩)
end
def SqL(K:Rr)(H:Hp)(a:Rt)(xs:List V):Prop:=
 Rd H a (.lst xs)\/
  ∃(o:Obj) (be:Array Rq) (n:Nat),K.lookup a=some o/\o.cls=.type "list"/\o.dict=none/\o.data=.seq be n/\be.size<=sizeLine/\Vals xs be.toList
def SqT(K:Rr)(H:Hp)(a:Rt)(xs:List V):Prop:=
 Rd H a (.tup xs)\/
  ∃(o:Obj) (be:Array Rq) (n:Nat),K.lookup a=some o/\o.cls=.type "tuple"/\o.data=.seq be n/\be.size<=sizeLine/\Vals xs be.toList
noncomputable def Mx:Rq->Option V
 | .none=>some .non
 | .bool b=>some (.bl b)
 | .int i _=>some (.int i)
 | .str x _=>some (.str x)
 | .bytes b _=>some (.byt b)
 | .float b _=>some (.flt b)
 | .ref a=>some (.ref a)
 | .type n=>some (.ty n)
 | _=>none
theorem RelV.abs {x:V}(r:RelV x u):Mx u=some x:=by
 cases x with
 |non=>cases r;rfl
 |bl _=>cases r;rfl
 |int _=>obtain⟨t,rfl⟩:=r;rfl
 |str _=>obtain⟨t,rfl⟩:=r;rfl
 |byt _=>obtain⟨t,rfl⟩:=r;rfl
 |flt _=>obtain⟨t,rfl⟩:=r;rfl
 |ref _=>cases r;rfl
 |ty _=>cases r;rfl
theorem RelV.inj {x y:V}(r:RelV x u)(q:RelV y u):x=y:=F_ (r.abs.symm.trans q.abs)
theorem Vals.inj:∀{xs ys:List V}{us:List Rq},Vals xs us->Vals ys us->xs=ys:=by
 intro xs ys us x;induction x generalizing ys with
 |nil=>intro y;cases y;rfl
 |cons r t ih=>
  intro y;cases y with
  |cons r' t'=>rw[r.inj r',ih t']
variable {K:Rr}
section
variable{X:Cx}{ad:List (Rt×Obj)}{σ:St}{H:Hp}{s:Ru}{a:Rt}{xs ys:List V}
theorem SqL.of (h:H a=some (.lst xs)):SqL K H a xs:=.inl (.inl h)
theorem SqT.of (h:H a=some (.tup xs)):SqT K H a xs:=.inl (.inl h)
theorem Inv.list (I:Inv X ad σ H s)(h:SqL X.K H a xs):∃be:List Rq,Vals xs be/\PlainL s.heap a be.toArray/\xs.length<=sizeLine:=by
 rcases h with h|⟨o,be,n,hk,hc,hd,hs,hz,r⟩
 ·obtain⟨z,be,n,r,e⟩:=h.ok I.hok;exact⟨be,r,⟨_,n,e,rfl,rfl,rfl⟩,z⟩
 refine⟨be.toList,r,⟨o,n,I.kIn a o hk,hc,hd,by simpa using hs⟩,?_⟩;have e:=r.length;simp only[h_]at e;lia
theorem Inv.tuple (I:Inv X ad σ H s)(h:SqT X.K H a xs):∃be:List Rq,Vals xs be/\XA s.heap a be.toArray/\xs.length<=sizeLine:=by
 rcases h with h|⟨o,be,n,hk,hc,hs,hz,r⟩
 ·obtain⟨z,be,r,p⟩:=h.ok I.hok;exact⟨be,r,p,z⟩
 refine⟨be.toList,r,⟨o,I.kIn a o hk,hc,n,by simpa using hs⟩,?_⟩;have e:=r.length;simp only[h_]at e;lia
theorem Inv.wD (I:Inv X ad σ H s)(h:SqL X.K H a xs)(h':SqL X.K H a ys):xs=ys:=by
 obtain⟨be,r,⟨o,n,e,_,_,d⟩,_⟩:=I.list h;obtain⟨its',r',⟨o',n',e',_,_,d'⟩,_⟩:=I.list h';rw[e]at e';cases e';rw[d]at d';injection d' with d1 _
 have:be=its':=by simpa using congrArg Rb d1
 subst this;exact r.inj r'
theorem Inv.pP (I:Inv X ad σ H s)(h:SqT X.K H a xs)(h':SqT X.K H a ys):xs=ys:=by
 obtain⟨be,r,⟨o,e,_,n,d⟩,_⟩:=I.tuple h;obtain⟨its',r',⟨o',e',_,n',d'⟩,_⟩:=I.tuple h';rw[e]at e';cases e';rw[d]at d';injection d' with d1 _
 have:be=its':=by simpa using congrArg Rb d1
 subst this;exact r.inj r'
end
abbrev Cx.tI (X:Cx)(E:Rq->Ru->Prop):Cx:={ X with xe:=E}
abbrev Cx.nox (X:Cx):Cx:=X.tI λ_ _=>False
theorem Cx.Ok.tI (ok:X.Ok)(E:Rq->Ru->Prop):(X.tI E).Ok:=
 ⟨ok.mod,ok.kind,ok.glob,ok.blt,ok.above,ok.inj,ok.has,ok.cab,ok.hd,ok.frames,ok.stk,ok.exf,ok.bs,ok.bsz,ok.noex,ok.exfs,ok.sH,ok.frf⟩
theorem Cx.Ok.lW (ok:(X.tI E).Ok):X.Ok:=
 ⟨ok.mod,ok.kind,ok.glob,ok.blt,ok.above,ok.inj,ok.has,ok.cab,ok.hd,ok.frames,ok.stk,ok.exf,ok.bs,ok.bsz,ok.noex,ok.exfs,ok.sH,ok.frf⟩
section
variable{X:Cx}{ad:List (Rt×Obj)}{σ:St}{H:Hp}{s:Ru}{E:Rq->Ru->Prop}
theorem Inv.tI (I:Inv X ad σ H s)(E:Rq->Ru->Prop):Inv (X.tI E) ad σ H s:=⟨I.ok.tI E,I.os,I.bare,I.base,I.loc,I.cell,I.free,I.freeC,I.pin,I.hok,I.len⟩
theorem Inv.lW (I:Inv (X.tI E) ad σ H s):Inv X ad σ H s:=⟨I.ok.lW,I.os,I.bare,I.base,I.loc,I.cell,I.free,I.freeC,I.pin,I.hok,I.len⟩
theorem SP.lW {D:Ends}{f:Flow}{s':Ru}(h:SP (X.tI E) ad D f s'):SP X ad D f s':=by
 cases f with
 |next=>obtain⟨cr,H',I,q⟩:=h;exact⟨cr,H',I.lW,q⟩
 |brk=>obtain⟨cr,H',I,q⟩:=h;exact⟨cr,H',I.lW,q⟩
 |cont=>obtain⟨cr,H',I,q⟩:=h;exact⟨cr,H',I.lW,q⟩
 |ret u=>obtain⟨v,cr,H',I,r,q⟩:=h;exact⟨v,cr,H',I.lW,r,q⟩
theorem PSs.nox {st:List RW}{t:TS}(h:PSs X.nox st t):PSs X st t:=λad s σ H D I hw=>
 RZ (h ad s σ H D (I.tI _) hw) (λ_ _ q=>q.lW) λ_ _ z=>RL z
end
section
variable{X:Cx}{st:RW}{rest:List RW}{t u:TS}{e:RI}{te:TE}{pos:Pos}
noncomputable def Kq:TS:=λD σ H=>D.nx σ H
noncomputable def Md(t u:TS):TS:=λD σ H=>t { D with nx:=u D} σ H
theorem vV:PSs X [] Kq:=λ_ _ σ H _ I h=>Vq ⟨σ,H,I,h⟩
theorem gI(h1:PS X st t)(h2:PSs X rest u):PSs X (st::rest) (Md t u):=by
 intro ad s σ H D I h;refine WE (thn (h1 ad s σ H { D with nx:=u D} I h) λf s1 q=>?_);cases f with
 |next=>
  obtain⟨cr,H',I',q⟩:=q;exact h2 ad s1 cr H' D I' q
 |ret v=>exact q
 |brk=>exact q
 |cont=>exact q
theorem ox(h1:PS X st t):PSs X [st] t:=by
 intro ad s σ H D I h;refine WE (thn (h1 ad s σ H D I h) λf s1 q=>?_);cases f with
 |next=>exact Vq q
 |ret v=>exact q
 |brk=>exact q
 |cont=>exact q
theorem Inv.quiet (I:Inv X ad σ H s):XY X.env=false:=by simp[XY,I.ok.kind]
noncomputable def LD(te:TE):TS:=λD σ H=>te σ H λ_ H1=>D.nx σ H1
theorem Gz(he:PE X e te)(hs:TN e none pos.line X.env=pure false:=by rfl):PS X (.Expr e pos) (LD te):=by intro ad s σ H D I h;exact wpAny_Expr_any (thn (he ad s σ H _ I h) λv s1 ⟨x,H1,I1,r1,q1⟩=>⟨σ,H1,I1,q1⟩) I.quiet hs
noncomputable def MC(te:TE):TS:=λD σ H=>te σ H D.rt
theorem vM(he:PE X e te):PS X (.Return (some e) pos) (MC te):=by intro ad s σ H D I h;exact wpAny_Return_some (thn (he ad s σ H _ I h) λv s1 ⟨x,H1,I1,r1,q1⟩=>⟨x,σ,H1,I1,r1,q1⟩)
noncomputable def Ml(c:TT)(t u:TS):TS:=λD σ H=>c σ H λb H1=>if b=true then t D σ H1 else u D σ H1
theorem CO{c:RI}{a b:List RW}{tc:TT}(hc:PT X c tc)(ha:PSs X a t)(hb:PSs X b u):PS X (.If c a b pos) (Ml tc t u):=by
 intro ad s σ H D I h;refine wpAny_If (thn (hc ad s σ H _ I h) ?_);rintro d s1 ⟨H1,I1,q1⟩;cases d with
 |true=>exact ha ad s1 σ H1 D I1 q1
 |false=>exact hb ad s1 σ H1 D I1 q1
end
abbrev TG:=V->St->Hp->(St->Hp->Prop)->Prop
abbrev TGs:=List V->St->Hp->(St->Hp->Prop)->Prop
def PG(X:Cx)(target:RI)(t:TG):Prop:=
 ∀(ad:List (Rt×Obj)) (s:Ru) (σ:St) (H:Hp) (v:V) (u:Rq) (Q:St->Hp->Prop),Inv X ad σ H s->RelV v u->t v σ H Q->
  RA (RJ X.prog X.w) X.A (TQ target X.env u) (λ_ s'=>∃ cr H',Inv X ad cr H' s'/\Q cr H') X.xe s
def PGs(X:Cx)(ts:List RI)(t:TGs):Prop:=
 ∀(ad:List (Rt×Obj)) (s:Ru) (σ:St) (H:Hp) (vs:List V) (us:List Rq) (Q:St->Hp->Prop),Inv X ad σ H s->Vals vs us->t vs σ H Q->
  RA (RJ X.prog X.w) X.A (UR ((Sd ts X.env).map (·.2)) us) (λ_ s'=>∃ cr H',Inv X ad cr H' s'/\Q cr H') X.xe s
abbrev Fw:=V->V->V->Hp->(Hp->Prop)->Prop
def zi(X:Cx)(t:Fw):Prop:=
 ∀(ad:List (Rt×Obj)) (s:Ru) (σ:St) (H:Hp) (o i v:V) (ov iv u:Rq) (Q:Hp->Prop),Inv X ad σ H s->RelV o ov->RelV i iv->RelV v u->t o i v H Q->
  RA (RJ X.prog X.w) X.A (W_ ov iv u) (λ_ s'=>∃H',Inv X ad σ H' s'/\Q H') X.xe s
variable {es:List RI}{ta:TA}{tg:RI}
section
variable{X:Cx}{pos:Pos}
noncomputable def Aa(i:Nat):TG:=λv σ H Q=>Q (σ.set i (some v)) H
theorem Ad(hN:X.N.Nodup)(hi:X.N[i]?=some x)(hx:Loc X.env.scope x)(hf:X.fn x=true\/X.env.scope.names.lookup x=some .local:=by first|exact .inl rfl|exact .inr rfl|assumption):PG X (.Name x pos) (Aa i):=by intro ad s σ H v u Q I r h;exact Wq (oP I hN hi hx r (λs' I'=>⟨_,H,I',h⟩) hf)
noncomputable def Me:TGs:=λvs σ H Q=>vs=[]/\Q σ H
noncomputable def KO(t:TG)(u:TGs):TGs:=λvs σ H Q=>∃v r,vs=v::r/\t v σ H λcr H'=>u r cr H' Q
theorem Ag:PGs X [] Me:=by intro ad s σ H vs us Q I r h;obtain⟨e,h⟩:=h;subst e;cases r;exact Wr ⟨σ,H,I,h⟩
theorem sh{t:TG}{u:TGs}(h1:PG X e t)(h2:PGs X es u)
  (hs:(Sd (e::es) X.env).map (·.2)=TQ e X.env::(Sd es X.env).map (·.2):=by rfl):PGs X (e::es) (KO t u):=by
 intro ad s σ H vs us Q I r h;obtain⟨v,vr,e1,h⟩:=h;subst e1;cases r with
 |cons r rr=>
  rw[hs];refine UI (thn (h1 ad s σ H _ _ _ I r h) ?_);rintro _ s1 ⟨σ1,H1,I1,q1⟩;exact h2 ad s1 σ1 H1 _ _ Q I1 rr q1
def Mg(K:Rr)(n:Nat)(t:TGs):TG:=λv σ H Q=>∃a xs,v=.ref a/\SqT K H a xs/\xs.length=n/\t xs σ H Q
theorem Ek{k:Nat}{t:TGs}{n:Nat}(hc:X.calm=true)(h:PGs X es t)
  (hn:(Sd es X.env).length=n:=by rfl) (hst:(Sd es X.env).findIdx? (·.1)=none:=by rfl):PG X (.Tuple es k pos) (Mg X.K n t):=by
 intro ad s σ H v u Q I r hw;obtain⟨a,xs,e1,hq,hl,hw⟩:=hw;subst e1;cases r;obtain⟨be,rv,ht,hz⟩:=I.tuple hq;refine assign_Tuple_tuple (I.ok.hd hc) ht (by simp[hn,<-hl,rv.length]) hst λh' hx=>?_
 have I1:Inv X ad σ H {s with heap:=h'}:=I.kept (t':=s.toks) λb o e=>hx b o (s_ (RE e)) e;exact h ad _ σ H xs _ Q I1 (by simpa using rv) hw
noncomputable def Mv(to ti:TE)(t:Fw):TG:=λv σ H Q=>to σ H λo H1=>ti σ H1 λi H2=>t o i v H2 λH3=>Q σ H3
theorem ES{o i:RI}{to ti:TE}{t:Fw}(ho:PE X o to)(hi:PE X i ti)(hs:zi X t)
  (ha:∀v,TQ (.Subscript o i pos) X.env v=(do
   let ov <-Uy [v] (RY o X.env)
   let iv <-Uy [v,ov] (RY i X.env)
   W' pos
   Uy [v,ov,iv] (W_ ov iv v)
   release [v,ov,iv] []):=by intro _;rfl):PG X (.Subscript o i pos) (Mv to ti t):=by
 intro ad s σ H v u Q I r h;rw[ha];refine Ro (R1 (thn (ho ad s σ H _ I h) ?_));rintro ov s1 ⟨x,H1,I1,r1,q1⟩;refine Ro (R1 (thn (hi ad s1 σ H1 _ I1 q1) ?_));rintro iv s2 ⟨y,H2,I2,r2,q2⟩;refine Ro (Tf (Ro (R1 (thn (hs ad s2 σ H2 x y v ov iv u _ I2 r1 r2 r q2) ?_))));rintro _ s3 ⟨H3,I3,q3⟩;exact wpAny_release ⟨σ,H3,I3,q3⟩
noncomputable def Gx(te:TE)(g:TG):TS:=λD σ H=>te σ H λx H1=>g x σ H1 D.nx
theorem C5{te:TE}{g:TG}(he:PE X e te)(hg:PG X tg g)(hs:US [tg] e pos.line X.env=pure false:=by rfl)(hw:UT [tg] e X.env=pure none:=by rfl)
  (h1:(Sd [tg] X.env).map (·.2)=[TQ tg X.env]:=by rfl):PS X (.Assign [tg] e pos) (Gx te g):=by
 intro ad s σ H D I h;refine wpAny_Assign_stores (thn (he ad s σ H _ I h) λv s1 ⟨x,H1,I1,r1,q1⟩=>?_) hs hw;rw[h1];exact thn (hg ad s1 σ H1 x v _ I1 r1 q1) λ_ s2 q=>q
theorem ml{te:TE}{pos':Pos}(hN:X.N.Nodup)(hi:X.N[i]?=some x)(hx:Loc X.env.scope x)(he:PE X e te)(hs:TN e (some (.Name x pos')) pos.line X.env=pure false:=by rfl)(hf:X.fn x=true\/X.env.scope.names.lookup x=some .local:=by first|exact .inl rfl|exact .inr rfl|assumption) :
  PS X (.Assign [.Name x pos'] e pos) (Gx te (Aa i)):=by
 intro ad s σ H D I h;refine wpAny_Assign_Name (thn (he ad s σ H _ I h) λv s1 ⟨y,H1,I1,r1,q1⟩=>?_) hs;exact oP I1 hN hi hx r1 (λs2 I2=>⟨_,H1,I2,q1⟩) hf
noncomputable def MG(i j:Nat)(ta:TA):TS:=λD σ H=>ta σ H λvs H1=>∃v w,vs=[v,w]/\D.nx ((σ.set i (some v)).set j (some w)) H1
theorem JK{y:Str}{a b:RI}{px py pt:Pos}{kt k2 pt2}(hc:X.calm=true)(hN:X.N.Nodup)(hi:X.N[i]?=some x)(hj:X.N[j]?=some y)(kw:i≠j)
  (hx:X.env.scope.names.lookup x=some .local) (hy:X.env.scope.names.lookup y=some .local) (ha:PA X [a,b] ta)
  (hw:UT [.Tuple [.Name x px,.Name y py] kt pt] (.Tuple [a,b] k2 pt2) X.env=pure (some [x,y]))
  (hs:US [.Tuple [.Name x px,.Name y py] kt pt] (.Tuple [a,b] k2 pt2) pos.line X.env=pure false:=by rfl) :
  PS X (.Assign [.Tuple [.Name x px,.Name y py] kt pt] (.Tuple [a,b] k2 pt2) pos) (MG i j ta):=by
 intro ad s σ H D I h;rw[exec_Assign_arm];refine Ro (Tf ?_);rw[hs];refine Ro (Rv ?_);rw[if_neg (by decide)];refine Ro (Tuple_ (thn (ha _ ad s σ H _ I h) ?_));rintro us s1 ⟨vs,H1,I1,r1,q1⟩;obtain⟨v,w,e1,q1⟩:=q1;subst e1;obtain⟨u1,u2,rfl,rv,rw'⟩:∃u1 u2,us=[u1,u2]/\RelV v u1/\RelV w u2:=by
  cases r1 with
  |cons p q=>
   cases q with
   |cons p' q'=>
    cases q';exact⟨_,_,rfl,p,p'⟩
 refine Sg ?_ (by show 2<=sizeLine;decide);have I2:Inv X ad σ H1 {s1 with heap:=s1.heap.push { cls:=.type "tuple",data:=.seq [u1,u2].toArray} }:=I1.kept (t':=s1.toks) λb o e=>Rx _ e;rw[hw];refine Ro (Rv ?_);show RA (RJ X.prog X.w) X.A (do rule "assign.swapped-stores";let items <-unpackItems (.ref s1.heap.objs.size) 2 none;UR [λv=>WG X.env y v,λv=>WG X.env x v] items.reverse;pure Yk) _ _ _;refine Ro (S7 (Ro (unpackItems_tuple (items:=#[u1,u2]) (I.ok.hd hc) (Wf s1.heap _) λh' hx'=>?_)));have I3:=I2.kept (h':=h') (t':=s1.toks) λb o e=>hx' b o (s_ (RE e)) e;show RA _ _ (UR [λv=>WG X.env y v,λv=>WG X.env x v] [u2,u1] >>= λ_=>pure Yk) _ _ _;refine Ro (UI (Xa (oP I3 hN hj (.inl hy) rw' (λs2 I4=>?_) (.inr hy))));refine UI (Xa (oP I4 hN hi (.inl hx) rv (λs3 I5=>Wr (Rv ?_)) (.inr hx)));rw[List.set_comm _ _ (T3 kw)]at I5;exact⟨_,H1,I5,q1⟩
end
structure It where
 go:Nat->Hp->Prop
 yld:Nat->Hp->V->Hp->Prop
 stop:Nat->Hp->Prop
noncomputable def oB(X:Cx)(ad:List (Rt×Obj))(H:Hp)(b:Rt):Prop:=
 H b=none/\b≠X.env.locals/\b ∉ X.fs/\(b∈X.ex\/X.s₀.heap.objs.size<=b)/\(∀x c,X.env.cells.lookup x=some c->c≠b)/\∀p∈X.pn++ad,p.1≠b
theorem Inv.qM {H':Hp}(I:Inv X ad σ H s)(hb:s.heap.objs.size<=b)(hn:H' b=none):oB X ad H' b:=by
 refine⟨hn,OF (u_ I.lt hb),I.MK hb,.inr (p_ I.sz hb),λx c e z=>?_,λp hp z=>?_⟩
 ·obtain⟨v,q⟩:=I.cell x c e;exact absurd (u_ q.lt (by rw[z];exact hb)) (ND _)
 exact absurd (u_ (RE (I.pin p hp).1) (by rw[z];exact hb)) (ND _)
structure Turn (P:RC) (w:RK) (K:Rr) (tg:RI) (J:It) (fp:List Rt) (it:Rt) (tn:Nat->RM->Prop):Prop where
 mem:it∈fp
 obj:∀i h,tn i h->∀b∈fp,∃o,h.get? b=some o/\∀v,o.data≠.cell v
 keep:∀i h h',tn i h->(∀b∈fp,∀o,h.get? b=some o->h'.get? b=some o)->tn i h'
 item:∀(X:Cx),X.prog=P->X.w=w->X.K=K->X.calm=true->∀(i:Nat) (ad:List (Rt×Obj)) (s:Ru) (σ:St) (H:Hp) (E:Rq->Ru->Prop),Inv X ad σ H s->(∀b∈fp,oB X ad H b)->tn i s.heap->J.go i H->
  RA (RJ P w) X.A (T7 (.ref it)) (λr s1=>∃u,r=some u/\
   RA (RJ P w) X.A (Uk tg (.ref it) u) (λ_ s2=>∃x H',Inv X ad σ H' s2/\RelV x u/\J.yld i H x H'/\tn (i+1) s2.heap/\∀b∈fp,H' b=none) E s1) E s
 done:∀(X:Cx),X.prog=P->X.w=w->X.K=K->X.calm=true->∀(i:Nat) (ad:List (Rt×Obj)) (s:Ru) (σ:St) (H:Hp) (E:Rq->Ru->Prop),Inv X ad σ H s->(∀b∈fp,oB X ad H b)->tn i s.heap->J.stop i H->
  RA (RJ P w) X.A (T7 (.ref it)) (λr s1=>r=none/\Inv X ad σ H s1) E s
 self:∀(A:RS) (i:Nat) (s:Ru) (Q:Rq->Ru->Prop) (E:Rq->Ru->Prop),tn i s.heap->Q (.ref it) s->RA (RJ P w) A (Vb (.ref it)) Q E s
abbrev TI:=St->Hp->(It->Hp->Prop)->Prop
def PIE(X:Cx)(ad:List (Rt×Obj))(σ:St)(tg:RI)(R:It->Hp->Prop)(itv:Rq)(s2:Ru):Prop:=
 ∃(it:Rt) (fp:List Rt) (tn:Nat->RM->Prop) (J:It) (H':Hp),itv=.ref it/\Inv X ad σ H' s2/\Turn X.prog X.w X.K tg J fp it tn/\tn 0 s2.heap/\(∀b∈fp,oB X ad H' b)/\R J H'
def PI(X:Cx)(tg iter:RI)(wi:TI):Prop:=
 ∀(ad:List (Rt×Obj)) (s:Ru) (σ:St) (H:Hp) (R:It->Hp->Prop),Inv X ad σ H s->wi σ H R->
  RA (RJ X.prog X.w) X.A (RY iter X.env) (λv s1=>RA (RJ X.prog X.w) X.A (Vb v) (PIE X ad σ tg R) X.xe s1) X.xe s
theorem AW{it:Rt}{o:Obj}{n:String}{vs:Array Rq}(ho:s.heap.get? it=some o)(hc:o.cls=.type n)(hd:o.data=.fields vs)
    (hn:["enumerate","zip","dict_itemiterator","dict_reverseitemiterator","odict_iterator","itertools.zip_longest","itertools.pairwise"].contains n=false) (hQ:Q () s):RA M A (Uk tg (.ref it) u) Q E s:=by
  unfold Uk;cases tg <;> first
    |exact Rv hQ
    | (cases u <;> first
        |exact Rv hQ
        | (refine Ro (wpAny_load ho ?_)
           rw[hc,hd];show RA M A (if(["enumerate","zip","dict_itemiterator","dict_reverseitemiterator","odict_iterator","itertools.zip_longest","itertools.pairwise"].contains n&&vs[0]? == some (Tq _))=true then _ else _) Q E s;rw[if_neg (by intro h;rw[hn,Nw]at h;cases h)];exact Rv hQ))
def Itl(K:Rr)(a:Rt):It:=
 ⟨λi H=>∃xs x,SqL K H a xs/\xs[i]?=some x,λi H x H'=>H'=H/\∀xs,SqL K H a xs->xs[i]?=some x,λi H=>∃xs,SqL K H a xs/\xs.length<=i⟩
def Itt(K:Rr)(a:Rt):It:=
 ⟨λi H=>∃xs x,SqT K H a xs/\xs[i]?=some x,λi H x H'=>H'=H/\∀xs,SqT K H a xs->xs[i]?=some x,λi H=>∃xs,SqT K H a xs/\xs.length<=i⟩
noncomputable def Itr(lo:Int)(n:Nat):It:=⟨λi _=>i<n,λi H x H'=>H'=H/\x=.int (lo+i),λi _=>n<=i⟩
theorem tY(a it:Rt):Turn P w K tg (Itl K a) [it] it (λi h=>h.IsListIter it a i) where
 mem:=by simp
 obj:=λi h st b hb=>by
  have e:b=it:=by simpa using hb
  subst e;obtain⟨o,e,c,d⟩:=st;exact⟨o,e,λv z=>by rw[d]at z;cases z⟩
 keep:=λi h h' st k=>st.at λo e=>k it (by simp) o e
 item:=by
  intro X hP hw hK hc i ad s σ H E I hf st hg;subst hP hw hK;obtain⟨xs,x,hq,hx⟩:=hg;obtain⟨be,rv,p,hz⟩:=I.list hq;obtain⟨u,hu,ru⟩:=rv.get hx;obtain⟨f0,f1,f2,f3,f4,f5⟩:=hf it (by simp);refine wpAny_pyNext_list_item st p.isList (x:=u) (by simpa using hu) λh' ap sb=>?_
  have I1:Inv X ad σ H {s with heap:=h'}:=I.turned (t':=s.toks) (λb o hb e=>(sb.2 b hb).trans e) f0 f1 f3 f4 f5;obtain⟨o,e,c,d⟩:=id ap;exact⟨u,rfl,AW (s:={s with heap:=h'}) e c d (by decide) ⟨x,H,I1,ru,⟨rfl,λys hy=>by rw[I.wD hy hq];exact hx⟩,ap,λb hb=>(hf b hb).1⟩⟩
 done:=by intro X hP hw hK hc i ad s σ H E I hf st hg;subst hP hw hK;obtain⟨xs,hq,hx⟩:=hg;obtain⟨be,rv,p,hz⟩:=I.list hq;obtain⟨f0,f1,f2,f3,f4,f5⟩:=hf it (by simp);have hl:=rv.length;exact wpAny_pyNext_list_end (I.ok.hd hc) st p.isList (by simp;lia) λh' eb=>⟨rfl,I.turned (t':=s.toks) (λb o hb e=>eb b o hb e) f0 f1 f3 f4 f5⟩
 self:=λ_ _ _ _ _ st h=>wpAny_pyIter_listiter st h
theorem rZ(a it:Rt):Turn P w K tg (Itt K a) [it] it (λi h=>h.IsTupleIter it a i) where
 mem:=by simp
 obj:=λi h st b hb=>by
  have e:b=it:=by simpa using hb
  subst e;obtain⟨o,e,c,d⟩:=st;exact⟨o,e,λv z=>by rw[d]at z;cases z⟩
 keep:=λi h h' st k=>st.at λo e=>k it (by simp) o e
 item:=by
  intro X hP hw hK hc i ad s σ H E I hf st hg;subst hP hw hK;obtain⟨xs,x,hq,hx⟩:=hg;obtain⟨be,rv,p,hz⟩:=I.tuple hq;obtain⟨u,hu,ru⟩:=rv.get hx;obtain⟨f0,f1,f2,f3,f4,f5⟩:=hf it (by simp);refine wpAny_pyNext_tuple_item st (show s.heap.IsTuple a be.toArray from p) (x:=u) (by simpa using hu) λh' ap sb=>?_
  have I1:Inv X ad σ H {s with heap:=h'}:=I.turned (t':=s.toks) (λb o hb e=>(sb.2 b hb).trans e) f0 f1 f3 f4 f5;obtain⟨o,e,c,d⟩:=id ap;exact⟨u,rfl,AW (s:={s with heap:=h'}) e c d (by decide) ⟨x,H,I1,ru,⟨rfl,λys hy=>by rw[I.pP hy hq];exact hx⟩,ap,λb hb=>(hf b hb).1⟩⟩
 done:=by intro X hP hw hK hc i ad s σ H E I hf st hg;subst hP hw hK;obtain⟨xs,hq,hx⟩:=hg;obtain⟨be,rv,p,hz⟩:=I.tuple hq;obtain⟨f0,f1,f2,f3,f4,f5⟩:=hf it (by simp);have hl:=rv.length;exact wpAny_pyNext_tuple_end (I.ok.hd hc) st (show s.heap.IsTuple a be.toArray from p) (by simp;lia) λh' eb=>⟨rfl,I.turned (t':=s.toks) (λb o hb e=>eb b o hb e) f0 f1 f3 f4 f5⟩
 self:=λ_ _ _ _ _ st h=>wpAny_pyIter_tupleiter st h
theorem zK(it:Rt)(lo:Int)(n:Nat):Turn P w K tg (Itr lo n) [it] it (λi h=>XZ h it (lo+(i:Nat)*1) ((n:Int)-(i:Nat)) 1) where
 mem:=by simp
 obj:=λi h st b hb=>by
  have e:b=it:=by simpa using hb
  subst e;exact⟨_,st,λv z=>by have z':Wz _=Vr v:=z;cases z'⟩
 keep:=λi h h' st k=>k it (by simp) _ st
 item:=by intro X hP hw hK hc i ad s σ H E I hf st hg;subst hP hw hK;obtain⟨f0,f1,f2,f3,f4,f5⟩:=hf it (by simp);have W:=Walks.range (prog:=X.prog) (w:=X.w) (I.ok.hd hc) it lo 1 n;refine W.item i s _ _ hg st λv h' tk hv ap kk=>?_;obtain⟨t,rfl⟩:=hv;have I1:Inv X ad σ H {s with heap:=h',toks:=tk}:=I.turned (λb o hb e=>kk b o (by simpa using hb) e) f0 f1 f3 f4 f5;refine⟨_,rfl,AW (s:={s with heap:=h',toks:=tk}) (n:="range_iterator") ap rfl rfl (by decide) ⟨.int (lo+i),H,I1,⟨t,?_⟩,⟨rfl,rfl⟩,ap,λb hb=>(hf b hb).1⟩⟩;rw[Int.mul_one]
 done:=by intro X hP hw hK hc i ad s σ H E I hf st hg;subst hP hw hK;obtain⟨f0,f1,f2,f3,f4,f5⟩:=hf it (by simp);exact wpAny_pyNext_range_end (I.ok.hd hc) st (by have:n<=i:=hg;lia) λh' eb=>⟨rfl,I.turned (t':=s.toks) (λb o hb e=>eb b o hb e) f0 f1 f3 f4 f5⟩
 self:=λ_ _ _ _ _ st h=>wpAny_pyIter_rangeiter st h
variable {body:List RW}{fp:List Rt}
section
variable{X:Cx}{tg:RI}
theorem wy{R:It->Hp->Prop}{lo hi:Int}{t u v:Tok}{tk:Nat}(I:Inv X ad σ H s)(h1:-(2 ^ 62)<=lo)(h2:lo<2 ^ 62)(h3:-(2 ^ 62)<=hi)(h4:hi<2 ^ 62)
  (q:R (Itr lo (hi-lo).toNat) H):RA (RJ X.prog X.w) X.A (Vb (.ref s.heap.objs.size)) (PIE X ad σ tg R) E {s with heap:=s.heap.push { cls:=.type "range",data:=.fields #[.int lo t,.int hi u,.int 1 v] },toks:=tk}:=by
 refine wpAny_pyIter_range (IsRange.new ..) (small_one h1 h2 h3 h4) ?_;have I1:Inv X ad σ H {s with heap:=s.heap.push { cls:=.type "range",data:=.fields #[.int lo t,.int hi u,.int 1 v] },toks:=tk}:=I.kept λb o e=>Rx _ e;refine⟨(s.heap.push { cls:=.type "range",data:=.fields #[.int lo t,.int hi u,.int 1 v] }).objs.size,[(s.heap.push { cls:=.type "range",data:=.fields #[.int lo t,.int hi u,.int 1 v] }).objs.size],_,_,H,rfl,
  I1.kept (t':=tk) λb o e=>Rx _ e,zK _ lo (hi-lo).toNat,?_,λb hb=>?_,q⟩
 ·have e1:lo+((0:Nat):Int)*1=lo:=by simp
  have e2:(((hi-lo).toNat:Nat):Int)-((0:Nat):Int)=XR lo hi 1:=by rw[rangeSize_one];split <;> lia
  show XZ _ _ (lo+((0:Nat):Int)*1) ((((hi-lo).toNat:Nat):Int)-((0:Nat):Int)) 1;rw[e1,e2];exact RF _ rfl
 have e:b=(s.heap.push { cls:=.type "range",data:=.fields #[.int lo t,.int hi u,.int 1 v] }).objs.size:=by simpa using hb
 subst e;exact I1.qM (b_ _) (I1.hok.fresh (b_ _))
def Lg(ta:TA):TI:=λσ H R=>ta σ H λvs H1=>∃j:Int,vs=[.int j]/\-(2 ^ 62)<=j/\j<2 ^ 62/\R (Itr 0 j.toNat) H1
def Lm(ta:TA):TI:=λσ H R=>ta σ H λvs H1=>∃i j:Int,vs=[.int i,.int j]/\(-(2 ^ 62)<=i/\i<2 ^ 62/\-(2 ^ 62)<=j/\j<2 ^ 62)/\R (Itr i (j-i).toNat) H1
theorem BB{a:RI}{p:Pos}(hg:Gl X "range")(hm:X.mg "range"=none)(ha:PA X [a] ta)(hs:RN [a] X.env=[(false,RY a X.env)]:=by rfl):PI X tg (.Call (.Name "range" p) [a] [] pos) (Lg ta):=by
 intro ad s σ H R I h;refine X' (lH I hg hm boot_range (Sz (thn (ha pos ad s σ H _ I h) λus s1 ⟨vs,H1,I1,r1,q1⟩=>?_) hs rfl));obtain⟨j,e,q1,q2,q⟩:=q1;subst e;cases r1 with
 |cons r rr=>
  cases rr;obtain⟨t,rfl⟩:=r;exact call_range_1 (wy I1 (by lia) (by lia) q1 q2 (by simpa using q))
theorem Bd{a b:RI}{p:Pos}(hg:Gl X "range")(hm:X.mg "range"=none)(ha:PA X [a,b] ta)(hs:RN [a,b] X.env=[(false,RY a X.env),(false,RY b X.env)]:=by rfl)(hs2:RN [b] X.env=[(false,RY b X.env)]:=by rfl) :
  PI X tg (.Call (.Name "range" p) [a,b] [] pos) (Lm ta):=by
 intro ad s σ H R I h;refine X' (lH I hg hm boot_range (Sz (thn (ha pos ad s σ H _ I h) λus s1 ⟨vs,H1,I1,r1,q1⟩=>?_) (by rw[hs,hs2]) (by rw[hs2];rfl)));obtain⟨i,j,e,⟨q1,q2,q3,q4⟩,q⟩:=q1;subst e;cases r1 with
 |cons r rr=>
  cases rr with
  |cons r' rr=>
   cases rr;obtain⟨t,rfl⟩:=r;obtain⟨t',rfl⟩:=r';exact call_range_2 (wy I1 q1 q2 q3 q4 q)
noncomputable def M9(wi:TI)(g:TG)(tb:TS):TS:=λD σ H=>wi σ H λJ H1=>∃W:Nat->Nat->St->Hp->Prop,(∃m,W 0 m σ H1)/\∀i m σ H,W i m σ H->
 (J.stop i H/\D.nx σ H)\/(J.go i H/\∃N:St->Hp->Prop,(∀ cr H',N cr H'->∃m',m'<m/\W (i+1) m' cr H')/\∀x H',J.yld i H x H'->g x σ H' λσ2 H2=>tb { D with nx:=N,ct:=N,bk:=D.nx} σ2 H2)
noncomputable def pU(fp:List Rt)(h:RM):List (Rt×Obj):=fp.filterMap λb=>(h.get? b).map λo=>(b,o)
theorem jn{o:Obj}(hb:b∈fp)(e:h.get? b=some o):(b,o)∈pU fp h:=Qz.mpr ⟨b,hb,by rw[e];rfl⟩
theorem B1{p:Rt×Obj}(hp:p∈pU fp h):p.1∈fp/\h.get? p.1=some p.2:=by
 obtain⟨b,hb,e⟩:=Qz.mp hp;cases q:h.get? b with
 |none=>rw[q]at e;cases e
 |some o=>
  rw[q]at e;have e':(b,o)=p:=F_ e;subst e';exact⟨hb,q⟩
theorem Inv.pinned (I:Inv X ad σ H s)(hf:∀b∈fp,oB X ad H b)(ho:∀b∈fp,∃o,s.heap.get? b=some o/\∀v,o.data≠.cell v):Inv X (ad++pU fp s.heap) σ H s:=
 I.zY λp hp=>(B_.mp hp).elim (λz=>I.pin p (r_ _ z)) λz=>by obtain⟨hb,e⟩:=B1 z;obtain⟨f0,f1,f2,_⟩:=hf p.1 hb;obtain⟨o,e',d⟩:=ho p.1 hb;rw[e]at e';cases e';exact⟨e,f0,f1,f2,d⟩
theorem Inv.mK {pl:List (Rt×Obj)}(I:Inv X (ad++pl) σ H s):Inv X ad σ H s:=I.zY λp hp=>I.pin p (r_ _ (G' _ hp))
theorem K5{iter:RI}{wi:TI}{g:TG}{tb:TS}(hp:PassesOwn (RJ X.prog X.w) X.A X.env X.xe)(hc:X.calm=true)(hi:PI X tg iter wi)(hg:PG X tg g)(hb:PSs X body tb)
  (hs:∀x,Sh iter X.env x=pure x:=by intro _;rfl):PS X (.For tg iter body [] pos) (M9 wi g tb):=by
 intro ad s σ H D I h;refine wpAny_For (thn (hi ad s σ H _ I h) λv s1 h1=>thn h1 λitv s2 h2=>?_) hs;obtain⟨it,fp,tn,J,H2,e,I2,T,ii,f2,W,⟨m0,w0⟩,turn⟩:=h2;subst e;have stat:∀{H':Hp},(∀b∈fp,H' b=none)->∀b∈fp,oB X ad H' b:=λhn b hb=>⟨hn b hb,(f2 b hb).2⟩;refine codeAny_forLoop_any (λn s'=>∃i cr H',Inv X ad cr H' s'/\tn i s'.heap/\(∀b∈fp,H' b=none)/\W i n cr H') ?_ m0 ⟨0,σ,H2,I2,ii,λb hb=>(f2 b hb).1,w0⟩;rintro n s3 ⟨i,σ3,H3,I3,io,fr3,w3⟩;rcases turn i n σ3 H3 w3 with⟨stop,qn⟩|⟨go,N,hN,step⟩
 ·refine TJ hp (thn (T.done X rfl rfl rfl hc i ad s3 σ3 H3 X.xe I3 (stat fr3) io stop) ?_);rintro r s4 ⟨hr,I4⟩;subst hr;exact Vq ⟨σ3,H3,I4,qn⟩
 refine TJ hp (thn (T.item X rfl rfl rfl hc i ad s3 σ3 H3 X.xe I3 (stat fr3) io go) ?_);rintro r s4 ⟨u,hr,h4⟩;subst hr;refine TJ hp (thn h4 ?_);rintro _ s5 ⟨x,H5,I5,r5,y5,st5,fr5⟩;have I5':=I5.pinned (stat fr5) (T.obj _ _ st5);refine TJ hp (thn (hg _ s5 σ3 H5 x u _ I5' r5 (step x H5 y5)) ?_);rintro _ s6 ⟨σ6,H6,I6,q6⟩;refine TJ hp (thn (hb _ s6 σ6 H6 _ I6 q6) λf s7 q7=>?_);have Vs:∀{σ7:St}{H7:Hp},Inv X (ad++pU fp s5.heap) σ7 H7 s7->N σ7 H7->∃m,m<n/\∃i cr H',Inv X ad cr H' s7/\tn i s7.heap/\(∀b∈fp,H' b=none)/\W i m cr H':=λ{σ7 H7} I7 n7=>by obtain⟨m',hm,w7⟩:=hN σ7 H7 n7;refine⟨m',hm,i+1,σ7,H7,I7.mK,T.keep _ _ _ st5 λb hb o e=>(I7.pin (b,o) (r_ _ (r_ _ (jn hb e)))).1,λb hb=>?_,w7⟩;obtain⟨o,e,d⟩:=T.obj _ _ st5 b hb;exact(I7.pin (b,o) (r_ _ (r_ _ (jn hb e)))).2.1
 cases f with
 |next=>obtain⟨σ7,H7,I7,n7⟩:=q7;exact Vs I7 n7
 |cont=>obtain⟨σ7,H7,I7,n7⟩:=q7;exact Vs I7 n7
 |brk=>obtain⟨σ7,H7,I7,q7⟩:=q7;exact⟨σ7,H7,I7.mK,q7⟩
 |ret v=>obtain⟨x7,σ7,H7,I7,r7,q7⟩:=q7;exact⟨x7,σ7,H7,I7.mK,r7,q7⟩
end
abbrev R2:=V->V->Hp->VK->Prop
def OpR(X:Cx)(f:Rq->Rq->Sem Rq)(r:R2):Prop:=
 ∀(ad:List (Rt×Obj)) (s:Ru) (σ:St) (H:Hp) (x y:V) (v u:Rq) (Q:VK),Inv X ad σ H s->RelV x v->RelV y u->r x y H Q->
  RA (RJ X.prog X.w) X.A (f v u) (EP X ad σ Q) X.xe s
def UnR(X:Cx)(f:Rq->Sem Rq)(r:V->Hp->VK->Prop):Prop:=
 ∀(ad:List (Rt×Obj)) (s:Ru) (σ:St) (H:Hp) (x:V) (v:Rq) (Q:VK),Inv X ad σ H s->RelV x v->r x H Q->
  RA (RJ X.prog X.w) X.A (f v) (EP X ad σ Q) X.xe s
def dJ(X:Cx)(f:Rq)(r:List V->Hp->VK->Prop):Prop:=
 ∀(ad:List (Rt×Obj)) (s:Ru) (σ:St) (H:Hp) (xs:List V) (us:List Rq) (Q:VK),Inv X ad σ H s->Vals xs us->r xs H Q->
  RA (RJ X.prog X.w) X.A (call f us) (EP X ad σ Q) X.xe s
def ML(X:Cx)(r:V->Hp->(Bool->Hp->Prop)->Prop):Prop:=
 ∀(ad:List (Rt×Obj)) (s:Ru) (σ:St) (H:Hp) (x:V) (v:Rq) (Q:Bool->Hp->Prop),Inv X ad σ H s->RelV x v->r x H Q->
  RA (RJ X.prog X.w) X.A (truthy v) (TP X ad σ Q) X.xe s
noncomputable def tOp(r:R2)(ta tb:TE):TE:=λσ H Q=>ta σ H λx H1=>tb σ H1 λy H2=>r x y H2 Q
noncomputable def tUn(r:V->Hp->VK->Prop)(ta:TE):TE:=λσ H Q=>ta σ H λx H1=>r x H1 Q
noncomputable def rI(C:Int->Int->Prop)(g:Int->Int->V):R2:=λx y H Q=>∃i j,x=.int i/\y=.int j/\C i j/\Q (g i j) H
noncomputable def rI0(g:Int->Int->V):R2:=λx y H Q=>∃i j,x=.int i/\y=.int j/\Q (g i j) H
noncomputable def rU(g:Int->V):V->Hp->VK->Prop:=λx H Q=>∃i,x=.int i/\Q (g i) H
variable {f:Rq->Rq->Sem Rq}{op:Vt}
section
variable{X:Cx}{a b c:RI}{ta tb tc:TE}{pos:Pos}
theorem Jt(ha:PE X a ta)(hb:PE X b tb){R:V->V->Hp->Prop}(I:Inv X ad σ H s)
  (h:ta σ H λx H1=>tb σ H1 λy H2=>R x y H2) {Q:Rq->Ru->Prop} {f:Rq->Rq->Sem Rq}
  (hf:∀v u s2 x y H2,Inv X ad σ H2 s2->RelV x v->RelV y u->R x y H2->RA (RJ X.prog X.w) X.A (f v u) Q X.xe s2) :
  RA (RJ X.prog X.w) X.A (RY a X.env) (λv s₁=>RA (RJ X.prog X.w) X.A (RY b X.env) (λu s₂=>RA (RJ X.prog X.w) X.A (f v u) Q X.xe s₂) X.xe s₁) X.xe s:=by
 refine thn (ha ad s σ H _ I h) ?_;rintro v s1 ⟨x,H1,I1,r1,q1⟩;refine thn (hb ad s1 σ H1 _ I1 q1) ?_;rintro u s2 ⟨y,H2,I2,r2,q2⟩;exact hf v u s2 x y H2 I2 r1 r2 q2
theorem jd{op:Operator}{r:R2}(ho:OpR X (Ss op) r)(ha:PE X a ta)(hb:PE X b tb):PE X (.BinOp a op b pos) (tOp r ta tb):=by intro ad s σ H Q I h;exact wpAny_BinOp (Jt ha hb I h λv u s2 x y H2 I2 rx ry q=>ho ad s2 σ H2 x y v u Q I2 rx ry q)
theorem Ki{op:UnaryOp}{r:V->Hp->VK->Prop}(ho:UnR X (unaryOp op) r)(ha:PE X a ta):PE X (.UnaryOp op a pos) (tUn r ta):=by intro ad s σ H Q I h;exact UnaryOp_ (thn (ha ad s σ H _ I h) λv s1 ⟨x,H1,I1,r1,q1⟩=>ho ad s1 σ H1 x v Q I1 r1 q1)
theorem opI{C:Int->Int->Prop}{g:Int->Int->Int}
  (rule:∀(i j:Int) (t u:Tok) (s:Ru) (Q:Rq->Ru->Prop) (E:Rq->Ru->Prop),C i j->Q (.int (g i j) s.toks) {s with toks:=s.toks+1}->RA (RJ X.prog X.w) X.A (f (.int i t) (.int j u)) Q E s) :
  OpR X f (rI C λi j=>.int (g i j)):=by
 intro ad s σ H x y v u Q I rx ry h;obtain⟨i,j,rfl,rfl,hc,q⟩:=h;obtain⟨t,rfl⟩:=rx;obtain⟨t',rfl⟩:=ry;exact rule i j t t' s _ _ hc ⟨.int (g i j),H,I.tok _,⟨_,rfl⟩,q⟩
theorem KC{g:Int->Int->Int}
  (rule:∀(i j:Int) (t u:Tok) (s:Ru) (Q:Rq->Ru->Prop) (E:Rq->Ru->Prop),Q (.int (g i j) s.toks) {s with toks:=s.toks+1}->RA (RJ X.prog X.w) X.A (f (.int i t) (.int j u)) Q E s) :
  OpR X f (rI0 λi j=>.int (g i j)):=by
 intro ad s σ H x y v u Q I rx ry h;obtain⟨i,j,rfl,rfl,q⟩:=h;obtain⟨t,rfl⟩:=rx;obtain⟨t',rfl⟩:=ry;exact rule i j t t' s _ _ ⟨.int (g i j),H,I.tok _,⟨_,rfl⟩,q⟩
theorem Gn{g:Int->Int->Bool}
  (rule:∀(i j:Int) (t u:Tok) (s:Ru) (Q:Rq->Ru->Prop) (E:Rq->Ru->Prop),Q (.bool (g i j)) s->RA (RJ X.prog X.w) X.A (f (.int i t) (.int j u)) Q E s) :
  OpR X f (rI0 λi j=>.bl (g i j)):=by
 intro ad s σ H x y v u Q I rx ry h;obtain⟨i,j,rfl,rfl,q⟩:=h;obtain⟨t,rfl⟩:=rx;obtain⟨t',rfl⟩:=ry;exact rule i j t t' s _ _ ⟨.bl (g i j),H,I,rfl,q⟩
noncomputable def Hd(i j:Int):Prop:=0<j/\j<1073741824
noncomputable def MF(i j:Int):Prop:=0<=j/\j<=1000000/\i.natAbs<2 ^ 64
noncomputable def yO(i j:Int):Prop:=(-(2 ^ 64)<i/\i<2 ^ 64)\/(-(2 ^ 64)<j/\j<2 ^ 64)
theorem yO.ok {i j:Int}(h:yO i j):IntMulOk i j:=by
 rcases h with⟨h1,h2⟩|⟨h1,h2⟩
 ·exact .of_left (Xp h1 h2)
 exact .of_right (Xp h1 h2)
theorem rT:OpR X (Ss .Add) (rI0 λi j=>.int (i+j)):=KC λ_ _ _ _ _ _ _ q=>add_int q
theorem J3:OpR X (Ss .Sub) (rI0 λi j=>.int (i-j)):=KC λ_ _ _ _ _ _ _ q=>sub_int q
theorem nX:OpR X (Ss .Mult) (rI yO λi j=>.int (i*j)):=opI λ_ _ _ _ _ _ _ hc q=>mul_int q hc.ok
theorem AG:OpR X (Ss .FloorDiv) (rI Hd λi j=>.int (i/j)):=opI λi j _ _ _ _ _ hc q=>by have h1:(0:Int)<j:=hc.1;have h2:j<1073741824:=hc.2;exact floordiv_int (by lia) (by rw[Pj i (by lia)];exact q) (.inl (Vy (by lia)))
theorem nM:OpR X (Ss .Mod) (rI (λ_ j=>0<j) λi j=>.int (i%j)):=opI λi j _ _ _ _ _ hc q=>by have h1:(0:Int)<j:=hc;exact mod_int' (by lia) (by rw[Pl i (by lia)];exact q)
theorem Jl:OpR X (Ss .Pow) (rI MF λi j=>.int (i ^ j.toNat)):=opI λ_ _ _ _ _ _ _ hc q=>pow_int_small hc.1 hc.2.1 hc.2.2 q
theorem unI{f:Rq->Sem Rq}{g:Int->Int}
  (rule:∀(i:Int) (t:Tok) (s:Ru) (Q:Rq->Ru->Prop) (E:Rq->Ru->Prop),Q (.int (g i) s.toks) {s with toks:=s.toks+1}->RA (RJ X.prog X.w) X.A (f (.int i t)) Q E s) :
  UnR X f (rU λi=>.int (g i)):=by
 intro ad s σ H x v Q I rx h;obtain⟨i,rfl,q⟩:=h;obtain⟨t,rfl⟩:=rx;exact rule i t s _ _ ⟨.int (g i),H,I.tok _,⟨_,rfl⟩,q⟩
theorem K4:UnR X (unaryOp .USub) (rU λi=>.int (-i)):=unI λ_ _ _ _ _ q=>neg_int q
theorem zu{Q:VK}{k k':Bool}(I:Inv X ad σ H s)(q:Q (.bl k) H)(e:k=k'):EP X ad σ Q (.bool k') s:=by subst e;exact⟨.bl k,H,I,rfl,q⟩
theorem LY:OpR X (RT .Lt) (rI0 λi j=>.bl (decide (i<j))):=Gn λ_ _ _ _ _ _ _ q=>lt_int q
theorem KJ:OpR X (RT .LtE) (rI0 λi j=>.bl (decide (i<=j))):=Gn λ_ _ _ _ _ _ _ q=>le_int q
theorem LB:OpR X (RT .Gt) (rI0 λi j=>.bl (decide (j<i))):=Gn λ_ _ _ _ _ _ _ q=>gt_int q
theorem Lv:OpR X (RT .GtE) (rI0 λi j=>.bl (decide (j<=i))):=Gn λ_ _ _ _ _ _ _ q=>ge_int q
theorem Ka:OpR X (RT .Is) (λx y H Q=>y=.non/\Q (.bl (decide (x=.non))) H):=by
 intro ad s σ H x y v u Q I rx ry h;obtain⟨rfl,q⟩:=h;cases ry;refine is_none_gen (zu I q ?_);cases x <;> first
  | (cases rx;rfl)
  | (obtain⟨t,rfl⟩:=rx;rfl)
theorem aM(b:RI)(h:op≠.In:=by decide)(h2:op≠.NotIn:=by decide):Tw op b=false:=by
 have e1:(op == CmpOp.In)=false:=by cases op <;> first|rfl|exact absurd rfl h
 have e2:(op == CmpOp.NotIn)=false:=by cases op <;> first|rfl|exact absurd rfl h2
 cases b <;> simp[Tw,e1,e2]
theorem GD{r:R2}(ho:OpR X (RT op) r)(ha:PE X a ta)(hb:PE X b tb)(hm:Tw op b=false):PE X (.Compare a [op] [b] pos) (tOp r ta tb):=by intro ad s σ H Q I h;exact wpAny_Compare1 (Jt ha hb I h λv u s2 x y H2 I2 rx ry q=>ho ad s2 σ H2 x y v u Q I2 rx ry q) hm
noncomputable def El(t:TE):TT:=λσ H Q=>t σ H λx H'=>∃k,x=.bl k/\Q k H'
theorem vP{r:R2}(ho:OpR X (RT op) r)(ha:PE X a ta)(hb:PE X b tb)(hm:Tw op b=false):PT X (.Compare a [op] [b] pos) (El (tOp r ta tb)):=by
 intro ad s σ H Q I h;refine wpAny_isTrue_Compare1 (thn (ha ad s σ H _ I h) λv s1 ⟨x,H1,I1,r1,q1⟩=>thn (hb ad s1 σ H1 _ I1 q1) λu s2 ⟨y,H2,I2,r2,q2⟩=>
  thn (ho ad s2 σ H2 x y v u _ I2 r1 r2 q2) λc s3 ⟨z,H3,I3,r3,k,e,q3⟩=>?_) hm
 subst e;cases r3;exact Sf ⟨H3,I3,q3⟩
noncomputable def zk(r r':R2)(ta tb tc:TE):TE:=λσ H Q=>ta σ H λx H1=>tb σ H1 λy H2=>r x y H2 λz H3=>∃k,z=.bl k/\
 (if k=true then tc σ H3 λw' H4=>r' y w' H4 Q else Q (.bl false) H3)
theorem EX{op':Vt}{r r':R2}(ho:OpR X (RT op) r)(ho':OpR X (RT op') r')(ha:PE X a ta)(hb:PE X b tb)(hc:PE X c tc)
  (hm:Wg [op,op'] [b,c]=false:=by with_unfolding_all rfl):PE X (.Compare a [op,op'] [b,c] pos) (zk r r' ta tb tc):=by
 intro ad s σ H Q I h;refine Compare_chain (thn (ha ad s σ H _ I h) λv s1 ⟨x,H1,I1,r1,q1⟩=>chain_link (thn (hb ad s1 σ H1 _ I1 q1) λu s2 ⟨y,H2,I2,r2,q2⟩=>
  thn (ho ad s2 σ H2 x y v u _ I2 r1 r2 q2) λd s3 ⟨z,H3,I3,r3,k,e,q3⟩=>?_)) hm
 subst e;cases r3;refine Sf ?_;cases k with
 |false=>exact ite_ff ⟨.bl false,H3,I3,rfl,q3⟩
 |true=>exact ite_tt (chain_last (thn (hc ad s3 σ H3 _ I3 q3) λw' s4 ⟨z',H4,I4,r4,q4⟩=>ho' ad s4 σ H4 y z' u w' Q I4 r2 r4 q4))
theorem DW{op':Vt}{r r':R2}(ho:OpR X (RT op) r)(ho':OpR X (RT op') r')(ha:PE X a ta)(hb:PE X b tb)(hc:PE X c tc)
  (hm:Wg [op,op'] [b,c]=false:=by with_unfolding_all rfl):PT X (.Compare a [op,op'] [b,c] pos) (El (zk r r' ta tb tc)):=by
 intro ad s σ H Q I h;refine isTrue_chain (thn (ha ad s σ H _ I h) ?_) hm;rintro v s1 ⟨x,H1,I1,r1,q1⟩;refine test_link (thn (hb ad s1 σ H1 _ I1 q1) ?_);rintro u s2 ⟨y,H2,I2,r2,q2⟩;refine thn (ho ad s2 σ H2 x y v u _ I2 r1 r2 q2) ?_;rintro d s3 ⟨z,H3,I3,r3,k,e,q3⟩;subst e;cases r3;refine Sf ?_;cases k with
 |false=>
  obtain⟨k',e',q'⟩:=q3;cases e';exact ite_ff ⟨H3,I3,q'⟩
 |true=>
  refine ite_tt (test_last (thn (hc ad s3 σ H3 _ I3 q3) ?_));rintro w' s4 ⟨z',H4,I4,r4,q4⟩;refine thn (ho' ad s4 σ H4 y z' u w' _ I4 r2 r4 q4) ?_;rintro d' s5 ⟨z2,H5,I5,r5,k2,e2,q5⟩;subst e2;cases r5;exact Sf ⟨H5,I5,q5⟩
def JA(K:Rr)(x:V)(H:Hp)(k:Bool):Prop:=
 match x with
 | .non=>k=false
 | .bl b=>k=b
 | .int i=>k=(i != 0)
 | .str y=>y.length<=sizeLine/\k=((y.length:Int) != 0)
 | .byt y=>y.size<=sizeLine/\k=((y.size:Int) != 0)
 | .ref p=>(∃xs,SqL K H p xs/\k=!xs.isEmpty)\/(∃xs,SqT K H p xs/\k=!xs.isEmpty)\/∃am,H p=some (.dK am)/\k=!am.isEmpty
 | _=>False
theorem zt{κ:Type}{am:List (κ×V)}{vs:List (κ×Rq)}(r:KV am vs):(!vs.isEmpty)=!am.isEmpty:=by cases r <;> rfl
theorem sj{be:List Rq}(r:Vals xs be):(!be.toArray.isEmpty)=!xs.isEmpty:=by cases r <;> simp
theorem nP:(sizeLine:Nat)<2 ^ 63:=by rw[sizeLine_eq];decide
theorem JG:ML X (λx H Q=>∃k,JA X.K x H k/\Q k H):=by
 intro ad s σ H x v Q I rx h;obtain⟨k,e,q⟩:=h;have hl:=nP;have hs:sizeLine=16777216:=sizeLine_eq;cases x with
 |non=>
  cases rx;have e':k=false:=e;subst e';exact truthy_none ⟨H,I,q⟩
 |bl b=>
  cases rx;have e':k=b:=e;subst e';exact Sf ⟨H,I,q⟩
 |int i=>
  obtain⟨t,rfl⟩:=rx;have e':k=(i != 0):=e;subst e';exact PySem.P.truthy_int ⟨H,I,q⟩
 |str y=>
  obtain⟨t,rfl⟩:=rx;obtain⟨hy,e'⟩:y.length<=sizeLine/\k=((y.length:Int) != 0):=e;subst e';exact PySem.P.truthy_str (by lia) ⟨H,I.tok _,q⟩
 |byt y=>
  obtain⟨t,rfl⟩:=rx;obtain⟨hy,e'⟩:y.size<=sizeLine/\k=((y.size:Int) != 0):=e;subst e';exact PySem.W.truthy_bytes (by lia) ⟨H,I.tok _,q⟩
 |ref p=>
  cases rx;have e':(∃xs,SqL X.K H p xs/\k=!xs.isEmpty)\/(∃xs,SqT X.K H p xs/\k=!xs.isEmpty)\/∃am,H p=some (.dK am)/\k=!am.isEmpty:=e;rcases e' with⟨xs,hx,e'⟩|⟨xs,hx,e'⟩|⟨am,hx,e'⟩
  ·subst e';obtain⟨be,r,pl,hz⟩:=I.list hx;have hlen:=r.length;exact wpAny_truthy_list pl.isList (by simp only[g_];lia) ⟨H,I.tok _,by rw[sj r];exact q⟩
  ·subst e';obtain⟨be,r,pl,hz⟩:=I.tuple hx;have hlen:=r.length;exact truthy_tuple pl (by simp only[g_];lia) ⟨H,I.tok _,by rw[sj r];exact q⟩
  ·subst e';obtain⟨hz,hS,vs,r,m⟩:am.length<=sizeLine/\(p == R5)=false/\∃vs,KV am vs/\s.heap.DictOf (cX X.prog X.w) p vs:=I.hok p _ hx;have hlen:am.length=vs.length:=Sn r;exact wpAny_truthy_dict hS m (by lia) ⟨H,I.tok _,by rw[zt r];exact q⟩
 | _=>exact(show False from e).elim
theorem EN(ha:PE X a ta)(he:∀whole,We a X.env whole=(do let v <-whole;W' a.pos;Uy [v] (truthy v))) :
  PT X a (λσ H Q=>ta σ H λx H'=>∃k,JA X.K x H' k/\Q k H'):=by
 intro ad s σ H Q I h;exact isTrue_plain (thn (ha ad s σ H _ I h) λv s1 ⟨x,H1,I1,r1,q1⟩=>JG ad s1 σ H1 x v Q I1 r1 q1) (he _)
theorem zq:OpR X (Ss .Add) (λx y H Q=>∃i j,x=.str i/\y=.str j/\i.length+j.length<=sizeLine/\Q (.str (i++j)) H):=by intro ad s σ H x y v u Q I rx ry h;obtain⟨i,j,rfl,rfl,hz,q⟩:=h;obtain⟨t,rfl⟩:=rx;obtain⟨t',rfl⟩:=ry;exact add_str (λt' tk=>⟨.str (i++j),H,I.tok _,⟨_,rfl⟩,q⟩) hz
theorem vals1{x:V}(r:Vals [x] us):∃u,us=[u]/\RelV x u:=by
 cases r with
 |cons r1 r2=>cases r2;exact⟨_,rfl,r1⟩
theorem vals2{x y:V}(r:Vals [x,y] us):∃u w',us=[u,w']/\RelV x u/\RelV y w':=by
 cases r with
 |cons r1 r2=>
  cases r2 with
  |cons r3 r4=>cases r4;exact⟨_,_,rfl,r1,r3⟩
theorem DP:dJ X (.builtin "abs") (λxs H Q=>∃i,xs=[.int i]/\Q (.int (if i<0 then -i else i)) H):=by intro ad s σ H xs us Q I r h;obtain⟨i,rfl,q⟩:=h;obtain⟨u,rfl,t,rfl⟩:=vals1 r;exact call_abs_int λu tk=>⟨.int (if i<0 then -i else i),H,I.tok _,⟨_,rfl⟩,q⟩
theorem Bj(hc:X.calm=true):dJ X (.builtin "max") (λxs H Q=>∃i j,xs=[.int i,.int j]/\Q (.int (if j > i then j else i)) H):=by
 intro ad s σ H xs us Q I r h;obtain⟨i,j,rfl,q⟩:=h;obtain⟨u,w',rfl,⟨t,rfl⟩,⟨t',rfl⟩⟩:=vals2 r;refine max_two_ints (I.ok.hd hc) λh' tk k=>⟨_,H,I.kept k,?_,q⟩;by_cases hj:j > i
 ·rw[if_pos hj,if_pos hj];exact⟨_,rfl⟩
 rw[if_neg hj,if_neg hj];exact⟨_,rfl⟩
theorem B5(hc:X.calm=true):dJ X (.builtin "min") (λxs H Q=>∃i j,xs=[.int i,.int j]/\Q (.int (if j<i then j else i)) H):=by
 intro ad s σ H xs us Q I r h;obtain⟨i,j,rfl,q⟩:=h;obtain⟨u,w',rfl,⟨t,rfl⟩,⟨t',rfl⟩⟩:=vals2 r;refine min_two_ints (I.ok.hd hc) λh' tk k=>⟨_,H,I.kept k,?_,q⟩;by_cases hj:j<i
 ·rw[if_pos hj,if_pos hj];exact⟨_,rfl⟩
 rw[if_neg hj,if_neg hj];exact⟨_,rfl⟩
theorem uR:dJ X (.type "int") (λxs H Q=>(∃i,xs=[.int i]/\Q (.int i) H)\/∃k,xs=[.bl k]/\Q (.int (if k then 1 else 0)) H):=by
 intro ad s σ H xs us Q I r h;rcases h with⟨i,rfl,q⟩|⟨k,rfl,q⟩
 ·obtain⟨u,rfl,t,rfl⟩:=vals1 r;exact call_int_int ⟨.int i,H,I,⟨_,rfl⟩,q⟩
 obtain⟨u,rfl,r1⟩:=vals1 r;cases r1;exact call_int_bool ⟨.int (if k then 1 else 0),H,I.tok _,⟨_,rfl⟩,q⟩
theorem xA:dJ X (.builtin "divmod") (λxs H Q=>∃i j,xs=[.int i,.int j]/\Hd i j/\∀p,H p=none->Q (.ref p) (upd H p (.tup [.int (i/j),.int (i%j)]))):=by intro ad s σ H xs us Q I r h;obtain⟨i,j,rfl,⟨h1,h2⟩,q⟩:=h;obtain⟨u,w',rfl,⟨t,rfl⟩,⟨t',rfl⟩⟩:=vals2 r;refine divmod_int (by lia) ?_ (.inl (Vy (by lia)));rw[Pj i (by lia),Pl i (by lia)];have hn:H s.heap.objs.size=none:=I.hok.fresh (b_ _);refine⟨.ref s.heap.objs.size,_,?_,rfl,q _ hn⟩;refine I.laid (λb o e=>Rx _ e) (b_ _) ⟨by simp only[j_,N6];rw[sizeLine_eq];decide,[.int (i/j) s.toks,.int (i%j) (s.toks+1)],.cons ⟨_,rfl⟩ (.cons ⟨_,rfl⟩ .nil),?_⟩;exact⟨_,RF s.heap rfl,rfl,0,rfl⟩
end
theorem tD.some_of {o:Option Rq}(r:tD (some v) o):∃u,o=some u/\RelV v u:=by
 cases o with
 |none=>exact(show False from r).elim
 |some u=>exact⟨u,rfl,r⟩
structure Room (k:Nat) (A:RS):Prop where
 hd:A.handled=none
 dp:A.depth+3*k+5<recursionLimit
 un:A.units+16*k+200<cLine
 gs:A.guards=some []
theorem Room.mono {k:Nat}(r:Room k A)(h:j<=k):Room j A:=⟨r.hd,by have:=r.dp;lia,by have:=r.un;lia,r.gs⟩
theorem Room.deeper {k:Nat}(r:Room (k+1) A)(env:Env):Room k (A.deeper env):=
 ⟨r.hd,by have:=r.dp;show A.depth+1+3*k+5<_;lia,by have:=r.un;show A.units+3+16*k+200<_;lia,r.gs⟩
theorem Room.depth {k:Nat}(r:Room k A):A.depth<recursionLimit:=by have:=r.dp;lia
theorem Room.units {k:Nat}(r:Room k A):A.units+64<cLine:=by have:=r.un;lia
noncomputable def Mj:TA:=λ_ H Q=>Q [] H
noncomputable def KG(ta:TE)(tr:TA):TA:=λσ H Q=>ta σ H λx H1=>tr σ H1 λxs H2=>Q (x::xs) H2
section
variable{X:Cx}{e:RI}{es:List RI}{te:TE}{t:TA}{pos:Pos}
theorem nL:PA X [] Mj:=λ_ _ _ _ H Q I h=>U3 ⟨[],H,I,.nil,h⟩
theorem kq(ha:PE X e te)(hr:PA X es t)(hs:RN (e::es) X.env=(false,RY e X.env)::RN es X.env:=by rfl):PA X (e::es) (KG te t):=by intro pos ad s σ H Q I h;rw[hs];show RA _ _ (spliced ((false,RY e X.env)::SS pos (RN es X.env))) _ _ s;refine SU (thn (ha ad s σ H _ I h) ?_);rintro u s1 ⟨x,H1,I1,r1,q1⟩;exact thn (hr pos ad s1 σ H1 _ I1 q1) λus s2 ⟨xs,H2,I2,r2,q2⟩=>⟨x::xs,H2,I2,.cons r1 r2,q2⟩
def MM(t:TA):TE:=λσ H Q=>t σ H λxs H1=>xs.length<=sizeLine/\∀p,H1 p=none->Q (.ref p) (upd H1 p (.lst xs))
theorem DH(h:PA X es t):PE X (.List es pos) (MM t):=by intro ad s σ H Q I hq;refine Wh (thn (h pos ad s σ H _ I hq) λus s1 ⟨xs,H1,I1,r,z,q⟩=>⟨by rw[<-r.length];exact z,?_⟩);have hf:H1 s1.heap.objs.size=none:=I1.hok.fresh (b_ _);refine⟨.ref s1.heap.objs.size,upd H1 s1.heap.objs.size (.lst xs),I1.laid (t':=s1.toks) (λb u e=>Rx _ e) (b_ _) ?_,rfl,q _ hf⟩;exact⟨z,us,0,r,RF _ rfl⟩
end
abbrev Sp:=List V->Hp->VK->XK->Prop
abbrev CXT:=List Env->Hp->Ru->XK->Rq->Ru->Prop
structure Env0 (P:RC) (w:RK) (K:Rr) (mg:Str->Option Rq) (base:RM) (A:RS) (outer:List Env) (s:Ru) (H:Hp):Prop where
 frames:A.frames=some outer
 mod:Mod K mg base
 bs:∀b o,base.get? b=some o->s.heap.get? b=some o/\H b=none
 bsz:base.objs.size<=s.heap.objs.size
 sH:s.heap.FunFrames base outer
 frf:∀b∈frs outer,H b=none
 hok:HOk P w H s.heap
 bare:Uc s.gens
def CE(outer:List Env)(P:RC)(w:RK)(H:Hp)(s:Ru)(Q:VK)(u:Rq)(s':Ru):Prop:=
 ∃v H',s'.os=s.os/\Uc s'.gens/\Un (frs outer) [] H H' s.heap s'.heap/\HOk P w H' s'.heap/\RelV v u/\Q v H'
def CR(CX:CXT)(outer:List Env)(P:RC)(w:RK)(H:Hp)(s:Ru)(Q:VK)(E:XK)(r:Result)(s':Ru):Prop:=
 match r with
 | .ok (.ret u)=>CE outer P w H s Q u s'
 | .ok _=>False
 | .error e=>CX outer H s E e s'
structure FnOk (P:RC) (w:RK) (K:Rr) (mg:Str->Option Rq) (base:RM) (CX:CXT) (k:Nat) (f:Rt) (fd:RP) (ps:List Str) (sp:Sp):Prop where
 len:∀vs H Q E,sp vs H Q E->vs.length=ps.length
 run:∀(A:RS) (outer:List Env) (s:Ru) (H:Hp) (args:Args) (us:List Rq) (vs:List V) (Q:VK) (E:XK),Room k A->Env0 P w K mg base A outer s H->VG s fd args (ps.zip us)->Vals vs us->sp vs H Q E->
  Ud (RJ P w) A (.call (.ref f) args) (CR CX outer P w H s Q E) s
variable {CX:CXT}{base:RM}{mg:Str->Option Rq}{ps:List Str}
theorem FnOk.imp {k:Nat}{f:Rt}{fd:RP}{sp sp':Sp}(F:FnOk P w K mg base CX k f fd ps sp)
  (h:∀vs H Q E,sp' vs H Q E->sp vs H Q E):FnOk P w K mg base CX k f fd ps sp':=
 ⟨λvs H Q E q=>F.len vs H Q E (h _ _ _ _ q),λA outer s H args us vs Q E hr he hb hv hs=>F.run A outer s H args us vs Q E hr he hb hv (h _ _ _ _ hs)⟩
section
variable{X:Cx}{ad:List (Rt×Obj)}{σ:St}{H:Hp}{s s':Ru}
theorem Inv.Mz (I:Inv X ad σ H s):Env0 X.prog X.w X.K X.mg X.base X.A X.stack s H:=
 ⟨I.ok.frames,I.ok.mod,I.bs,p_ I.ok.bsz I.sz,I.stack,I.AE,I.hok,I.bare⟩
theorem Inv.after {Q:VK}(I:Inv X ad σ H s)(h:CE X.stack X.prog X.w H s Q u s'):EP X ad σ Q u s':=by obtain⟨v,H',os,bare,un,hok,r,q⟩:=h;obtain⟨hh,g,d,t,os'⟩:=s';obtain rfl:os'=s.os:=os;exact⟨v,H',I.call (h':=hh) (g':=g) (d':=d) (t':=t) (ch:=[]) un hok bare (λb z=>absurd z (by simp)),r,q⟩
end
noncomputable def E6(sp:Sp)(dvs:List V)(E:XK)(t:TA):TE:=λσ H Q=>t σ H λvs H1=>sp (vs++dvs) H1 Q E
noncomputable def Binds(K:Rr)(fd:RP)(ps:List Str)(ds:List Rq):Prop:=
 ∀(s:Ru) (us:List Rq),K.In s.heap->(us++ds).length=ps.length->VG s fd ⟨us,[]⟩ (ps.zip (us++ds))
theorem Binds.all {fd:RP}(h:∀us:List Rq,us.length=ps.length->XE fd ⟨us,[]⟩=pure (ps.zip us)):Binds K fd ps []:=λs us _ hl=>by rw[H_]at hl ⊢;exact .of_eq (h us hl)
noncomputable def Passes(CX:CXT)(X:Cx)(E:XK):Prop:=∀(ad:List (Rt×Obj)) (σ:St) (H:Hp) (s:Ru) (e:Rq) (s':Ru),Inv X ad σ H s->CX X.stack H s E e s'->X.xe e s'
variable {vs:List V}
section
variable{X:Cx}{CX:CXT}{k:Nat}{f C:Rt}{fd:RP}{ps:List Str}{sp:Sp}{dvs:List V}{ds:List Rq}{E:XK}{x m:Str}{p pos apos:Pos}{e o:RI}{es:List RI}{ta:TE}{t:TA}
theorem IE{Q:VK}(F:FnOk X.prog X.w X.K X.mg X.base CX k f fd ps sp)(hr:Room k X.A)(hb:Binds X.K fd ps ds)(hd:Vals dvs ds)(hx:Passes CX X E)
  (I:Inv X ad σ H s) (r:Vals vs us) (h:sp (vs++dvs) H Q E):RA (RJ X.prog X.w) X.A (call (.ref f) us) (EP X ad σ Q) X.xe s:=by
 have r2:Vals (vs++dvs) (us++ds):=r.append hd;have hl:(us++ds).length=ps.length:=by rw[<-r2.length];exact F.len _ _ _ _ h
 refine wpAny_call (Ul (F.run X.A X.stack s H ⟨us,[]⟩ (us++ds) (vs++dvs) Q E hr I.Mz (hb s us I.kIn hl) r2 h) λr s' hq=>?_);cases r with
 |error e=>exact hx ad σ H s e s' I hq
 |ok fl=>
  cases fl with
  |ret u=>exact I.after hq
  |next=>exact RL hq
  |brk=>exact RL hq
  |cont=>exact RL hq
theorem Gh(F:FnOk X.prog X.w X.K X.mg X.base CX k f fd ps sp)(hr:Room k X.A)(hg:Gl X x)(hm:X.mg x=some (.ref f))(hk:T4 X.K (.ref f)=true)(hb:Binds X.K fd ps ds)(hd:Vals dvs ds)(hx:Passes CX X E)
  (ha:PA X (e::es) t) (hdb:(x ==("__debug__":Str))=false:=by decide) (he:RN (e::es) X.env=(false,RY e X.env)::RN es X.env:=by rfl) (hpl:(SS pos (RN es X.env)).any (·.1)=false:=by rfl) :
  PE X (.Call (.Name x p) (e::es) [] pos) (E6 sp dvs E t):=by
 intro ad s σ H Q I h;refine Tj (AQ I hg hm ?_ hdb);refine PySem.W.callWith_K (h₀:=X.base) I.ok.mod.kin hk (thn (ha pos ad s σ H _ I h) λus s1 ⟨vs,H1,I1,r,q⟩=>⟨I1.kIn,?_⟩) he hpl;exact IE F hr hb hd hx I1 r q
end
structure FnScope (N P:List Str) (sc:Sl):Prop where
 kind:sc.kind=.function
 co:sc.isCoroutine=false
 gen:sc.isGenerator=false
 nd:N.Nodup
 pre:N.take P.length=P
 par:∀x∈P,sc.names.lookup x=some .local\/sc.names.lookup x=some .cell
 nofree:∀y∈sc.names,y.2≠.free
theorem u6{kindOf:Str->Option S_}{x:Str}:∀{binds:List (Str×Rq)}{m:Str->Option Rq},(∀v,(x,v) ∉ binds)->VT kindOf binds m x=m x
 | [],_,_=>rfl
 | (n,v)::r,m,h=>by
  unfold VT;rw[u6 λw hw=>h w (q_ _ hw)];split
  ·have:x≠n:=by rintro rfl;exact h v x_
   simp[this]
  rfl
theorem tU{kindOf:Str->Option S_}{x:Str}:∀{binds:List (Str×Rq)}{m:Str->Option Rq},(∀v,(x,v) ∉ binds)->VU kindOf binds m x=m x
 | [],_,_=>rfl
 | (n,v)::r,m,h=>by
  unfold VU;rw[tU λw hw=>h w (q_ _ hw)];split
  ·rfl
  have:x≠n:=by rintro rfl;exact h v x_
  simp[this]
theorem tP{kindOf:Str->Option S_}{x:Str}{v:Rq}:∀{P:List Str}{vs:List Rq}{i:Nat}{m:Str->Option Rq},P.Nodup->P[i]?=some x->vs[i]?=some v->kindOf x=some .local->
  VT kindOf (P.zip vs) m x=some v
 | [],_,_,_,_,h,_,_=>by simp at h
 | _::_,[],_,_,_,_,h,_=>by simp at h
 |p::P,w::vs,0,m,nd,h1,h2,hk=>by simp at h1 h2;subst h1;subst h2;show VT kindOf ((p,w)::P.zip vs) m p=_;unfold VT;rw[u6 λv hv=>(J_.mp nd).1 (Qb hv).1,if_pos hk];simp
 |p::P,w::vs,i+1,m,nd,h1,h2,hk=>by show VT kindOf ((p,w)::P.zip vs) m x=_;unfold VT;exact tP (i:=i) (J_.mp nd).2 (by simpa using h1) (by simpa using h2) hk
theorem uw{kindOf:Str->Option S_}{x:Str}{v:Rq}:∀{P:List Str}{vs:List Rq}{i:Nat}{m:Str->Option Rq},P.Nodup->P[i]?=some x->vs[i]?=some v->kindOf x≠some .local->
  VU kindOf (P.zip vs) m x=some v
 | [],_,_,_,_,h,_,_=>by simp at h
 | _::_,[],_,_,_,_,h,_=>by simp at h
 |p::P,w::vs,0,m,nd,h1,h2,hk=>by simp at h1 h2;subst h1;subst h2;show VU kindOf ((p,w)::P.zip vs) m p=_;unfold VU;rw[tU λv hv=>(J_.mp nd).1 (Qb hv).1,if_neg hk];simp
 |p::P,w::vs,i+1,m,nd,h1,h2,hk=>by show VU kindOf ((p,w)::P.zip vs) m x=_;unfold VU;exact uw (i:=i) (J_.mp nd).2 (by simpa using h1) (by simpa using h2) hk
noncomputable def start(N:List Str)(vs:List V):St:=vs.map some++NG (N.length-vs.length) none
noncomputable def yQ(CX:CXT)(P:RC)(w:RK)(K:Rr)(mg:Str->Option Rq)(base:RM)(N:List Str)(qual:Str)(scope:Sl)(f:Rt)(cd:Rq)(A:RS)(outer:List Env)(s:Ru)(H:Hp)(E:XK):Cx where
 prog:=P
 w:=w
 K:=K
 mg:=mg
 base:=base
 A:=A.deeper (Um qual scope s.heap.objs.size f cd)
 N:=N
 s₀:=s
 H₀:=H
 env:=Um qual scope s.heap.objs.size f cd
 outer:=outer
 stack:=Um qual scope s.heap.objs.size f cd::outer
 ex:=[]
 calm:=true
 fn:=λ_=>true
 pn:=[]
 xe:=λe s'=>RA (RJ P w) (A.deeper (Um qual scope s.heap.objs.size f cd)) (leaving (Um qual scope s.heap.objs.size f cd) e) (λ_ s''=>CX outer H s E e s'') (λe' s''=>CX outer H s E e' s'') s'
theorem wN{sc:Sl}{n:Nat}(h:sc.names.lookup x=some .cell):∃c,(Xm n sc.names []).lookup x=some c:=by have q:=Vz sc.names n [] (.inl h);exact OG.mp q
theorem By{qual:Str}{scope:Sl}{f:Rt}{cd:Rq}{outer:List Env}{s1:Ru}{E:XK}
  (S:FnScope N ps scope) (hd:A.handled=none) (e0:Env0 P w K mg base A outer s H) (hl:vs.length=ps.length) (r:Vals vs us)
  (x:InCallC s s.heap.objs.size (VT (Um qual scope s.heap.objs.size f cd).kindOf (ps.zip us) λ_=>none) (Xm (s.heap.objs.size+1) scope.names []) (VU (Um qual scope s.heap.objs.size f cd).kindOf (ps.zip us) λ_=>none) s1) :
  Inv (yQ CX P w K mg base N qual scope f cd A outer s H E) [] (start N vs) H s1:=by
 have hpl:ps.length<=N.length:=by have:=congrArg Pf S.pre;rw[y_]at this;lia
 obtain⟨h1,tk,rfl,hk⟩:=x.done;have noA:∀b:Rt,b ∉ (yQ CX P w K mg base N qual scope f cd A outer s H E).ex:=λb z=>absurd (show b∈([]:List Rt)from z) (by simp)
 refine⟨⟨e0.mod,S.kind,rfl,rfl,b_ _,λy z c h1 h2=>?_,λy hy=>?_,λy c _ h=>?_,λ_=>hd,Around.frames_deeper e0.frames,.inr ⟨rfl,rfl⟩,λb z=>absurd z (noA b),e0.bs,e0.bsz,λb _ _=>noA b,λb z=>absurd z (noA b),e0.sH,e0.frf⟩,
  rfl,e0.bare,Un.kept hk,⟨_,x.toInCall.ns,λi y v h1 h2 h3=>?_⟩,λy c h=>⟨_,x.cell y c h⟩,e0.hok.fresh (b_ _),λy c h=>?_,λp hp=>absurd (show p∈([]:List (Rt×Obj))from hp) (by simp),e0.hok.kept hk,?_⟩
 ·exact name_of_addr x.apart (SE h1) (SE h2)
 ·have hy:scope.names.lookup y=some .cell\/scope.names.lookup y=some .free:=hy;rcases hy with hy|hy
  ·exact wN hy
  exact absurd rfl (S.nofree _ (SE hy))
 ·exact L' (x.above y c (SE h))
 ·have hi:i<vs.length:=by
   unfold start at h2;by_cases hi:i<vs.length
   ·exact hi
   rw[Nt (by simpa using hi)]at h2;rw[List.getElem?_replicate]at h2;split at h2 <;> cases h2
  have ha:vs[i]?=some v:=by
   unfold start at h2;rw[NP (by simpa using hi),k_]at h2;cases e:vs[i]? with
   |none=>rw[e]at h2;cases h2
   |some a=>rw[e]at h2;cases h2;rfl
  obtain⟨u,hu,rv⟩:=r.get ha;have hp:ps[i]?=some y:=by rw[<-S.pre,PR (by lia)];exact h1
  have ndP:ps.Nodup:=by rw[<-S.pre];exact S.nd.sublist (Od _ _)
  refine⟨u,rv,?_⟩;rcases S.par y (B' hp)with k|k
  ·exact .inl ⟨k,tP ndP hp hu k⟩
  obtain⟨c,e⟩:=wN (n:=s.heap.objs.size+1) k;refine .inr ⟨.inl k,c,e,?_⟩;have q:=x.cell y c e;rw[uw ndP hp hu (by show scope.names.lookup y≠_;rw[k];decide)]at q;exact q
 ·exact e0.hok.fresh (L' (x.above y c (SE h)))
 unfold start;show _=N.length;rw[f',a_,List.length_replicate];lia
theorem Lh{k:Nat}{f:Rt}{name qual:Str}{params:Arguments}{scope:Sl}{dV kV doc pm cdv ct oc:Rq}{an od:Option Rt}
  {osl:Array (Option Rq)}{N ps:List Str}{sp:Sp} (lk:K.lookup f=some ⟨oc,od,.func (SV name qual params body scope dV kV doc pm an cdv ct),osl⟩) (hcd:Uz K cdv qual=true) (S:FnScope N ps scope)
  (len:∀vs H Q E,sp vs H Q E->vs.length=ps.length)
  (hbody:∀(A:RS) (outer:List Env) (s:Ru) (H:Hp) (vs:List V) (Q:VK) (E:XK),Room k (A.deeper (Um qual scope s.heap.objs.size f cdv))->sp vs H Q E->
   ∃t,PSs (yQ CX P w K mg base N qual scope f cdv A outer s H E) body t/\t { nx:=λ_ H'=>Q .non H',rt:=Q} (start N vs) H) :
  FnOk P w K mg base CX (k+1) f (SV name qual params body scope dV kV doc pm an cdv ct) ps sp:=by
 refine⟨len,λA outer s H args us vs Q E hr e0 hb r hsp=>?_⟩;have hl:=len _ _ _ _ hsp;have KX:K.In s.heap:=e0.mod.kin.keeps λb o e=>(e0.bs b o e).1;have lim:s.heap.NoLimit:=e0.mod.nolimit.keeps λb o e=>(e0.bs b o e).1;have hkind:∀y∈ps.zip us,scope.names.lookup y.1=some .local\/(scope.names.lookup y.1=some .cell/\((Xm (s.heap.objs.size+1) scope.names []).lookup y.1).isSome=true):=λ⟨n,v⟩ hy=>by
  rcases S.par n (Qb hy).1 with q|q
  ·exact .inl q
  exact .inr ⟨q,Vz _ _ _ (.inl q)⟩
 refine codeAny_call_function hr.depth (KX _ _ lk) rfl S.co S.gen rfl (PySem.W.codeRec_of KX hcd) (hb _ _ _ _ ?_);refine wpAny_newFunctionEnv_cells S.kind hkind λenv he s1 x=>?_;subst he;refine⟨lim.keeps x.toInCall.keep,codeAny_func ?_⟩;obtain⟨t,ht,hq⟩:=hbody A outer s H vs Q E (hr.deeper _) hsp;have I:Inv (yQ CX P w K mg base N qual scope f cdv A outer s H E) [] (start N vs) H s1:=By S hr.hd e0 hl r x;refine RZ (ht [] s1 (start N vs) H _ I hq) (λfl s' hs=>?_) λe s' hs=>hs;have fin:∀{cr:St}{H':Hp}{v:V}{u:Rq},Inv (yQ CX P w K mg base N qual scope f cdv A outer s H E) [] cr H' s'->RelV v u->Q v H'->CE outer P w H s Q u s':=
  λ{cr H' v u} J rv q=>⟨v,H',J.os,J.bare,J.base,J.hok,rv,q⟩
 cases fl with
 |ret u=>
  obtain⟨v,cr,H',J,rv,q⟩:=hs;exact fin J rv q
 |next=>
  obtain⟨cr,H',J,q⟩:=hs;exact fin (v:=V.non) (u:=R4) J rfl q
 |brk=>
  obtain⟨_,_,_,q⟩:=hs;exact RL q
 |cont=>
  obtain⟨_,_,_,q⟩:=hs;exact RL q
section
variable{X:Cx}{x:Str}{p pos:Pos}{e:RI}{es:List RI}{t:TA}{id T:String}{r:List V->Hp->VK->Prop}
noncomputable def tCB(r:List V->Hp->VK->Prop)(t:TA):TE:=λσ H Q=>t σ H λvs H1=>r vs H1 Q
theorem sV(hc:dJ X (.builtin id) r)(hg:Gl X x)(hm:X.mg x=none)(hv:SR x=some (.builtin id))(ha:PA X (e::es) t)(hn:x≠"__name__":=by decide)(hdb:(x ==("__debug__":Str))=false:=by decide)
  (he:RN (e::es) X.env=(false,RY e X.env)::RN es X.env:=by rfl) (hpl:(SS pos (RN es X.env)).any (·.1)=false:=by rfl):PE X (.Call (.Name x p) (e::es) [] pos) (tCB r t):=by
 intro ad s σ H Q I h;refine Tj (lH I hg hm hv ?_ hn hdb);exact WU (thn (ha pos ad s σ H _ I h) λus s1 ⟨vs,H1,I1,r1,q1⟩=>hc ad s1 σ H1 vs us Q I1 r1 q1) he hpl
theorem uN(hc:dJ X (.type T) r)(hg:Gl X x)(hm:X.mg x=none)(hv:SR x=some (.type T))(ha:PA X (e::es) t)(hn:x≠"__name__":=by decide)(hdb:(x ==("__debug__":Str))=false:=by decide)
  (he:RN (e::es) X.env=(false,RY e X.env)::RN es X.env:=by rfl) (hpl:(SS pos (RN es X.env)).any (·.1)=false:=by rfl):PE X (.Call (.Name x p) (e::es) [] pos) (tCB r t):=by
 intro ad s σ H Q I h;refine Tj (lH I hg hm hv ?_ hn hdb);exact Sz (thn (ha pos ad s σ H _ I h) λus s1 ⟨vs,H1,I1,r1,q1⟩=>hc ad s1 σ H1 vs us Q I1 r1 q1) he hpl
end
end L2
namespace HT
open PySem PyProof.Rows
variable {Q:Rq->Ru->Prop}{hi lo:Option Int}
section
variable{prog:RC}{w:RK}{A:RS}{E:Rq->Ru->Prop}{s:Ru}
theorem He{t b:Rt}{vs ws:List Rq}(ht:XA s.heap t vs.toArray)(hb:XA s.heap b ws.toArray)(hv:vs≠[])
  (h1:ws=[]->Q (.ref t) s) (h2:ws≠[]->Q (.ref s.heap.objs.size) {s with heap:=s.heap.push { cls:=.type "tuple",data:=.seq (vs++ws).toArray} })
  (hsz:vs.length+ws.length<=sizeLine):RA (RJ prog w) A (Ss .Add (.ref t) (.ref b)) Q E s:=by
 obtain⟨⟨cls,dd,data,sl⟩,ho,hc,n,hd⟩:=id ht;obtain⟨⟨cls2,dd2,data2,sl2⟩,ho2,hc2,n2,hd2⟩:=id hb;simp only at hc hd hc2 hd2;subst hc hd hc2 hd2;have e:vs.toArray++ws.toArray=(vs++ws).toArray:=by simp
 by_cases hw:ws=[]
 ·exact Wi ⟨_,ho,rfl⟩ ⟨_,ho2,rfl⟩ Vc V7 T8 T6 (TR _ _)
   (tuple_addW1 t b vs.toArray ws.toArray n n2 dd dd2 sl sl2 (by simpa using hv) (by simp[hw])) ⟨ho,ho2,h1 hw⟩
 refine Wi ⟨_,ho,rfl⟩ ⟨_,ho2,rfl⟩ Vc V7 T8 T6 (TR _ _)
  (tuple_addW2 t b vs.toArray ws.toArray n n2 dd dd2 sl sl2 (by simpa using hv) (by simpa using hw) (by rw[g_,g_];exact hsz)) ⟨ho,ho2,?_⟩
 rw[e];exact h2 hw
noncomputable def sIx(n d:Nat):Option Int->Nat
 |none=>d
 |some v=>if v<0 then(v+(n:Int)).toNat else min v.toNat n
theorem t5(n d:Nat):sIx n d none=d:=rfl
theorem ra(n d k:Nat):sIx n d (some (k:Int))=min k n:=by show(if(k:Int)<0 then((k:Int)+(n:Int)).toNat else min (k:Int).toNat n)=min k n;rw[if_neg (by lia),Nl]
theorem JD(n d:Nat)(hd:d<=n)(o:Option Int):sIx n d o<=n:=by
 cases o with
 |none=>exact hd
 |some v=>
  show(if v<0 then(v+(n:Int)).toNat else min v.toNat n)<=n;by_cases hv:v<0
  ·rw[if_pos hv];lia
  rw[if_neg hv];exact Nat.min_le_right _ _
theorem Ap(v:Int)(n d:Nat):(if v<0 then max (v+(n:Int)) 0 else min v (n:Int))=((sIx n d (some v):Nat):Int):=by
 show(if v<0 then max (v+(n:Int)) 0 else min v (n:Int))=(((if v<0 then(v+(n:Int)).toNat else min v.toNat n):Nat):Int);by_cases hv:v<0
 ·simp only[if_pos hv];lia
 simp only[if_neg hv];lia
theorem yJ(lo hi:Option Int)(n:Nat):TL lo hi 1 (n:Int)=(((sIx n 0 lo:Nat):Int),((sIx n n hi:Nat):Int)):=by
 have h1:¬((1:Int)<0):=by lia
 unfold TL;simp only[h1,if_false];refine Oq ?_ ?_
 ·cases lo with
  |none=>rfl
  |some v=>exact Ap v n 0
 cases hi with
 |none=>rfl
 |some v=>exact Ap v n n
theorem yM(i j:Nat):S8 (i:Int) (j:Int) 1=j-i:=by
 unfold S8;have h1:(1:Int) > 0:=by lia
 simp only[h1,if_true,Int.ediv_one];split <;> lia
theorem rM{v:Rq}{o:Option Int}{Q:Option Int->Ru->Prop}(p:Vd v o)(h:Q o s):RA (RJ prog w) A (Xb v) Q E s:=by
 cases p with
 |none=>exact Xc h
 |int i t=>exact slicePart_int h
theorem qm{sl:Rt}{vl vu:Rq}{n:Nat}{Q:Int×Int×Nat->Ru->Prop}(hs:s.heap.IsSliceOf sl vl vu .none)(pl:Vd vl lo)(pu:Vd vu hi)
  (h:Q (((sIx n 0 lo:Nat):Int),1,sIx n n hi-sIx n 0 lo) s):RA (RJ prog w) A (UU (.ref sl) (pure (n:Int))) Q E s:=by
 obtain⟨os,hos,hcs,hds⟩:=id hs;unfold UU XB;refine Ro (Ro (Sj hos hds (x:=vl) rfl (Ro (Sj hos hds (x:=vu) rfl (Ro (Sj hos hds (x:=.none) rfl (Rv ?_)))))));refine Ro (Xc ?_);show RA _ _ (if((1:Int) == 0)=true then _ else _) _ _ s;rw[if_neg (by decide)];refine Ro (rM pl (Ro (rM pu (Ro (Rv ?_)))));show RA _ _ (match TL lo hi 1 (n:Int)with|(lo,hi)=>pure (lo,(1:Int),S8 lo hi 1)) _ _ s;rw[yJ lo hi n];show RA _ _ (pure (((sIx n 0 lo:Nat):Int),(1:Int),S8 ((sIx n 0 lo:Nat):Int) ((sIx n n hi:Nat):Int) 1)) _ _ s;rw[yM];exact Rv h
theorem Ds(xs:Array Rq)(i k:Nat):((w_ k).filterMap λ(m:Nat)=>xs[((i:Int)+(m:Int)*1).toNat]?).toArray=((xs.toList.drop i).take k).toArray:=by
 have e:(λ(m:Nat)=>xs[((i:Int)+(m:Int)*1).toNat]?)=λm=>xs[i+m]?:=by
  funext m;have:((i:Int)+(m:Int)*1).toNat=i+m:=by lia
  rw[this]
 rw[e];have:=pick_run xs i k;rw[QA]at this;have e2:((λx=>xs[x]?) ∘ λx=>i+x)=λm=>xs[i+m]?:=rfl;rw[e2]at this;rw[this]
theorem pg{t sl:Rt}{items:Array Rq}{vl vu:Rq}(ht:XA s.heap t items)(hs:s.heap.IsSliceOf sl vl vu .none)(pl:Vd vl lo)(pu:Vd vu hi)
  (hw:¬(sIx items.size 0 lo=0/\sIx items.size items.size hi=items.size))
  (h:Q (.ref s.heap.objs.size) {s with heap:=s.heap.push { cls:=.type "tuple",data:=.seq ((items.toList.drop (sIx items.size 0 lo)).take (sIx items.size items.size hi-sIx items.size 0 lo)).toArray} })
  (hsz:items.size<=sizeLine):RA (RJ prog w) A (UA (.ref t) (.ref sl)) Q E s:=by
 have htake:sizeOk (.seq ((items.toList.drop (sIx items.size 0 lo)).take (sIx items.size items.size hi-sIx items.size 0 lo)).toArray):=by show((items.toList.drop (sIx items.size 0 lo)).take (sIx items.size items.size hi-sIx items.size 0 lo)).toArray.size<=sizeLine;rw[g_,y_,F',h_];omega
 have hj:sIx items.size items.size hi<=items.size:=JD _ _ (b_ _) hi;obtain⟨os,hos,hcs,hds⟩:=id hs;have hTs:s.TypeIs (.ref sl) "slice":=⟨os,hos,hcs⟩;unfold UA
 try with_reducible refine R1 ?_
 first|refine Ro (Rv ?_)|skip
 refine Ro (wpAny_sequenceKey ht.typeIs (by decide) ?_);refine Ro (R' (name:=SW "__getitem__") ht.typeIs Te
  (Sm Te ht.typeIs entry_tuple_getitem ?_ (args_tuple_getitem _ _)))
 show RA _ _ (Xq (.ref t) >>= _) _ _ s;refine Ro (tupleItemsOf_ ht ?_);refine Ro (XF hTs ?_);rw[if_pos (by decide)];refine Ro (qm hs pl pu ?_);have hno:¬((((sIx items.size 0 lo:Nat):Int) == 0&&(1:Int) == 1&&(sIx items.size items.size hi-sIx items.size 0 lo) == items.size)=true):=by intro q;rw[J',J']at q;have q1:((sIx items.size 0 lo:Nat):Int)=0:=eq_of_beq q.1.1;have q2:sIx items.size items.size hi-sIx items.size 0 lo=items.size:=eq_of_beq q.2;exact hw ⟨by lia,by lia⟩
 show RA _ _ (if(((sIx items.size 0 lo:Nat):Int) == 0&&(1:Int) == 1&&(sIx items.size items.size hi-sIx items.size 0 lo) == items.size)=true then _ else _) _ _ s;rw[if_neg hno,Ds]
 first
  |exact Ro (m:=Ta _) (Sg (Rv ⟨_,rfl,Rv h⟩) htake)
  |exact Ro (m:=Ta _) (Sg (Ro (Rv (Rv ⟨_,rfl,Rv h⟩))) htake)
  |exact Ro (Ro (m:=Ta _) (Sg (Rv (Rv ⟨_,rfl,Rv h⟩)) htake))
  |exact Ro (Ro (m:=Ta _) (Sg (Rv ⟨_,rfl,Rv h⟩) htake))
end
end HT
namespace L2
open PySem PySem.Spec PyProof.Rows
abbrev TO:=St->Hp->(Option Int->Hp->Prop)->Prop
noncomputable def PO(X:Cx)(e:Option RI)(t:TO):Prop:=
 ∀(ad:List (Rt×Obj)) (s:Ru) (σ:St) (H:Hp) (Q:Option Int->Hp->Prop),Inv X ad σ H s->t σ H Q->
  RA (RJ X.prog X.w) X.A (evalPart e X.env) (λu s'=>∃o H',Inv X ad σ H' s'/\Vd u o/\Q o H') X.xe s
noncomputable def F2:TO:=λ_ H Q=>Q none H
noncomputable def Kn(t:TE):TO:=λσ H Q=>t σ H λx H1=>∃i,x=.int i/\Q (some i) H1
variable {us:List Rq}
section
variable{X:Cx}{e:RI}{te:TE}{lo hi:Option RI}{tl th:TO}{pos p2:Pos}
theorem Ai:PO X none F2:=by intro ad s σ H Q I h;rw[UW];exact Rv ⟨none,H,I,.none,h⟩
theorem zS(h:PE X e te):PO X (some e) (Kn te):=by intro ad s σ H Q I hw;rw[UX];refine thn (h ad s σ H _ I hw) ?_;rintro u s1 ⟨x,H1,I1,r1,q1⟩;obtain⟨i,rfl,q⟩:=q1;obtain⟨t,rfl⟩:=r1;exact⟨some i,H1,I1,.int i t,q⟩
def SlR(X:Cx)(r:V->Option Int->Option Int->Hp->VK->Prop):Prop:=
 ∀(ad:List (Rt×Obj)) (s:Ru) (σ:St) (H:Hp) (x:V) (v vl vu:Rq) (lo hi:Option Int) (sl:Rt) (Q:VK),Inv X ad σ H s->RelV x v->s.heap.IsSliceOf sl vl vu .none->Vd vl lo->Vd vu hi->r x lo hi H Q->
  ∃T id,typeLookup (.type T) "__getitem__"=pure (some (.builtin id))/\s.TypeIs v T/\RA (RJ X.prog X.w) X.A (UA v (.ref sl)) (EP X ad σ Q) X.xe s
noncomputable def tSl(r:V->Option Int->Option Int->Hp->VK->Prop)(te:TE)(tl th:TO):TE:=λσ H Q=>te σ H λx H1=>tl σ H1 λl H2=>th σ H2 λu H3=>r x l u H3 Q
theorem yk{r:V->Option Int->Option Int->Hp->VK->Prop}(hr:SlR X r)(he:PE X e te)(hl:PO X lo tl)(hu:PO X hi th):PE X (.Subscript e (.Slice lo hi none p2) pos) (tSl r te tl th):=by intro ad s σ H Q I h;refine U5 (thn (he ad s σ H _ I h) ?_);rintro v s1 ⟨x,H1,I1,r1,q1⟩;refine WA (thn (hl ad s1 σ H1 _ I1 q1) λvl s2 ⟨l,H2,I2,pl,q2⟩=>thn (hu ad s2 σ H2 _ I2 q2) ?_);rintro vu s3 ⟨u,H3,I3,pu,q3⟩;rw[UW];refine Rv ?_;have I4:Inv X ad σ H3 {s3 with heap:=s3.heap.push { cls:=.type "slice",data:=.fields #[vl,vu,.none] } }:=I3.kept (t':=s3.toks) λb ob q=>Rx _ q;obtain⟨T,id,hT,ht,hg⟩:=hr ad {s3 with heap:=s3.heap.push { cls:=.type "slice",data:=.fields #[vl,vu,.none] } } σ H3 x v vl vu l u s3.heap.objs.size Q I4 r1 (UJ ..) pl pu q3;show RA (RJ X.prog X.w) X.A (Tg e (.Slice lo hi none p2) v (.ref s3.heap.objs.size)) (EP X ad σ Q) X.xe {s3 with heap:=s3.heap.push { cls:=.type "slice",data:=.fields #[vl,vu,.none] } };exact WH (ops:=[.ref s3.heap.objs.size,v]) ht hT hg (by with_unfolding_all rfl)
def mi(xs:List V)(lo hi:Option Int):List V:=(xs.drop (HT.sIx xs.length 0 lo)).take (HT.sIx xs.length xs.length hi-HT.sIx xs.length 0 lo)
theorem qI(xs:List V)(lo hi:Option Int):(mi xs lo hi).length<=xs.length:=by unfold mi;rw[y_,F'];lia
def Mt(K:Rr):V->Option Int->Option Int->Hp->VK->Prop:=λx lo hi H Q=>∃a xs,x=.ref a/\SqT K H a xs/\
 ¬(HT.sIx xs.length 0 lo=0/\HT.sIx xs.length xs.length hi=xs.length)/\∀p,H p=none->Q (.ref p) (upd H p (.tup (mi xs lo hi)))
theorem Jn:SlR X (Mt X.K):=by
 intro ad s σ H x v vl vu lo hi sl Q I rx hs pl pu h;obtain⟨a,xs,rfl,hx,hw,q⟩:=h;cases rx;obtain⟨be,r,ht,hz⟩:=I.tuple hx;have hlen:be.toArray.size=xs.length:=by rw[g_];exact r.length.symm
 refine⟨"tuple",_,Te.lookup,ht.typeIs,?_⟩;refine HT.pg ht hs pl pu (by rw[hlen];exact hw) ?_ (by rw[hlen];exact hz);rw[hlen];refine⟨.ref s.heap.objs.size,_,I.laid (t':=s.toks) (o:=.tup (mi xs lo hi)) (λb ob q=>Rx _ q) (b_ _) ?_,rfl,q _ (I.hok.fresh (b_ _))⟩;exact⟨p_ (qI xs lo hi) hz,_,(r.drop (HT.sIx xs.length 0 lo)).take (HT.sIx xs.length xs.length hi-HT.sIx xs.length 0 lo),Wf _ _⟩
def Kl(K:Rr):R2:=λx y H Q=>∃a b xs ys,x=.ref a/\y=.ref b/\SqT K H a xs/\SqT K H b ys/\xs≠[]/\xs.length+ys.length<=sizeLine/\
 (ys=[]->Q (.ref a) H)/\(ys≠[]->∀p,H p=none->Q (.ref p) (upd H p (.tup (xs++ys))))
theorem Vals.wg {xs:List V}(r:Vals xs us):us=[]↔xs=[]:=by
 cases r with
 |nil=>simp
 |cons _ _=>simp
theorem Fd:OpR X (Ss .Add) (Kl X.K):=by intro ad s σ H x y v u Q I rx ry h;obtain⟨a,b,xs,ys,rfl,rfl,ha,hb,hx,hz,q1,q2⟩:=h;cases rx;cases ry;obtain⟨be,r1,p1,_⟩:=I.tuple ha;obtain⟨its2,r2,p2,_⟩:=I.tuple hb;refine HT.He p1 p2 (λz=>hx (r1.wg.mp z)) (λz=>⟨.ref a,H,I,rfl,q1 (r2.wg.mp z)⟩) (λz=>?_) (by rw[<-r1.length,<-r2.length];exact hz);refine⟨.ref s.heap.objs.size,_,I.laid (t':=s.toks) (o:=.tup (xs++ys)) (λb ob q=>Rx _ q) (b_ _) ?_,rfl,q2 (λw=>z (r2.wg.mpr w)) _ (I.hok.fresh (b_ _))⟩;exact⟨by rw[f'];exact hz,_,r1.append r2,Wf _ _⟩
theorem qA:dJ X (.type "tuple") (λxs H Q=>∃a ys,xs=[.ref a]/\SqT X.K H a ys/\Q (.ref a) H):=by intro ad s σ H xs us Q I r h;obtain⟨a,ys,rfl,ha,q⟩:=h;obtain⟨u,rfl,ru⟩:=vals1 r;cases ru;obtain⟨be,_,p1,_⟩:=I.tuple ha;exact WV (items:=be.toArray) p1 ⟨.ref a,H,I,rfl,q⟩
end
noncomputable def ixN(n:Nat)(i:Int):Option Nat:=if 0<=i then(if i<n then some i.toNat else none)else if -(n:Int)<=i then some (i+n).toNat else none
variable {α:Type}
def atI(xs:List α)(i:Int):Option α:=(ixN xs.length i).bind λj=>xs[j]?
variable {n:Nat}
theorem wj{i:Int}{j:Nat}(h:ixN n i=some j):seqIndex? i n=some j/\j<n/\-(n:Int)<=i/\i<n:=by
 unfold ixN at h;by_cases h0:0<=i
 ·rw[if_pos h0]at h;by_cases h1:i<n
  ·rw[if_pos h1]at h;have e:i.toNat=j:=F_ h;exact⟨by rw[WB h0 h1,e],by lia,by lia,h1⟩
  rw[if_neg h1]at h;cases h
 rw[if_neg h0]at h;by_cases h1:-(n:Int)<=i
 ·rw[if_pos h1]at h;have e:(i+n).toNat=j:=F_ h;exact⟨by rw[Wj (by lia) h1,e],by lia,h1,by lia⟩
 rw[if_neg h1]at h;cases h
theorem vF{xs:List α}{i:Int}{v:α}(h:atI xs i=some v):∃j,seqIndex? i xs.length=some j/\xs[j]?=some v/\j<xs.length/\-(xs.length:Int)<=i/\i<xs.length:=by
 unfold atI at h;cases e:ixN xs.length i with
 |none=>rw[e]at h;cases h
 |some j=>
  rw[e]at h;obtain⟨h1,h2,h3,h4⟩:=wj e;exact⟨j,h1,h,h2,h3,h4⟩
theorem j8{xs:List α}{j:Nat}{v:α}(h:xs[j]?=some v):atI xs (j:Int)=some v:=by
 have hj:j<xs.length:=(c_.mp h).1;have e:ixN xs.length (j:Int)=some j:=by unfold ixN;rw[if_pos (by lia),if_pos (by lia)];simp
 unfold atI;rw[e];exact h
noncomputable def AA(b:RI):Prop:=∀o i,UH b false o i=X7 [o,i] (UA o i)
def IxR(X:Cx)(r:R2):Prop:=
 ∀(value slice:RI) (ad:List (Rt×Obj)) (s:Ru) (σ:St) (H:Hp) (x y:V) (v u:Rq) (Q:VK),Inv X ad σ H s->RelV x v->RelV y u->r x y H Q->
  UH slice false v u=X7 [v,u] (UA v u)->RA (RJ X.prog X.w) X.A (Tg value slice v u) (EP X ad σ Q) X.xe s
def MtR(X:Cx)(id:String)(r:V->List V->Hp->VK->Prop):Prop:=
 ∀(ad:List (Rt×Obj)) (s:Ru) (σ:St) (H:Hp) (x:V) (xs:List V) (v:Rq) (us:List Rq) (Q:VK),Inv X ad σ H s->RelV x v->Vals xs us->r x xs H Q->
  RA (RJ X.prog X.w) X.A (call (.builtin id) (v::us)) (EP X ad σ Q) X.xe s
variable {H:Hp}{be its':List Rq}{ad:List (Rt×Obj)}{s:Ru}{σ:St}
section
variable{X:Cx}{a b:RI}{ta tb:TE}{pos:Pos}
theorem IxR.or {r r':R2}(h:IxR X r)(h':IxR X r'):IxR X (λx y H Q=>r x y H Q\/r' x y H Q):=by
 intro value slice ad s σ H x y v u Q I rx ry q hs;rcases q with q|q
 ·exact h value slice ad s σ H x y v u Q I rx ry q hs
 exact h' value slice ad s σ H x y v u Q I rx ry q hs
theorem HB{r:R2}(hr:IxR X r)(ha:PE X a ta)(hb:PE X b tb)(hs:AA b):PE X (.Subscript a b pos) (tOp r ta tb):=by intro ad s σ H Q I h;exact U5 (Jt ha hb I h λv u s2 x y H2 I2 rx ry q=>hr a b ad s2 σ H2 x y v u Q I2 rx ry q (hs _ _))
def KD(K:Rr):R2:=λx y H Q=>∃p xs i v,x=.ref p/\y=.int i/\SqL K H p xs/\atI xs i=some v/\Q v H
def Ln(K:Rr):R2:=λx y H Q=>∃p xs i v,x=.ref p/\y=.int i/\SqT K H p xs/\atI xs i=some v/\Q v H
def LL:R2:=λx y H Q=>∃z i c,x=.str z/\y=.int i/\z.length<=sizeLine/\atI z.cps.toList i=some c/\Q (.str ⟨#[c]⟩) H
theorem Am:IxR X (KD X.K):=by
 intro value slice ad s σ H x y v u Q I rx ry h hs;obtain⟨p,xs,i,z,rfl,rfl,hq,he,q⟩:=h;cases rx;obtain⟨t,rfl⟩:=ry;obtain⟨be,r,pl,hz⟩:=I.list hq;obtain⟨j,h1,h2,h3,h4,h5⟩:=vF he;obtain⟨w,ew,rw'⟩:=r.get h2;have hl:=r.length;have hn:=nP;have fin:EP X ad σ Q w s:=⟨z,H,I,rw',q⟩;by_cases h0:0<=i
 ·have hj:i.toNat=j:=by rw[WB h0 h5]at h1;exact F_ h1
  exact item_listR pl.isList h0 (by lia) (by rw[hj];simpa using ew) fin hs
 have hj:(i+(be.toArray.size:Int)).toNat=j:=by rw[Wj (by lia) h4]at h1;rw[g_,<-hl];exact F_ h1
 exact VA (x:=w) pl.isList.typeIs slot_list_getitem.lookup
  (wpAny_getItem_list_neg (Q:=λr s'=>r=w/\EP X ad σ Q r s') pl.isList (by lia) (by rw[g_] <;> lia) (by lia) (by rw[hj];simpa using ew) ⟨rfl,fin⟩) hs
theorem Iz:IxR X (Ln X.K):=by
 intro value slice ad s σ H x y v u Q I rx ry h hs;obtain⟨p,xs,i,z,rfl,rfl,hq,he,q⟩:=h;cases rx;obtain⟨t,rfl⟩:=ry;obtain⟨be,r,pl,hz⟩:=I.tuple hq;obtain⟨j,h1,h2,h3,h4,h5⟩:=vF he;obtain⟨w,ew,rw'⟩:=r.get h2;have hl:=r.length;have hn:=nP;have fin:EP X ad σ Q w s:=⟨z,H,I,rw',q⟩;exact VA (x:=w) pl.typeIs slot_tuple_getitem.lookup
  (getItem_tuple (j:=j) (Q:=λr s'=>r=w/\EP X ad σ Q r s') pl (by lia) (by lia) (by rw[g_,<-hl];exact h1) (by simpa using ew) ⟨rfl,fin⟩) hs
theorem CJ:IxR X LL:=by
 intro value slice ad s σ H x y v u Q I rx ry h hs;obtain⟨z,i,c,rfl,rfl,hz,he,q⟩:=h;obtain⟨t,rfl⟩:=rx;obtain⟨t',rfl⟩:=ry;obtain⟨j,h1,h2,h3,h4,h5⟩:=vF he;have hl:z.cps.toList.length=z.length:=by simp[Str.length]
 rw[hl]at h1 h4 h5;have hn:=nP;exact WH (typeIs_str s z t) slot_str_getitem.lookup (getItem_str (c:=c) (by have e1:decide (i < -(2 ^ 63:Int))=false:=decide_eq_false (by lia);have e2:decide (i>=2 ^ 63)=false:=decide_eq_false (by lia);rw[e1,e2,Bool.or_false]) (by rw[h1];simpa using h2) ⟨.str ⟨#[c]⟩,H,I.tok _,⟨_,rfl⟩,q⟩) hs
def rIx(K:Rr):R2:=λx y H Q=>KD K x y H Q\/Ln K x y H Q\/LL x y H Q
theorem J5:IxR X (rIx X.K):=Am.or (Iz.or CJ)
theorem yA(be:List Rq)(n j:Nat)(u:Rq):R3 (·.setIfInBounds j u) { cls:=.type "list",data:=.seq be.toArray n}={ cls:=.type "list",data:=.seq (be.set j u).toArray n}:=by simp[R3]
theorem Inv.lst {ad:List (Rt×Obj)}{σ:St}{H:Hp}{s:Ru}{p:Rt}{xs:List V}(I:Inv X ad σ H s)(h:H p=some (.lst xs)) :
  ∃(be:List Rq) (n:Nat),Vals xs be/\s.heap.get? p=some { cls:=.type "list",data:=.seq be.toArray n}/\xs.length<=sizeLine:=by
 obtain⟨z,be,n,r,e⟩:=I.hok p _ h;exact⟨be,n,r,e,z⟩
theorem Inv.Jg {p:Rt}{xs ys:List V}{n':Nat}{f:Obj->Obj}(I:Inv X ad σ H s)(h:H p=some (.lst xs))
  (ho:s.heap.get? p=some { cls:=.type "list",data:=.seq be.toArray n}) (hf:f { cls:=.type "list",data:=.seq be.toArray n}={ cls:=.type "list",data:=.seq its'.toArray n'}) (r:Vals ys its') (hz:ys.length<=sizeLine) (t:Nat) :
  Inv X ad σ (upd H p (.lst ys)) {s with heap:=s.heap.update p f,toks:=t}:=by
 have e:(s.heap.update p f).get? p=some { cls:=.type "list",data:=.seq its'.toArray n'}:=by rw[S3 f ho (by rw[hf] <;> rfl),hf]
 refine I.write (x:=p) (e:=p) (by rw[h];trivial) (.inl rfl) (λb u hb q=>(VB _ _ (T3 hb)).trans q) ⟨_,e⟩ ?_;exact⟨hz,its',n',r,e⟩
def Lk:V->V->V->Hp->(Hp->Prop)->Prop:=λo i v H Q=>∃p xs k j,o=.ref p/\i=.int k/\H p=some (.lst xs)/\ixN xs.length k=some j/\Q (upd H p (.lst (xs.set j v)))
theorem set_list:zi X Lk:=by
 intro ad s σ H o i v ov iv u Q I ro ri rv h;obtain⟨p,xs,k,j,rfl,rfl,hp,hj,q⟩:=h;cases ro;obtain⟨t,rfl⟩:=ri;obtain⟨be,n,r,ho,hz⟩:=I.lst hp;obtain⟨h1,h2,h3,h4⟩:=wj hj;have hl:=r.length;have hn:=nP;have I':Inv X ad σ (upd H p (.lst (xs.set j v))) {s with heap:=s.heap.update p (R3 (·.setIfInBounds j u)) }:=
  I.Jg hp ho (yA be n j u) (r.set rv j) (by rw[K_];exact hz) s.toks
 by_cases h0:0<=k
 ·have hk:k.toNat=j:=by rw[WB h0 h4]at h1;exact F_ h1
  exact PySem.W.ki_setAt ho h0 (by lia) (by rw[g_,<-hl];exact h4) (by rw[hk];exact⟨_,I',q⟩)
 have hk:(k+(be.toArray.size:Int)).toNat=j:=by rw[Wj (by lia) h3]at h1;rw[g_,<-hl];exact F_ h1
 exact PySem.W.ki_setBack ho (by lia) (by rw[g_,<-hl];exact h3) (by lia) (by rw[hk];exact⟨_,I',q⟩)
theorem wq(lo hi:Option Int)(n:Nat):(SK lo hi none n).1=((HT.sIx n 0 lo:Nat):Int)/\(SK lo hi none n).2.1=((HT.sIx n n hi:Nat):Int)/\(SK lo hi none n).2.2=1:=by
 refine⟨?_,?_,rfl⟩
 ·cases lo with
  |none=>simp[SK,HT.sIx]
  |some i=>
   simp only[SK,HT.sIx,QO,show(1:Int) > 0 by decide,if_true];by_cases h:i<0
   ·simp only[h,if_true] <;> lia
   simp only[h,if_false] <;> lia
 cases hi with
 |none=>simp[SK,HT.sIx]
 |some i=>
  simp only[SK,HT.sIx,QO,show(1:Int) > 0 by decide,if_true];by_cases h:i<0
  ·simp only[h,if_true] <;> lia
  simp only[h,if_false] <;> lia
theorem tF(be:List Rq)(lo hi:Option Int):UK be.toArray lo hi none=((be.drop (HT.sIx be.length 0 lo)).take (HT.sIx be.length be.length hi-HT.sIx be.length 0 lo)).toArray:=by obtain⟨h1,h2,h3⟩:=wq lo hi be.toArray.size;unfold UK;rw[h1,h2,h3];simp only[sliceRange_one,pick_run,g_] <;> rfl
def MA(K:Rr):V->Option Int->Option Int->Hp->VK->Prop:=λx lo hi H Q=>∃a xs,x=.ref a/\SqL K H a xs/\∀p,H p=none->Q (.ref p) (upd H p (.lst (mi xs lo hi)))
theorem A0:SlR X (MA X.K):=by intro ad s σ H x v vl vu lo hi sl Q I rx hs pl pu h;obtain⟨a,xs,rfl,hx,q⟩:=h;cases rx;obtain⟨be,r,ht,hz⟩:=I.list hx;have hlen:=r.length;refine⟨"list",_,slot_list_getitem.lookup,ht.isList.typeIs,?_⟩;refine TU ht.isList hs pl pu .none (by simp) ?_ (by rw[g_] <;> lia);rw[tF,<-hlen];refine⟨.ref s.heap.objs.size,_,I.laid (t':=s.toks) (o:=.lst (mi xs lo hi)) (λb ob q=>Rx _ q) (b_ _) ?_,rfl,q _ (I.hok.fresh (b_ _))⟩;exact⟨p_ (qI xs lo hi) hz,_,0,(r.drop (HT.sIx xs.length 0 lo)).take (HT.sIx xs.length xs.length hi-HT.sIx xs.length 0 lo),RF _ rfl⟩
theorem pA:dJ X (.builtin "len") (λxs H Q=>∃p ys,xs=[.ref p]/\(SqL X.K H p ys\/SqT X.K H p ys)/\Q (.int ys.length) H):=by
 intro ad s σ H xs us Q I r h;obtain⟨p,ys,rfl,hq,q⟩:=h;obtain⟨u,rfl,rx⟩:=vals1 r;cases rx;have hn:=nP;rcases hq with hq|hq
 ·obtain⟨be,r',pl,hz⟩:=I.list hq;have hlen:=r'.length;exact Calls.call_len_list pl.isList (by simp only[g_] <;> lia) ⟨.int ys.length,H,I.tok _,⟨s.toks+1,by rw[g_,hlen]⟩,q⟩
 obtain⟨be,r',pl,hz⟩:=I.tuple hq;have hlen:=r'.length;exact len_tuple pl (by simp only[g_] <;> lia) ⟨.int ys.length,H,I.tok _,⟨s.toks+1,by rw[g_,hlen]⟩,q⟩
theorem vR:dJ X (.builtin "len") (λxs H Q=>∃z,xs=[.str z]/\z.length<=sizeLine/\Q (.int z.length) H):=by intro ad s σ H xs us Q I r h;obtain⟨z,rfl,hz,q⟩:=h;obtain⟨u,rfl,t,rfl⟩:=vals1 r;have hn:=nP;exact len_str (by lia) ⟨.int z.length,H,I.tok _,⟨_,rfl⟩,q⟩
theorem oU:dJ X (.type "list") (λxs H Q=>∃p ys,xs=[.ref p]/\(SqL X.K H p ys\/SqT X.K H p ys)/\∀l,H l=none->Q (.ref l) (upd H l (.lst ys))):=by
 intro ad s σ H xs us Q I r h;obtain⟨p,ys,rfl,hq,q⟩:=h;obtain⟨u,rfl,rx⟩:=vals1 r;cases rx;have fin:∀(be:List Rq),Vals ys be->ys.length<=sizeLine->∀(h':RM) (c':Nat),(∀b o',s.heap.get? b=some o'->h'.get? b=some o')->
   h'.get? s.heap.objs.size=some { cls:=.type "list",dict:=none,data:=.seq be.toArray c',slots:=#[] }->EP X ad σ Q (.ref s.heap.objs.size) {s with heap:=h'}:=λbe r' hz h' c' kp e=>
  ⟨.ref s.heap.objs.size,_,I.laid (t':=s.toks) kp (b_ _) (show cV X.prog X.w _ h' _ (.lst ys)from⟨hz,be,c',r',e⟩),rfl,q _ (I.hok.fresh (b_ _))⟩
 rcases hq with hq|hq
 ·obtain⟨be,r',pl,hz⟩:=I.list hq;have hlen:=r'.length;obtain⟨o,ho,hc,n,hd⟩:=pl.isList;exact Xr p (.inl rfl) ho hc hd (λh' c' kp e=>fin be r' hz h' c' kp e) (by simp only[g_] <;> lia)
 obtain⟨be,r',pl,hz⟩:=I.tuple hq;have hlen:=r'.length;obtain⟨o,ho,hc,n,hd⟩:=pl;exact Xr p (.inr rfl) ho hc hd (λh' c' kp e=>fin be r' hz h' c' kp e) (by simp only[g_] <;> lia)
theorem tB:dJ X (.type "tuple") (λxs H Q=>∃p ys,xs=[.ref p]/\((SqL X.K H p ys/\∀l,H l=none->Q (.ref l) (upd H l (.tup ys)))\/(SqT X.K H p ys/\Q (.ref p) H))):=by
 intro ad s σ H xs us Q I r h;obtain⟨p,ys,rfl,h⟩:=h;obtain⟨u,rfl,rx⟩:=vals1 r;cases rx;rcases h with⟨hq,q⟩|⟨hq,q⟩
 ·obtain⟨be,r',pl,hz⟩:=I.list hq;have hlen:=r'.length;refine call_tuple_list pl.isList (λh' kp=>?_) (by simp only[g_] <;> lia);have I1:Inv X ad σ H {s with heap:=h'}:=I.kept (t':=s.toks) kp;have I2:Inv X ad σ (upd H h'.objs.size (.tup ys)) {s with heap:=h'.push { cls:=.type "tuple",data:=.seq be.toArray} }:=
   I1.laid (t':=s.toks) (λb o e=>Rx _ e) (b_ _) (show cV X.prog X.w _ _ _ (.tup ys)from⟨hz,be,r',Wf _ _⟩)
  exact⟨.ref h'.objs.size,_,I2,rfl,q _ (I1.hok.fresh (b_ _))⟩
 obtain⟨be,r',pl,hz⟩:=I.tuple hq;exact WV pl ⟨.ref p,H,I,rfl,q⟩
def tyV(K:Rr)(T:String)(x:V)(H:Hp):Prop:=match x with
 | .str _=>T="str"
 | .int _=>T="int"
 | .ref p=>(T="list"/\∃xs,SqL K H p xs)\/(T="tuple"/\∃o,K.lookup p=some o/\o.cls=.type "tuple"/\o.dict=none)\/
   (T="dict"/\((∃am,H p=some (.dK am))\/∃am,H p=some (.dT am)))\/(T="set"/\∃S n,H p=some (.set S n))
 | _=>False
theorem DB{T:String}{x:V}{v:Rq}(I:Inv X ad σ H s)(r:RelV x v)(ty:tyV X.K T x H) :
  s.TypeIs v T/\∀a,v=.ref a->∃ob,s.heap.get? a=some ob/\ob.dict=none:=by
 cases x with
 |str z=>
  obtain⟨t,rfl⟩:=r;cases (show T="str" from ty);exact⟨typeIs_str s z t,λ_ e=>nomatch e⟩
 |int i=>
  obtain⟨t,rfl⟩:=r;cases (show T="int" from ty);exact⟨WW s i t,λ_ e=>nomatch e⟩
 |ref p=>
  cases r;rcases ty with⟨rfl,xs,hq⟩|⟨rfl,o,hk,hc,hd⟩|⟨rfl,hk⟩|⟨rfl,S,n,hk⟩
  ·obtain⟨be,_,pl,_⟩:=I.list hq;refine⟨pl.isList.typeIs,λa e=>?_⟩;cases e;obtain⟨o,n,e,c,hd,_⟩:=pl;exact⟨o,e,hd⟩
  ·refine⟨⟨o,I.kIn p o hk,hc⟩,λa e=>?_⟩;cases e;exact⟨o,I.kIn _ o hk,hd⟩
  ·have z:∃o,s.heap.get? p=some o/\o.ExactDict:=by
    rcases hk with⟨am,hk⟩|⟨am,hk⟩
    ·obtain⟨_,_,_,_,o,_,_,e,ex,_⟩:=I.hok p _ hk;exact⟨o,e,ex⟩
    obtain⟨_,_,_,_,o,_,_,e,ex,_⟩:=I.hok p _ hk;exact⟨o,e,ex⟩
   obtain⟨o,e,ex⟩:=z;refine⟨⟨o,e,ex.1⟩,λa e2=>?_⟩;cases e2;exact⟨o,e,ex.2.1⟩
  ·obtain⟨o,_,_,_,e,ex,_⟩:=I.hok p _ hk;refine⟨⟨o,e,ex.1⟩,λa e2=>?_⟩;cases e2;exact⟨o,e,ex.2.1⟩
 | _=>exact RL ty
def MJ(K:Rr)(T:String)(r:V->List V->Hp->VK->Prop)(to:TE):TE:=λσ H Q=>to σ H λx H1=>tyV K T x H1/\r x [] H1 Q
def tBM(K:Rr)(T:String)(r:V->List V->Hp->VK->Prop)(to:TE)(t:TA):TE:=λσ H Q=>to σ H λx H1=>tyV K T x H1/\t σ H1 λxs H2=>r x xs H2 Q
variable{o e:RI}{es:List RI}{to:TE}{t:TA}{name:Str}{apos lv:Pos}{T id:String}{r:V->List V->Hp->VK->Prop}
theorem JT(pa:PlainAttrs T)(slot:Slot T name id)(hty:XG (.builtin id)=pure (.type "method_descriptor"))(hm:MtR X id r)(ho:PE X o to)
  (hbase:Tx o name X.env (RY o X.env)=RY o X.env:=by rfl) (hline:(apos.endLine == lv.line)=true:=by rfl):PE X (.Call (.Attribute o name apos) [] [] lv) (MJ X.K T r to):=by
 intro ad s σ H Q I h;refine wpAny_Call_method0_late hbase hline (thn (ho ad s σ H _ I h) ?_);rintro v s1 ⟨x,H1,I1,r1,ty,q1⟩;obtain⟨h1,h2⟩:=DB I1 r1 ty;exact⟨T,id,pa,slot,hty,h1,h2,To rfl (PySem.evalArgs_none (hm ad s1 σ H1 x [] v [] Q I1 r1 .nil q1))⟩
theorem Ly(pa:PlainAttrs T)(slot:Slot T name id)(hty:XG (.builtin id)=pure (.type "method_descriptor"))(hm:MtR X id r)(ho:PE X o to)(ha:PA X (e::es) t)
  (hbase:Tx o name X.env (RY o X.env)=RY o X.env:=by rfl)
  (hfew:((SS lv (RN (e::es) X.env)).all (λx=>!x.1)&&(WI lv (VC [] X.env)).all (λx=>x.1.isSome)
   && decide ((e::es).length+([]:List UB).length+(if([]:List UB).isEmpty then 0 else 1)<30))=true:=by rfl)
  (hline:(apos.endLine == lv.line)=true:=by rfl) (hs:RN (e::es) X.env=(false,RY e X.env)::RN es X.env:=by rfl) (hplain:(SS lv (RN es X.env)).any (·.1)=false:=by rfl) :
  PE X (.Call (.Attribute o name apos) (e::es) [] lv) (tBM X.K T r to t):=by
 intro ad s σ H Q I h;refine wpAny_Call_method_late hbase hfew hline rfl (thn (ho ad s σ H _ I h) ?_);rintro v s1 ⟨x,H1,I1,r1,ty,q1⟩;obtain⟨h1,h2⟩:=DB I1 r1 ty;refine⟨T,id,pa,slot,hty,h1,h2,?_⟩;have hA:=ha lv ad s1 σ H1 _ I1 q1;rw[hs]at hA ⊢;refine To (by show(false || (SS lv (RN es X.env)).any (·.1))=false;rw[hplain] <;> rfl) (Uo ?_);exact thn hA λus s2 ⟨vs,H2,I2,r2,q2⟩=>hm ad s2 σ H2 x vs v us Q I2 r1 r2 q2
end
def MtM(X:Cx)(id:String)(r:V->List V->Hp->VK->Prop):Prop:=
 ∀(ad:List (Rt×Obj)) (s:Ru) (σ:St) (H:Hp) (x:V) (xs:List V) (v:Rq) (us:List Rq) (Q:VK),Inv X ad σ H s->RelV x v->Vals xs us->r x xs H Q->
  RA (RJ X.prog X.w) X.A (call (.builtin id) (v::us)) (EP X ad σ Q) X.xe s
theorem Vals.one:∀{x:V}{us:List Rq},Vals [x] us->∃u,us=[u]/\RelV x u:=by
 intro x us h;cases h with
 |cons r t=>cases t;exact⟨_,rfl,r⟩
theorem Vals.zero:∀{us:List Rq},Vals [] us->us=[]
 | _,.nil=>rfl
theorem Vals.reverse {xs:List V}(h:Vals xs us):Vals xs.reverse us.reverse:=by
 induction h with
 |nil=>exact .nil
 |cons r t ih=>rw[NB,NB];exact Vals.append ih (.cons r .nil)
variable {t':Nat}
section
variable{X:Cx}{ad:List (Rt×Obj)}{σ:St}{H:Hp}{s:Ru}{l b:Rt}{xs ys zs:List V}
theorem Inv.Fb {f:Array Rq->Array Rq}(I:Inv X ad σ H s)(hH:H l=some (.lst xs))
  (e:s.heap.get? l=some { cls:=.type "list",data:=.seq be.toArray n}) (hf:f be.toArray=its'.toArray) (hv:Vals ys its') (hz:ys.length<=sizeLine) :
  Inv X ad σ (upd H l (.lst ys)) {s with heap:=s.heap.update l (R3 f),toks:=t'}:=by
 have q:=Yp e f;rw[hf]at q;refine I.write (x:=l) (e:=l) (by rw[hH];exact trivial) (.inl rfl) (λb' u hb hu=>(VB s.heap (R3 f) (T3 hb)).trans hu) ⟨_,q⟩ ?_;exact⟨hz,its',_,hv,q⟩
theorem Inv.Ma (I:Inv X ad σ H s)(hv:Vals ys be)(hz:ys.length<=sizeLine) :
  Inv X ad σ (upd H s.heap.objs.size (.lst ys)) {s with heap:=s.heap.push { cls:=.type "list",data:=.seq be.toArray},toks:=t'}:=
 I.laid (λ_ _ q=>Rx _ q) (b_ _) ⟨hz,be,0,hv,RF _ rfl⟩
theorem Inv.fresh (I:Inv X ad σ H s):H s.heap.objs.size=none:=I.hok.fresh (b_ _)
theorem Inv.EG (I:Inv X ad σ H s)(hH:H l=some (.lst xs)):xs.length<=sizeLine/\∃(be:List Rq) (n:Nat),Vals xs be/\xs.length=be.length/\s.heap.get? l=some { cls:=.type "list",data:=.seq be.toArray n}:=by obtain⟨z,be,n,r,e⟩:=I.hok l _ hH;exact⟨z,be,n,r,r.length,e⟩
theorem Cw(h:n<=sizeLine):TV n=false:=by unfold TV;exact decide_eq_false (by lia)
end
section
variable{X:Cx}
def G2:V->List V->Hp->VK->Prop:=λx vs H Q=>∃l xs y,x=.ref l/\vs=[y]/\H l=some (.lst xs)/\xs.length<sizeLine/\Q .non (upd H l (.lst (xs++[y])))
theorem qq:MtM X "list.append" G2:=by intro ad s σ H x vs v us Q I rx rv h;obtain⟨l,xs,y,rfl,rfl,hH,hz,q⟩:=h;cases rx;obtain⟨u,rfl,ru⟩:=rv.one;obtain⟨z,be,n,r,hl,e⟩:=I.EG hH;refine VX F.slot_list_append ⟨_,e,rfl⟩ F.entry_list_append (F.args_list_append_2 _ _) (PySem.list_append l be.toArray n u (by rw[g_];lia)) ⟨e,?_⟩;refine⟨.non,_,I.Fb (its':=be++[u]) hH e (by simp) (r.append (.cons ru .nil)) ?_,rfl,q⟩;rw[f',List.length_singleton];lia
def GU:V->List V->Hp->VK->Prop:=λx vs H Q=>∃l b xs zs,x=.ref l/\vs=[.ref b]/\H l=some (.lst xs)/\H b=some (.lst zs)/\xs.length+zs.length<=sizeLine/\Q .non (upd H l (.lst (xs++zs)))
theorem BK:MtM X "list.extend" GU:=by
 intro ad s σ H x vs v us Q I rx rv h;obtain⟨l,b,xs,zs,rfl,rfl,hH,hB,hz,q⟩:=h;cases rx;obtain⟨u,rfl,ru⟩:=rv.one;cases ru;obtain⟨z,be,n,r,hl,e⟩:=I.EG hH;obtain⟨z2,its2,n2,r2,hl2,e2⟩:=I.EG hB;have hsz:be.toArray.size+its2.toArray.size<=sizeLine:=by rw[g_,g_];lia
 have hlong:¬(!be.toArray.isEmpty&&TV (be.toArray.size+its2.toArray.size))=true:=by rw[Cw hsz,Qm];exact Nf
 refine VX F.slot_list_extend ⟨_,e,rfl⟩ F.entry_list_extend (F.args_list_extend_2 _ _)
  (WJ l be.toArray n b its2.toArray n2 hlong (by rw[g_];lia) (by lia)) ⟨e,e2,?_⟩
 refine⟨.non,_,I.Fb (its':=be++its2) hH e (by simp) (r.append r2) ?_,rfl,q⟩;rw[f'];omega
def CM:V->List V->Hp->VK->Prop:=λx vs H Q=>∃l xs,x=.ref l/\vs=[]/\H l=some (.lst xs)/\Q .non (upd H l (.lst xs.reverse))
theorem zo:MtM X "list.reverse" CM:=by intro ad s σ H x vs v us Q I rx rv h;obtain⟨l,xs,rfl,rfl,hH,q⟩:=h;cases rx;have hus:=rv.zero;subst hus;obtain⟨z,be,n,r,hl,e⟩:=I.EG hH;refine VX F.slot_list_reverse ⟨_,e,rfl⟩ F.entry_list_reverse (F.args_list_reverse_1 _) (Xd l be.toArray n (by rw[g_];lia)) ⟨e,?_⟩;refine⟨.non,_,I.Fb (its':=be.reverse) hH e (by simp) r.reverse ?_,rfl,q⟩;rw[MR];omega
end
variable {o:Option V}{u:Rq}{y:V}
section
variable{κ:Type}[DecidableEq κ]
noncomputable def jL(am:List (κ×V))(k:κ):Option V:=(am.find? λkv=>decide (kv.1=k)).map (·.2)
noncomputable def putK(am:List (κ×V))(k:κ)(v:V):List (κ×V):=
 if(am.any λkv=>decide (kv.1=k))=true then am.map (λkv=>if kv.1=k then(kv.1,v)else kv)else am++[(k,v)]
theorem sI{p:κ×V}{r:List (κ×V)}{k:κ}(e:p.1=k):jL (p::r) k=some p.2:=by simp[jL,MT,e]
theorem sL{p:κ×V}{r:List (κ×V)}{k:κ}(e:¬p.1=k):jL (p::r) k=jL r k:=by simp[jL,MT,e]
theorem o6(k:κ):∀am:List (κ×V),(am.any λkv=>decide (kv.1=k))=(jL am k).isSome
 | []=>rfl
 |p::r=>by
  rw[Pm];by_cases e:p.1=k
  ·simp only[sI e,decide_eq_true e,Bool.true_or,Option.isSome_some]
  rw[sL e,decide_eq_false e,Pn];exact o6 k r
theorem mN(am:List (κ×V))(k:κ)(v:V):(putK am k v).length<=am.length+1:=by
 unfold putK;split
 ·rw[a_];lia
 rw[f',j_,N6];lia
theorem ow{am:List (κ×V)}{k:κ}(v:V)(h:jL am k=none):putK am k v=am++[(k,v)]:=by unfold putK;rw[o6,h];exact if_neg (by decide)
theorem tD.kP {u:Option Rq}(r:tD o u):o.isSome=u.isSome:=by
 cases o with
 |none=>cases u with
  |none=>rfl
  |some _=>exact(show False from r).elim
 |some _=>cases u with
  |none=>exact(show False from r).elim
  |some _=>rfl
theorem KV.val {am:List (κ×V)}{vs:List (κ×Rq)}(r:KV am vs)(k:κ):tD (jL am k) (U' vs k):=by
 unfold KV at r;induction r with
 |nil=>exact SG
 | @cons p q ps qs h t ih=>
  obtain⟨h1,h2⟩:=h;by_cases e:p.1=k
  ·have e':q.1=k:=h1.symm.trans e;have b:U' (q::qs) k=some q.2:=by simp[U',MT,e']
   rw[sI e,b];exact h2
  have e':¬q.1=k:=λz=>e (h1.trans z);have b:U' (q::qs) k=U' qs k:=by simp[U',MT,e']
  rw[sL e,b];exact ih
theorem KV.any {am:List (κ×V)}{vs:List (κ×Rq)}(r:KV am vs)(k:κ):(am.any λkv=>decide (kv.1=k))=vs.any λkv=>decide (kv.1=k):=by
 unfold KV at r;induction r with
 |nil=>rfl
 |cons h t ih=>rw[Pm,Pm,ih,h.1]
theorem KV.JC {am:List (κ×V)}{vs:List (κ×Rq)}(r:KV am vs)(k:κ)(ry:RelV y u) :
  KV (am.map λkv=>if kv.1=k then(kv.1,y)else kv) (vs.map λkv=>if kv.1=k then(kv.1,u)else kv):=by
 unfold KV at r ⊢;induction r with
 |nil=>exact .nil
 | @cons p q ps qs h t ih=>
  rw[e_,e_];refine .cons ?_ ih;obtain⟨h1,h2⟩:=h;by_cases e:p.1=k
  ·rw[if_pos e,if_pos (h1.symm.trans e)];exact⟨h1,ry⟩
  rw[if_neg e,if_neg (λz=>e (h1.trans z))];exact⟨h1,h2⟩
theorem KV.put {am:List (κ×V)}{vs:List (κ×Rq)}(r:KV am vs)(k:κ)(ry:RelV y u):KV (putK am k y) (stored vs k u):=by
 unfold putK stored;rw[r.any k];by_cases e:(vs.any λkv=>decide (kv.1=k))=true
 ·rw[if_pos e,if_pos e];exact r.JC k ry
 rw[if_neg e,if_neg e];exact X0 r ⟨rfl,ry⟩
theorem KV.length {am:List (κ×V)}{vs:List (κ×Rq)}(r:KV am vs):am.length=vs.length:=Sn r
end
variable {P:RC}{w:RK}
theorem uI{k:Key}(r:RelV (kV k) u):(cX P w).is k u=true:=by
 rcases k with i | _|x
 ·obtain⟨t,e⟩:=(show ∃t,u=TM i t from r);subst e;exact xP P w i t
 ·cases r;rfl
 obtain⟨t,e⟩:=(show ∃t,u=Wd x t from r);subst e;exact xQ P w x t
theorem tT{P:RC}{w:RK}:∀{ks:List Key}{us:List Rq},Vals (ks.map kV) us->ItemsAre (cX P w) ks us
 | [],_,r=>by rw[Oi]at r;cases r;exact .nil
 |k::ks,_,r=>by
  rw[e_]at r;cases r with
  |cons h t=>exact .cons (uI h) (tT t)
abbrev KT(H:Hp):List (List Key×V)->List (List Key×Rt×Rq)->Prop:=Tv λp q=>p.1=q.1/\H q.2.1=some (.tup (p.1.map kV))/\RelV p.2 q.2.2
variable {am:List (List Key×V)}{xs:List (List Key×Rt×Rq)}
theorem KT.val (r:KT H am xs)(k:List Key):tD (jL am k) ((Vu xs k).map (·.2)):=by
 induction r with
 |nil=>exact SG
 | @cons p q ps qs h t ih=>
  obtain⟨h1,_,h2⟩:=h;by_cases e:p.1=k
  ·have e':q.1=k:=h1.symm.trans e;have b:Vu (q::qs) k=some q.2:=by simp[Vu,MT,e']
   rw[sI e,b];exact h2
  have e':¬q.1=k:=λz=>e (h1.trans z);have b:Vu (q::qs) k=Vu qs k:=by simp[Vu,MT,e']
  rw[sL e,b];exact ih
theorem KT.JC (r:KT H am xs)(k:List Key)(ry:RelV y u) :
  KT H (am.map λkv=>if kv.1=k then(kv.1,y)else kv) (xs.map (putAt k u)):=by
 induction r with
 |nil=>exact .nil
 | @cons p q ps qs h t ih=>
  rw[e_,e_];refine .cons ?_ ih;obtain⟨h1,h2,h3⟩:=h;unfold putAt;by_cases e:p.1=k
  ·rw[if_pos e,if_pos (h1.symm.trans e)];exact⟨h1,h2,ry⟩
  rw[if_neg e,if_neg (λz=>e (h1.trans z))];exact⟨h1,h2,h3⟩
theorem KT.put (r:KT H am xs)(k:List Key){b:Rt}(hb:H b=some (.tup (k.map kV)))(ry:RelV y u) :
  KT H (putK am k y) (storedH xs k b u):=by
 have e:(am.any λkv=>decide (kv.1=k))=(Vu xs k).isSome:=by rw[o6,(r.val k).kP,PD]
 unfold putK storedH;rw[e];by_cases q:(Vu xs k).isSome=true
 ·rw[if_pos q,if_pos q];exact r.JC k ry
 rw[if_neg q,if_neg q];exact X0 r ⟨rfl,hb,ry⟩
variable {H':Hp}
theorem KT.keeps (r:KT H am xs)(ht:∀b ys,H b=some (.tup ys)->H' b=some (.tup ys)):KT H' am xs:=
 Paired.Ll r λ_ _ z=>⟨z.1,ht _ _ z.2.1,z.2.2⟩
section
variable{P:RC}{w:RK}{H:Hp}{h:RM}{a:Rt}
theorem HX{u:HO}(ok:HOk P w H h)(e:Rd H a u):cV P w H h a u:=e.ok ok
theorem sO{am:List (Key×V)}(ok:HOk P w H h)(e:Rd H a (.dK am)):am.length<=sizeLine/\(a == R5)=false/\∃vs,KV am vs/\h.DictOf (cX P w) a vs:=
 show cV P w H h a (.dK am)from HX ok e
theorem HG{am:List (Key×V)}(ok:HOk P w H h)(e:H a=some (.dK am)):am.length<=sizeLine/\(a == R5)=false/\∃vs,KV am vs/\h.DictOf (cX P w) a vs:=sO ok (.inl e)
theorem nV{ks:List Key}(ok:HOk P w H h)(e:H a=some (.tup (ks.map kV))):(Ti (cX P w)).is h ks a:=by obtain⟨_,be,r,o,h1,h2,n,h3⟩:=(show cV P w H h a (.tup (ks.map kV))from ok a _ e);exact⟨o,be.toArray,n,h1,h2,h3,by simpa using tT r⟩
theorem rK(ok:HOk P w H h)(e:Rd H a (.dT am)):am.length<=sizeLine/\(a == R5)=false/\
  ∃xs,KT H am xs/\h.DictOfH (Ti (cX P w)) a xs:=by
 obtain⟨z,y,xs,r,o,es,ep,h1,h2,h3,h4,h5⟩:=(show cV P w H h a (.dT am)from HX ok e);refine⟨z,y,xs,r,o,es,ep,h1,h2,h3,h4,λx hx=>?_,h5⟩;have all:∀{l:List (List Key×V)}{m:List (List Key×Rt×Rq)},KT H l m->∀x∈m,(Ti (cX P w)).is h x.1 x.2.1:=by
  intro l m q;induction q with
  |nil=>intro x hx;exact nomatch hx
  | @cons p q ps qs hq t ih=>
   intro x hx;rcases n_.mp hx with e|hx
   ·subst e;exact nV ok (by rw[<-hq.1];exact hq.2.1)
   exact ih x hx
 exact all r x hx
theorem Dp(ok:HOk P w H h)(e:H a=some (.dT am)):am.length<=sizeLine/\(a == R5)=false/\
  ∃xs,KT H am xs/\h.DictOfH (Ti (cX P w)) a xs:=rK ok (.inl e)
end
def pB(H:Hp)(a:Rt)(y:V)(r:Option V):Prop:=
 (∃am k,Rd H a (.dK am)/\y=kV k/\r=jL am k)\/∃am k b,Rd H a (.dT am)/\y=.ref b/\H b=some (.tup (k.map kV))/\r=jL am k
def BM(H:Hp)(a:Rt)(y v:V)(H':Hp):Prop:=
 (∃am k,H a=some (.dK am)/\y=kV k/\am.length<sizeLine/\H'=upd H a (.dK (putK am k v)))\/
 ∃am k b,H a=some (.dT am)/\y=.ref b/\H b=some (.tup (k.map kV))/\am.length<sizeLine/\H'=upd H a (.dT (putK am k v))
theorem pB.k {H:Hp}{a:Rt}{am:List (Key×V)}{k:Key}(e:H a=some (.dK am)):pB H a (kV k) (jL am k):=.inl ⟨am,k,.inl e,rfl,rfl⟩
theorem BM.k {H:Hp}{a:Rt}{am:List (Key×V)}{k:Key}{v:V}(e:H a=some (.dK am))(hl:am.length<sizeLine):BM H a (kV k) v (upd H a (.dK (putK am k v))):=.inl ⟨am,k,e,rfl,hl,rfl⟩
variable {Q:Rq->Ru->Prop}
section
variable{X:Cx}{ad:List (Rt×Obj)}{σ:St}{H:Hp}{s:Ru}{a:Rt}{y v:V}{u r:Rq}{o:Option V}{A:RS}{E:Rq->Ru->Prop}
theorem Inv.big (I:Inv X ad σ H s):R5<s.heap.objs.size:=by have h:Se<s.heap.objs.size:=(I.mod.glob.keeps I.bk).lt;exact O2 (by decide) h
theorem uF(hu:A.units+1<cLine)(I:Inv X ad σ H s)(g:pB H a y (some v))(ry:RelV y u)(h:∀w' s',Inv X ad σ H s'->RelV v w'->Q w' s') :
  RA (RJ X.prog X.w) A (UA (.ref a) u) Q E s:=by
 rcases g with⟨am,k,e,ey,l⟩|⟨am,k,b,e,ey,eb,l⟩
 ·subst ey;obtain⟨z,hd,vs,rel,dd⟩:=sO I.hok e;obtain⟨w',hw,rw'⟩:=tD.some_of (v:=v) (o:=U' vs k) (by rw[l];exact rel.val k);exact wpAny_getItem_of (uI ry) dd.mapOf hw (h w' _ (I.tok _) rw')
 subst ey;cases (show u=RV b from ry);obtain⟨z,hd,xs,rel,dd⟩:=rK I.hok e;obtain⟨w',hw,rw'⟩:=tD.some_of (v:=v) (o:=(Vu xs k).map (·.2)) (by rw[l];exact rel.val k);obtain⟨p,hp,hp2⟩:=NJ.mp hw;refine wpAny_getItem_heap (SX hu) (nV I.hok eb) dd hp ?_;rw[hp2];exact h w' _ (I.tok _) rw'
theorem MO(hu:A.units+1<cLine)(I:Inv X ad σ H s)(g:pB H a y o)(ry:RelV y u)(h:∀s',Inv X ad σ H s'->Q (.bool o.isSome) s') :
  RA (RJ X.prog X.w) A (RT .In u (.ref a)) Q E s:=by
 rcases g with⟨am,k,e,ey,l⟩|⟨am,k,b,e,ey,eb,l⟩
 ·subst ey;obtain⟨z,hd,vs,rel,dd⟩:=sO I.hok e;refine wpAny_in_of (uI ry) hd dd.mapOf ?_;rw[<-(rel.val k).kP,<-l];exact h _ (I.tok _)
 subst ey;cases (show u=RV b from ry);obtain⟨z,hd,xs,rel,dd⟩:=rK I.hok e;refine wpAny_in_heap (SX hu) (nV I.hok eb) hd dd ?_;have q:=(rel.val k).kP;rw[PD]at q;rw[<-q,<-l];exact h _ (I.tok _)
theorem Fp(hu:A.units+1<cLine)(I:Inv X ad σ H s)(g:pB H a y o)(ry:RelV y u)(h:∀s',Inv X ad σ H s'->Q (.bool (!o.isSome)) s') :
  RA (RJ X.prog X.w) A (RT .NotIn u (.ref a)) Q E s:=by
 rcases g with⟨am,k,e,ey,l⟩|⟨am,k,b,e,ey,eb,l⟩
 ·subst ey;obtain⟨z,hd,vs,rel,dd⟩:=sO I.hok e;refine wpAny_notIn_of (uI ry) hd dd.mapOf ?_;rw[<-(rel.val k).kP,<-l];exact h _ (I.tok _)
 subst ey;cases (show u=RV b from ry);obtain⟨z,hd,xs,rel,dd⟩:=rK I.hok e;refine wpAny_notIn_heap (SX hu) (nV I.hok eb) hd dd ?_;have q:=(rel.val k).kP;rw[PD]at q;rw[<-q,<-l];exact h _ (I.tok _)
theorem mU{h':RM}{ob:HO}(I:Inv X ad σ H s)(mu:Mut (H a))(hs:Sr a s.heap h')(he:∃q,h'.get? a=some q)(new:cV X.prog X.w (upd H a ob) h' a ob) :
  Inv X ad σ (upd H a ob) {s with heap:=h',toks:=t'}:=
 I.write (x:=a) (e:=a) mu (.inl rfl) (λb q hb z=>(hs.2 b hb).trans z) he new
theorem F1{h':RM}{am:List (Key×V)}{vs:List (Key×Rq)}(z:am.length<=sizeLine)(hd:(a == R5)=false)(rel:KV am vs)(dd:h'.DictOf (cX P w) a vs) :
  cV P w H' h' a (.dK am):=⟨z,hd,vs,rel,dd⟩
theorem pT{Q:Unit->Ru->Prop}(hu:A.units+1<cLine)(I:Inv X ad σ H s)(g:BM H a y v H')(ry:RelV y u)(rv:RelV v r)(h:∀s',Inv X ad σ H' s'->Q () s') :
  RA (RJ X.prog X.w) A (W_ (.ref a) u r) Q E s:=by
 rcases g with⟨am,k,e,ey,l,eH⟩|⟨am,k,b,e,ey,eb,l,eH⟩
 ·subst ey eH;obtain⟨z,hd,vs,rel,dd⟩:=HG I.hok e;have hz:vs.length<=sizeLine:=by rw[<-rel.length];exact z
  have hl:(putK am k v).length<=sizeLine:=by have:=mN am k v;lia
  refine wpAny_setItem_pairs (hsz:=hz) (uI ry) dd λh' dd' hs=>h _ ?_;have he:∃q,h'.get? a=some q:=let ⟨q,_,_,hq,_⟩:=dd';⟨q,hq⟩
  exact mU I (by rw[e];exact SG) hs he (F1 hl hd (rel.put k rv) dd')
 subst ey eH;cases (show u=RV b from ry);obtain⟨z,hd,xs,rel,dd⟩:=Dp I.hok e;have hz:xs.length<=sizeLine:=by rw[<-Sn rel];exact z
 have hl:(putK am k v).length<=sizeLine:=by have:=mN am k v;lia
 refine wpAny_setItem_heap (hsz:=hz) (SX hu) (nV I.hok eb) dd λh' dd' hs=>h _ ?_;obtain⟨q,es,ep,hq,h2,h3,h4,_,h5⟩:=dd';refine mU I (by rw[e];exact SG) hs ⟨q,hq⟩ ⟨hl,hd,_,(rel.put k eb rv).keeps λc ys ec=>?_,q,es,ep,hq,h2,h3,h4,h5⟩;rw[aS (wx ec e (λz=>nomatch z))];exact ec
end
section
variable{X:Cx}{ad:List (Rt×Obj)}{σ:St}{H:Hp}{s:Ru}{a:Rt}{am:List (Key×V)}{k:Key}{u:Rq}{A:RS}{E:Rq->Ru->Prop}
theorem L7(I:Inv X ad σ H s)(e:Rd H a (.dK am))(h:∀t s',Inv X ad σ H s'->Q (.int am.length t) s'):RA (RJ X.prog X.w) A (call (.builtin "len") [.ref a]) Q E s:=by obtain⟨z,hd,vs,rel,dd⟩:=sO I.hok e;refine call_len_dict hd dd (by rw[<-rel.length];rw[sizeLine_eq]at z;lia) ?_;rw[<-rel.length];exact h _ _ (I.tok _)
end
noncomputable def M4(i:RI):Prop:=∀ov iv,UH i false ov iv=X7 [ov,iv] (UA ov iv)
variable {pos:Pos}
theorem GB{prog:RC}{A:RS}{E:Rq->Ru->Prop}{env:Env}{value slice:RI}{T id:String}
  (hl:typeLookup (.type T) "__getitem__"=pure (some (.builtin id))) (hs:M4 slice)
  (h:RA (RJ prog w) A (RY value env) (λo s₁=>RA (RJ prog w) A (RY slice env) (λi s₂=>s₂.TypeIs o T/\RA (RJ prog w) A (UA o i) Q E s₂) E s₁) E s) :
  RA (RJ prog w) A (RY (.Subscript value slice pos) env) Q E s:=by
 refine U5 (RZ h (λo s₁ h₁=>RZ h₁ (λi s₂ h₂=>?_) λ_ _ x=>x) λ_ _ x=>x);obtain⟨hT,h₂⟩:=h₂;unfold Tg;refine Ro ?_;rw[VH hT.not_modules];refine Ro (Up hT hl ?_);have fin:RA (RJ prog w) A (UH slice false o i) (λr s₃=>RA (RJ prog w) A (Xe value o r >>= λ_=>pure r) Q E s₃) E s₂:=by rw[hs o i];exact WX (RZ h₂ (λr s₃ h₃=>Ro (VY (Rv h₃))) λ_ _ x=>x)
 first
  |exact Rv (Ro fin)
  |exact Ro (Rv (Ro fin))
  |exact Ro fin
variable {X:Cx}
theorem qH{a:Rt}(I:Inv X ad σ H s)(g:pB H a y o):s.TypeIs (.ref a) "dict":=by
 rcases g with⟨am,k,e,_,_⟩|⟨am,k,b,e,_,_,_⟩
 ·obtain⟨_,_,vs,_,dd⟩:=sO I.hok e;exact dd.typeIs
 obtain⟨_,_,xs,_,dd⟩:=rK I.hok e;exact dd.typeIs
def La(td ty:TE):TE:=λσ H Q=>td σ H λx H1=>ty σ H1 λy H2=>∃a v,x=.ref a/\pB H2 a y (some v)/\Q v H2
def KN(td ty tv:TE):TS:=λD σ H=>tv σ H λv H1=>td σ H1 λx H2=>ty σ H2 λy H3=>∃a H4,x=.ref a/\BM H3 a y v H4/\D.nx σ H4
section
variable{X:Cx}{o i e value:RI}{pos pos' tpos:Pos}{td ty tv:TE}
theorem qO(hu:X.A.units+1<cLine)(ho:PE X o td)(hi:PE X i ty)(hs:M4 i):PE X (.Subscript o i pos) (La td ty):=by intro ad s σ H Q I h;refine GB U6.lookup hs (thn (ho ad s σ H _ I h) λu s1 ⟨x,H1,I1,rx,q1⟩=>thn (hi ad s1 σ H1 _ I1 q1) ?_);rintro iv s2 ⟨y,H2,I2,ry,a,v,ex,g,q2⟩;subst ex;obtain rfl:u=RV a:=rx;exact⟨qH I2 g,uF hu I2 g ry λw' s3 I3 rw'=>⟨v,H2,I3,rw',q2⟩⟩
theorem Fs(hu:X.A.units+1<cLine)(ho:PE X o td)(hi:PE X i ty)(hv:PE X value tv)(hs:TN value (some (.Subscript o i pos')) pos.line X.env=pure false) :
  PS X (.Assign [.Subscript o i pos'] value pos) (KN td ty tv):=by
 intro ad s σ H D I h;refine wpAny_Assign_Subscript (thn (hv ad s σ H _ I h) ?_) hs;rintro r s1 ⟨v,H1,I1,rv,q1⟩;refine thn (ho ad s1 σ H1 _ I1 q1) ?_;rintro u s2 ⟨x,H2,I2,rx,q2⟩;refine thn (hi ad s2 σ H2 _ I2 q2) ?_;rintro iv s3 ⟨y,H3,I3,ry,a,H4,ex,g,q3⟩;subst ex;obtain rfl:u=RV a:=rx;exact pT hu I3 g ry rv λs4 I4=>⟨σ,H4,I4,q3⟩
end
theorem D4(h:RM)(hb:R5<h.objs.size):cV P w H (h.push { cls:=.type "dict",data:=.dict #[] }) h.objs.size (.dK []):=
 ⟨A_ _,beq_eq_false_iff_ne.mpr (T3 (s_ hb)),[],.nil,Yt h⟩
theorem Cn(h:RM)(hb:R5<h.objs.size):cV P w H (h.push { cls:=.type "dict",data:=.dict #[] }) h.objs.size (.dT []):=
 ⟨A_ _,beq_eq_false_iff_ne.mpr (T3 (s_ hb)),[],.nil,_,#[],0,RF _ rfl,⟨rfl,rfl,rfl⟩,rfl,rfl,Qn⟩
def Jp:TE:=λ_ H Q=>∀p,H p=none->Q (.ref p) (upd H p (.dT []))
section
variable{X:Cx}{pos:Pos}
theorem Dd:PE X (.Dict [] [] pos) Jp:=λad s σ H Q I h=>
 wpAny_Dict_empty ⟨.ref s.heap.objs.size,_,I.laid (a:=s.heap.objs.size) (o:=.dT []) (t':=s.toks) (λ_ _ q=>Rx _ q) (b_ _) (Cn s.heap I.big),rfl,h _ (I.hok.fresh (b_ _))⟩
end
noncomputable def yz:List (TE×TE)->St->Hp->(List (V×V)->Hp->Prop)->Prop
 | [],_,H,Q=>Q [] H
 | (tk,tv)::r,σ,H,Q=>tk σ H λx H1=>tv σ H1 λy H2=>yz r σ H2 λps H3=>Q ((x,y)::ps) H3
abbrev VV:List (V×V)->List (Rq×Rq)->Prop:=Tv λp q=>RelV p.1 q.1/\RelV p.2 q.2
def PPs(X:Cx)(pos:Pos)(keys:List (Option RI))(values:List RI)(trs:List (TE×TE)):Prop:=
 ∀(ad:List (Rt×Obj)) (s:Ru) (σ:St) (H:Hp) (Q:List (V×V)->Hp->Prop),Inv X ad σ H s->yz trs σ H Q->
  RA (RJ X.prog X.w) X.A (evalPairs (pairTrees keys values X.env pos)) (λvs s'=>∃ps H',Inv X ad σ H' s'/\VV ps vs/\Q ps H') X.xe s
theorem Hn:PPs X pos [] [] []:=λad s σ H Q I h=>pairTrees_nil_walk ⟨[],H,I,.nil,h⟩
variable {trs:List (TE×TE)}
theorem wM{k v:RI}{ks:List (Option RI)}{vs:List RI}{tk tv:TE}(hk:PE X k tk)(hv:PE X v tv)(hr:PPs X pos ks vs trs) :
  PPs X pos (some k::ks) (v::vs) ((tk,tv)::trs):=λad s σ H Q I h=>
 pairTrees_cons_walk (thn (hk ad s σ H _ I h) λu s1 ⟨x,H1,I1,rx,q1⟩=>thn (hv ad s1 σ H1 _ I1 q1) λw2 s2 ⟨y,H2,I2,ry,q2⟩=>
  thn (hr ad s2 σ H2 _ I2 q2) λws s3 ⟨ps,H3,I3,rel,q3⟩=>⟨(x,y)::ps,H3,I3,.cons ⟨rx,ry⟩ rel,q3⟩)
def lV(am more:List (Key×V)):List (Key×V):=more.foldl (λacc kv=>putK acc kv.1 kv.2) am
theorem KV.merge:∀{more:List (Key×V)}{rs:List (Key×Rq)}{am:List (Key×V)}{vs:List (Key×Rq)},KV more rs->KV am vs->KV (lV am more) (merged vs rs):=by
 intro more rs am vs r;unfold KV at r;induction r generalizing am vs with
 |nil=>intro q;exact q
 | @cons p q ps qs h t ih=>
  intro r0;have e:KV (putK am p.1 p.2) (stored vs q.1 q.2):=by have:=r0.put p.1 h.2;rw[<-h.1];exact this
  exact ih e
theorem nI:∀(more am:List (Key×V)),(lV am more).length<=am.length+more.length
 | [],am=>by show am.length<=am.length+0;lia
 |p::r,am=>by have h1:=nI r (putK am p.1 p.2);have h2:=mN am p.1 p.2;show(lV (putK am p.1 p.2) r).length<=_;rw[j_];lia
theorem tf{P:RC}{w:RK}:∀{am:List (Key×V)}{ws:List (Rq×Rq)},VV (am.map λkv=>(kV kv.1,kv.2)) ws->∃rs,Carries (cX P w) ws rs/\KV am rs
 | [],_,r=>by rw[Oi]at r;cases r;exact⟨[],SG,.nil⟩
 |p::am,_,r=>by
  rw[e_]at r;cases r with
  | @cons a b as bs h t=>
   obtain⟨rs,c,q⟩:=tf (P:=P) (w:=w) t;obtain⟨b1,b2⟩:=b;exact⟨(p.1,b2)::rs,⟨uI h.1,rfl,c⟩,.cons ⟨rfl,h.2⟩ q⟩
def LZ(trs:List (TE×TE)):TE:=λσ H Q=>∀p,H p=none->yz trs σ (upd H p (.dK [])) λps H2=>H2 p=some (.dK [])/\∃am:List (Key×V),ps=am.map (λkv=>(kV kv.1,kv.2))/\am.length<=15/\Q (.ref p) (upd H2 p (.dK (lV [] am)))
theorem Ha{keys:List (Option RI)}{values:List RI}(h:PPs X pos keys values trs)(hall:keys.all (·.isSome)=true)(hl:keys.length=values.length)(h0:keys≠[])
  (h15:keys.length<=15):PE X (.Dict keys values pos) (LZ trs):=by
 intro ad s σ H Q I q;have hn:=I.hok.fresh (b_ s.heap.objs.size);have I1:=I.laid (a:=s.heap.objs.size) (o:=.dK []) (h':=s.heap.push { cls:=.type "dict",data:=.dict #[] }) (t':=s.toks) (λ_ _ q=>Rx _ q) (b_ _) (D4 s.heap I.big);refine wpAny_Dict_walk (knd:=cX X.prog X.w) hall hl h0 h15 (thn (h ad _ σ _ _ I1 (q _ hn)) ?_);rintro ws s2 ⟨ps,H2,I2,rel,e,am,ep,lk,q2⟩;subst ep;obtain⟨rs,c,rk⟩:=tf (P:=X.prog) (w:=X.w) rel;obtain⟨z,hd,vs0,r0,dd⟩:=HG I2.hok e;cases r0;refine⟨rs,c,dd,λh' dd' hs=>⟨.ref s.heap.objs.size,_,?_,rfl,q2⟩⟩;have hz:(lV [] am).length<=sizeLine:=by have h1:=nI am [];rw[N6]at h1;rw[sizeLine_eq];lia
 have he:∃q,h'.get? s.heap.objs.size=some q:=let ⟨q,_,_,hq,_⟩:=dd';⟨q,hq⟩
 exact mU I2 (by rw[e];exact SG) hs he (F1 hz hd (rk.merge .nil) dd')
structure M1 (X:Cx) (o:RI) (m:Str) (apos:Pos) (e:RI) (lv:Pos):Prop where
 base:Tx o m X.env (RY o X.env)=RY o X.env
 few:((SS lv (RN [e] X.env)).all (λx=>!x.1)&&(WI lv (VC [] X.env)).all (λx=>x.1.isSome)
  && decide (([e]:List RI).length+([]:List UB).length+(if([]:List UB).isEmpty then 0 else 1)<30))=true
 line:(apos.endLine == lv.line)=true
 trees:SS lv (RN [e] X.env)=[(false,RY e X.env)]
structure M2 (X:Cx) (o:RI) (m:Str) (apos:Pos) (e f:RI) (lv:Pos):Prop where
 base:Tx o m X.env (RY o X.env)=RY o X.env
 few:((SS lv (RN [e,f] X.env)).all (λx=>!x.1)&&(WI lv (VC [] X.env)).all (λx=>x.1.isSome)
  && decide (([e,f]:List RI).length+([]:List UB).length+(if([]:List UB).isEmpty then 0 else 1)<30))=true
 line:(apos.endLine == lv.line)=true
 trees:SS lv (RN [e,f] X.env)=[(false,RY e X.env),(false,RY f X.env)]
def IsD(H:Hp)(a:Rt):Prop:=(∃am,Rd H a (.dK am))\/∃am,Rd H a (.dT am)
theorem Cm{a:Rt}(I:Inv X ad σ H s)(d:IsD H a) :
  s.TypeIs (.ref a) "dict"/\(∀b,RV a=.ref b->∃ob,s.heap.get? b=some ob/\ob.dict=none)/\(a == R5)=false:=by
 rcases d with⟨am,e⟩|⟨am,e⟩
 ·obtain⟨_,hd,vs,_,dd⟩:=sO I.hok e;refine⟨dd.typeIs,λb q=>?_,hd⟩;cases q;obtain⟨ob,_,_,h1,h2,_⟩:=dd;exact⟨ob,h1,h2.2.1⟩
 obtain⟨_,hd,xs,_,dd⟩:=rK I.hok e;refine⟨dd.typeIs,λb q=>?_,hd⟩;cases q;obtain⟨ob,_,_,h1,h2,_⟩:=dd;exact⟨ob,h1,h2.2.1⟩
end L2
namespace Att
open PySem PySem.W PySem.Calls PyProof.Rows
theorem qK{P:Ve}{h:RM}:∀(ns:List Int) (vs:List Rq),WellAll P h vs (ns.map WData.int)->IntsAre vs ns:=by
 intro ns;induction ns with
 |nil=>
  intro vs w;rw[Oi]at w;cases w;exact .nil
 |cons n ns ih=>
  intro vs w;rw[e_]at w;cases w with
  |cons a b=>
   cases a;exact .cons _ _ (ih _ b)
theorem B6{l:OpenLaw}{n:Nat}(hn:l.most=some n){P:Ve}{h:RM}{args:List WData}{vals:List Rq}
  (hpre:l.row.toRowW.claim.pre args=true) (hwl:WellAll P h vals args) :
  ∃a vs ns,vals=[RV a]/\args=[WData.list (ns.map WData.int)]/\h.get? a=some { cls:=.type "list",data:=.seq vs.toArray}/\IntsAre vs ns/\ns.length<=n:=by
 have hsh:WShape.hasAll [] args [.list .int]=true:=(pre_splitW hpre).1;have hc:l.pre.holds [] { args:=args}=true:=(pre_splitW hpre).2;obtain⟨d,r,rfl,h1,h2⟩:=hasAllW_cons hsh;obtain rfl:=hasAllW_nil h2;obtain⟨xs,rfl,h3⟩:=hasW_list h1;obtain⟨ns,rfl⟩:=items_int h3;have hlen:ns.length<=n:=by
  unfold OpenLaw.pre at hc;have h4:(WTm.not (.lt (.lit (.int (n:Int))) (.len (.arg 0)))).holds [] { args:=[.list (ns.map .int)] }=true:=by have h4:=(holds_andW hc).1;rw[hn]at h4;exact h4
  have h5:=condW_of h4 (w_not (w_lt w_lit (w_len_list (w_arg rfl))));rw[a_]at h5;refine MU λq=>?_;have q':(n:Int)<((ns.length:Nat):Int):=by lia
  first
   | (rw[decide_eq_true q']at h5;exact absurd h5 (by decide))
   | (simp at h5;omega)
 cases hwl with
 |cons w1 w2=>
  cases w2;cases w1 with
  |list ho hall=>exact⟨_,_,ns,rfl,rfl,ho,qK ns _ hall,hlen⟩
theorem Bs(l:OpenLaw)(args:List WData):l.row.toRowW.claim.post args (.bool true) args=true:=
 postW_of (r:=l.row.toRowW) (X:=(true == true))
  (show WShape.has [] (.bool true) .bool=true by first|rfl|decide|simp[WShape.has,WShape.arms,WShape.armsAll])
  (show(WTm.eq .res (.lit (.bool true))).value [] { args:=args,res:=some (.bool true),after:=args}=some (.bool (true == true))from w_eq_bool (w_res rfl) w_lit) rfl
theorem wK{l:OpenLaw}{n:Nat}{q:RC}{loose:List Str}{XP:(Str->Option Rq)->RM->Prop}{YP:RK->RM->Prop}{d:DefRec}
  (hn:l.most=some n) (hdf:d.params.defaults=[])
  (call:∀(w:RK) (s₀ s₁:Ru) (mg mb:Str->Option Rq) (fa:Rt) (o:Obj) (pm cd doc:Rq) (a:Rt) (vs:List Rq) (ns:List Int),
   Ground q loose [] XP w s₀ mg mb s₁.heap->YP w s₁.heap->
   s₁.heap.get? fa=some o->o.data=.func (docDef d.name d.params d.body d.scope pm cd doc)->s₁.heap.CodeRec cd d.name->mg d.name=some (.ref fa)->
   s₁.heap.get? a=some { cls:=.type "list",data:=.seq vs.toArray}->IntsAre vs ns->ns.length<=n->s₁.gens=#[]->
   Ud (RJ l.prog w) Va (.call (.ref fa) ⟨[.ref a],[]⟩) (λr s'=>r=.ok (.ret (.bool true))/\OldK s₁.heap s'.heap/\s'.os=s₁.os/\Uc s'.gens) s₁) :
  WalkO q loose XP YP l.row.toRowW d [] (λf vs=>WY f vs):=by
 intro w s₀ s₁ mg mb G Y fa o pm cd doc dV kV ho hd hcd hD hmg hg args vals as hpre hlay hrd hwl hlo;obtain rfl:dV=.none:=Dflts.none hD hdf;obtain rfl:kV=.none:=Dflts.noKw hD;obtain⟨a,vs,ns,rfl,rfl,hobj,hints,hlen⟩:=B6 hn hpre hwl;refine enter_call (Ul (call w s₀ s₁ mg mb fa o pm cd doc a vs ns G Y ho (fd_plain hd) hcd hmg hobj hints hlen hg) λr s' hq=>?_);obtain⟨rfl,h2,h3,h4⟩:=hq;exact⟨.inl ⟨.bool true,.bool true,[],rfl,λ_=>rfl,.bool true,Bs l _,λ_=>⟨OQ,λ_ hm=>(nomatch hm)⟩⟩,h2,h3,h4⟩
section
variable{prog:RC}{w:RK}{A:RS}{E:Rq->Ru->Prop}{s:Ru}{K:Frag}
noncomputable def ledger(h:RM)(L d:Rt):List (Rt×Obj):=(w_ h.objs.size).filterMap λa=>if a=L\/a=d then none else(h.get? a).map λo=>(a,o)
end
end Att
namespace L2
open PySem PySem.Spec PyProof.Rows
theorem um:∀{vs:List Rq}{ns:List Int},IntsAre vs ns->Vals (ns.map V.int) vs
 | _,_,.nil=>.nil
 | _,_,.cons n t h=>.cons ⟨t,rfl⟩ (um h)
noncomputable def J7(H:Hp):Prop:=∀b,H b=none\/∃o xs,H b=some (.frz o (.lst xs))
variable {fd:RP}{x:Str}
theorem D7{P:RC}{w:RK}{K:Rr}{mg mb:Str->Option Rq}{CX:CXT}{k:Nat}{fa a:Rt}{sp:Sp}{s₁:Ru}{vs:List Rq}{ns:List Int}
  (KX:K.In s₁.heap) (hns:s₁.heap.Ns Se mg) (hb:s₁.heap.Ns VS mb) (hbb:∀x:Str,x≠"__name__"->mb x=SR x) (hlim:s₁.heap.NoLimit) (hg:s₁.gens=#[])
  (ha:s₁.heap.get? a=some { cls:=.type "list",data:=.seq vs.toArray}) (hi:IntsAre vs ns) (hl:ns.length<=sizeLine) (hr:Room k Va)
  (F:∀base:RM,K.In base->base.Ns Se mg->FnOk P w K mg base CX k fa fd [x] sp) (hbind:∀(s:Ru) (u:Rq),VG s fd ⟨[u],[]⟩ [(x,u)])
  (hsp:∀H:Hp,J7 H->SqL K H a (ns.map V.int)->sp [.ref a] H (λv _=>v=.bl true) λ_ _ _=>False)
  (hCX:∀H e s',CX [] H s₁ (λ_ _ _=>False) e s'->False) :
  Ud (RJ P w) Va (.call (.ref fa) ⟨[.ref a],[]⟩) (λr s'=>r=.ok (.ret (.bool true))/\OldK s₁.heap s'.heap/\s'.os=s₁.os/\Uc s'.gens) s₁:=by
 have rv:=um hi;have lenV:=hi.length;have core:∀H:Hp,J7 H->SqL K H a (ns.map V.int)->HOk P w H s₁.heap->(∀b,H b≠none->b=a)->(H a≠none->K.lookup a=none)->
   Ud (RJ P w) Va (.call (.ref fa) ⟨[.ref a],[]⟩) (λr s'=>r=.ok (.ret (.bool true))/\OldK s₁.heap s'.heap/\s'.os=s₁.os/\Uc s'.gens) s₁:=by
  intro H hO hS hok hA hK;have base_of:∀{b:Rt}{o:Obj},s₁.heap.get? b=some o->H b=none->(v8 s₁.heap H).get? b=some o:=λe n=>E2 e n;have noA:∀{b:Rt}{o:Obj}{es:Array SY}{ep:Nat},s₁.heap.get? b=some o->o.data=.dict es ep->H b=none:=λ{b o es ep} e d=>by
   cases q:H b with
   |none=>rfl
   |some u=>
    have e':b=a:=hA b (by rw[q];simp);subst e';rw[ha]at e;cases e;have d':XH vs.toArray _=Data.dict es ep:=d;cases d'
  have nsK:∀{b:Rt}{m:Str->Option Rq},s₁.heap.Ns b m->(v8 s₁.heap H).Ns b m:=λ{b m} ⟨o,es,ep,e,d,r⟩=>⟨o,es,ep,base_of e (noA e d),d,r⟩;have hKb:K.In (v8 s₁.heap H):=λb o e=>base_of (KX b o e) (by
   cases q:H b with
   |none=>rfl
   |some u=>
    have e':b=a:=hA b (by rw[q];simp);subst e';rw[hK (by rw[q];simp)]at e;cases e)
  have hM:Mod K mg (v8 s₁.heap H):=⟨hKb,nsK hns,⟨mb,nsK hb,hbb⟩,let ⟨mc,h1,h2⟩:=hlim;⟨mc,nsK h1,h2⟩⟩;have e0:Env0 P w K mg (v8 s₁.heap H) Va [] s₁ H:=⟨rfl,hM,λb o e=>FQ e,Ng (B4 _ _),trivial,λb hb=>absurd (show b∈([]:List Rt)from hb) (by simp),hok,.of_eq hg⟩;refine Ul ((F _ hKb (nsK hns)).run Va [] s₁ H ⟨[.ref a],[]⟩ [.ref a] [.ref a] _ _ hr e0 (hbind s₁ (.ref a)) (.cons rfl .nil) (hsp H hO hS)) λr s' h=>?_;cases r with
  |error e=>exact(hCX H e s' h).elim
  |ok fl=>
   cases fl with
   |next=>exact RL h
   |brk=>exact RL h
   |cont=>exact RL h
   |ret u=>
    obtain⟨v,H',os,bare,un,hok',r',q⟩:=h;have q':v=.bl true:=q;subst q';obtain rfl:u=VR true:=r';refine⟨rfl,OldK.of_keep λb o e=>?_,os,bare⟩;cases q:H b with
    |none=>exact un.keep b o e q (by intro z;exact absurd (show b∈([]:List Rt)from z) (by simp)) (by simp)
    |some u=>
     rcases hO b with z|⟨ob,xs,z⟩
     ·rw[q]at z;cases z
     have z2:=un.frzs b ob _ z;obtain⟨e1,_⟩:=hok b _ z;obtain⟨e2,_⟩:=hok' b _ z2;rw[e]at e1;cases e1;exact e2
 cases hk:K.lookup a with
 |some o=>
  have e:=KX a o hk;rw[ha]at e;cases e;refine core (λ_=>none) (λ_=>.inl rfl) (.inr ⟨_,vs.toArray,_,hk,rfl,rfl,rfl,by rw[g_,lenV];exact hl,by simpa using rv⟩) (λb u z=>by have z':(none:Option HO)=some u:=z;cases z') (λb z=>absurd rfl z) λz=>absurd rfl z
 |none=>
  refine core (λb=>if b=a then some (.frz { cls:=.type "list",data:=.seq vs.toArray} (.lst (ns.map V.int)))else none) (λb=>?_) (.inl (.inr ⟨{ cls:=.type "list",data:=.seq vs.toArray},if_pos rfl⟩)) (λb u z=>?_) (λb z=>?_) λ_=>hk
  ·by_cases hb:b=a
   ·exact .inr ⟨_,_,if_pos hb⟩
   exact .inl (if_neg hb)
  ·by_cases hb:b=a
   ·have z':=(if_pos hb).symm.trans z;cases z';subst hb;exact⟨ha,by rw[a_];exact hl,vs,_,rv,ha⟩
   have z':=(if_neg hb).symm.trans z;cases z'
  by_cases hb:b=a
  ·exact hb
  exact absurd (if_neg hb) z
theorem Hc{l:Vv}{n k:Nat}{q:RC}{loose:List Str}{XP:(Str->Option Rq)->RM->Prop}{YP:RK->RM->Prop}{d:DefRec}{K:Ve->Rr}{CX:RK->CXT}{sp:RK->Sp}
  (hn:l.most=some n) (hn2:n<=sizeLine) (hdf:d.params.defaults=[]) (hr:Room k Va)
  (hY:∀(w:RK) (h:RM),YP w h->(K w.params).In h)
  (F:∀(w:RK) (mg:Str->Option Rq) (fa:Rt) (h:RM),(K w.params).In h->h.Ns Se mg->mg d.name=some (.ref fa)->
   ∃fd:RP,(∀(s:Ru) (u:Rq),VG s fd ⟨[u],[]⟩ [(x,u)])/\
    ∀base:RM,(K w.params).In base->base.Ns Se mg->FnOk l.prog w (K w.params) mg base (CX w) k fa fd [x] (sp w))
  (hsp:∀(w:RK) (H:Hp) (a:Rt) (ns:List Int),ns.length<=n->J7 H->SqL (K w.params) H a (ns.map V.int)->sp w [.ref a] H (λv _=>v=.bl true) λ_ _ _=>False)
  (hCX:∀(w:RK) (H:Hp) (s:Ru) (e:Rq) (s':Ru),CX w [] H s (λ_ _ _=>False) e s'->False) :
  Xs q loose XP YP l.row.toRowW d [] (λf vs=>WY f vs):=by
 refine Att.wK hn hdf λw s₀ s₁ mg mb fa o pm cd doc a vs ns G Y ho hd hcd hmg hobj hints hlen hg=>?_;have KX:=hY w _ Y;obtain⟨fd,hb,hF⟩:=F w mg fa _ KX G.T.g hmg;exact D7 KX G.T.g G.T.b G.T.builtins G.T.nolimit hg hobj hints (p_ hlen hn2) hr hF hb (λH hO hS=>hsp w H a ns hlen hO hS) λH e s'=>hCX w H s₁ e s'
noncomputable def kz(s:RW):Arguments:=match s with
 | .FunctionDef _ a _ _ _ _ _ _ _ _=>a
 | _=>{ posonlyargs:=[],args:=[],vararg:=none,kwonlyargs:=[],kw_defaults:=[],kwarg:=none,defaults:=[] }
noncomputable def jo(s:RW):List RW:=match s with
 | .FunctionDef _ _ b _ _ _ _ _ _ _=>b
 | _=>[]
noncomputable def aA(s:RW):Sl:=match s with
 | .FunctionDef _ _ _ _ _ _ sc _ _ _=>sc
 | _=>{ kind:=.function,names:=[],isGenerator:=false,isCoroutine:=false}
abbrev CX0:CXT:=λ_ _ _ _ _ _=>False
abbrev E0:XK:=λ_ _ _=>False
theorem LX{X:Cx}:Passes CX0 X E0:=λ_ _ _ _ _ _ _ h=>h.elim
structure Fun (K:Rr) (x qual:Str) (st:RW) (f:Rt) (fd:RP):Prop where
 ex:∃(oc:Rq) (od:Option Rt) (kV doc pm:Rq) (an:Option Rt) (cdv ct:Rq) (osl:Array (Option Rq)),
  fd=SV x qual (kz st) (jo st) (aA st) .none kV doc pm an cdv ct/\K.lookup f=some ⟨oc,od,.func fd,osl⟩/\Uz K cdv qual=true
 kp:T4 K (.ref f)=true
variable {f:Rt}{ps:List Str}{qual:Str}{st:RW}
section
variable{P:RC}{w:RK}{K:Rr}{mg:Str->Option Rq}{base:RM}
theorem Fun.ok {N:List Str}{k:Nat}{sp:Sp}(F:Fun K x qual st f fd)(S:FnScope N ps (aA st))(len:∀vs H Q E,sp vs H Q E->vs.length=ps.length)
  (hbody:∀(cdv:Rq) (A:RS) (outer:List Env) (s:Ru) (H:Hp) (vs:List V) (Q:VK) (E:XK),Room k (A.deeper (Um qual (aA st) s.heap.objs.size f cdv))->sp vs H Q E->
   ∃t,PSs (yQ CX0 P w K mg base N qual (aA st) f cdv A outer s H E).nox (jo st) t/\t { nx:=λ_ H'=>Q .non H',rt:=Q} (start N vs) H):FnOk P w K mg base CX0 (k+1) f fd ps sp:=by
 obtain⟨oc,od,kV,doc,pm,an,cdv,ct,osl,rfl,lk,hcd⟩:=F.ex;refine Lh lk hcd S len λA outer s H vs Q E hr hsp=>?_;obtain⟨t,h,q⟩:=hbody cdv A outer s H vs Q E hr hsp;exact⟨t,h.nox,q⟩
theorem Fun.binds (F:Fun K x qual st f fd)
  (h:∀(kV doc pm:Rq) (an:Option Rt) (cdv ct:Rq) (us:List Rq),us.length=ps.length->XE (SV x qual (kz st) (jo st) (aA st) .none kV doc pm an cdv ct) ⟨us,[]⟩=pure (ps.zip us)):Binds K fd ps []:=by
 obtain⟨oc,od,kV,doc,pm,an,cdv,ct,osl,rfl,lk,hcd⟩:=F.ex;exact .all (h kV doc pm an cdv ct)
theorem yE{oc:Rq}{od an:Option Rt}{osl:Array (Option Rq)}{kV doc pm cdv ct:Rq}(l:K.lookup f=some ⟨oc,od,.func (SV x qual (kz st) (jo st) (aA st) .none kV doc pm an cdv ct),osl⟩)
  (c:Uz K cdv qual=true) (k:T4 K (.ref f)=true):Fun K x qual st f (SV x qual (kz st) (jo st) (aA st) .none kV doc pm an cdv ct):=⟨⟨oc,od,kV,doc,pm,an,cdv,ct,osl,rfl,l,c⟩,k⟩
end
theorem mD{A:RS}{k:Nat}(hr:Room k A):A.units+1<cLine:=MX (Oz (by decide:1<=64) _) hr.units
section
variable{X:Cx}
theorem pv(i:Nat){pos:Pos}(hN:X.N[i]?=some x:=by rfl)(hv:Vis X.env.scope x:=by first|exact bt rfl|exact i' (bt rfl)|exact i' (i' rfl))(hd:(x ==("__debug__":Str))=false:=by decide)
  (hcd:(x ==("__classdict__":Str))=false:=by decide):PE X (.Name x pos) (Il i):=kL hN hv hd hcd
end
theorem My{A B:Prop}(h:B):if false=true then A else B:=by rw[if_neg Nf];exact h
theorem MI{A B:Prop}(h:A):if true=true then A else B:=by rw[if_pos rfl];exact h
noncomputable def gB(H H':Hp):Prop:=∀b o,H b=some o->H' b=some o
theorem gB.seq {K:Rr}{H H':Hp}{a:Rt}{xs:List V}(e:gB H H')(h:SqL K H a xs):SqL K H' a xs:=by
 rcases h with (h|⟨o,h⟩)|h
 ·exact .inl (.inl (e _ _ h))
 ·exact .inl (.inr ⟨o,e _ _ h⟩)
 exact .inr h
end L2
namespace ZG
open PySem
noncomputable def Sq(b:Bool)(h:RM)(l:Rt)(xs:Array Rq):Prop:=match b with
 |true=>h.IsTuple l xs
 |false=>h.IsList l xs
noncomputable def Dr(b:Bool)(h:RM)(i l:Rt)(k:Nat):Prop:=match b with
 |true=>h.IsTupleIter i l k
 |false=>h.IsListIter i l k
variable {b:Bool}{h h':RM}{xs:Array Rq}
theorem Sq.ext {l c:Rt}(x:Sq b h l xs)(k:T9 c h h')(n:l≠c):Sq b h' l xs:=by
 cases b with
 |true=>exact Yg (show h.IsTuple l xs from x) k n
 |false=>exact Yl (show h.IsList l xs from x) k n
variable {i:Rt}
theorem Dr.ext {l c:Rt}{k:Nat}(x:Dr b h i l k)(e:T9 c h h')(n:i≠c):Dr b h' i l k:=by
 cases b with
 |true=>exact XS (show h.IsTupleIter i l k from x) e n
 |false=>exact X1 (show h.IsListIter i l k from x) e n
theorem Dr.some {b:Bool}{h:RM}{i l:Rt}{k:Nat}(x:Dr b h i l k):∃o,h.get? i=some o/\∀v,o.data≠.cell v:=by
 cases b with
 |true=>obtain⟨o,e,_,d⟩:=(show h.IsTupleIter i l k from x);exact⟨o,e,λv z=>by rw[d]at z;cases z⟩
 |false=>obtain⟨o,e,_,d⟩:=(show h.IsListIter i l k from x);exact⟨o,e,λv z=>by rw[d]at z;cases z⟩
theorem Dr.at {l:Rt}{k:Nat}(x:Dr b h i l k)(e:∀o,h.get? i=Qf o->h'.get? i=Qf o):Dr b h' i l k:=by
 cases b with
 |true=>obtain⟨o,q,r⟩:=(show h.IsTupleIter i l k from x);exact⟨o,e o q,r⟩
 |false=>obtain⟨o,q,r⟩:=(show h.IsListIter i l k from x);exact⟨o,e o q,r⟩
theorem Sq.at {l:Rt}(x:Sq b h l xs)(e:∀o,h.get? l=Qf o->h'.get? l=Qf o):Sq b h' l xs:=by
 cases b with
 |true=>obtain⟨o,q,r⟩:=(show h.IsTuple l xs from x);exact⟨o,e o q,r⟩
 |false=>obtain⟨o,q,r⟩:=(show h.IsList l xs from x);exact⟨o,e o q,r⟩
variable {Q:Rq->Ru->Prop}{a:Rq}{b1 b2:Bool}{i1 i2 l1 l2 z:Rt}{ys:Array Rq}
section
variable{prog:RC}{w:RK}{A:RS}{E:Rq->Ru->Prop}{s:Ru}
theorem Fj{l:Rt}{k:Nat}{v:Rq}(d:s.heap.IsTupleIter i l k)(q:s.heap.IsTuple l xs)(hv:xs[k]?=some v)
  (r:∀g,g.IsTupleIter i l (k+1)->Sr i s.heap g->Q v {s with heap:=g}):RA (RJ prog w) A (R0 (.ref i)) Q E s:=by
 obtain⟨oi,hoi,ci,di⟩:=id d;obtain⟨ol,hol,_,nl,dl⟩:=q;unfold R0;refine Ro (R' (name:=SW "__next__") d.typeIs S5 (Sm S5 d.typeIs UL ?_ (UC _)));show RA _ _ (VZ (.ref i) 0 >>= _) _ _ s;refine Ro (Sj hoi di (x:=.ref l) rfl ?_);show RA _ _ (if(RV l == R4)=true then _ else _) _ _ s;rw[if_neg (show ¬((RV l == R4)=true)from Nf)];show RA _ _ (VZ (.ref i) 1 >>= _) _ _ s;refine Ro (Sj hoi di (x:=.int k 0) rfl ?_);show RA _ _ (seqItems? (.ref l) >>= _) _ _ s;refine Ro (SI hol dl ?_);simp only[Nl,hv];refine Ro (UD hoi di (by simp) (Rv ⟨v,rfl,Rv (r _ ?_ (SN ..))⟩));exact⟨_,S3 _ hoi (VI (TY di _)),(Ws ..).trans ci,by rw[TY di];simp[Tq]⟩
theorem JV{l:Rt}{k:Nat}(hh:A.handled=none)(d:s.heap.IsTupleIter i l k)(q:s.heap.IsTuple l xs)(hv:xs[k]?=none)
  (r:∀g e,T9 i s.heap g->(∃o,g.get? e=some o/\o.cls=.type "StopIteration")->E (.ref e) {s with heap:=g}):RA (RJ prog w) A (R0 (.ref i)) Q E s:=by
 obtain⟨oi,hoi,ci,di⟩:=id d;obtain⟨ol,hol,_,nl,dl⟩:=q;unfold R0;refine Ro (R' (name:=SW "__next__") d.typeIs S5 (Sm S5 d.typeIs UL ?_ (UC _)));show RA _ _ (VZ (.ref i) 0 >>= _) _ _ s;refine Ro (Sj hoi di (x:=.ref l) rfl ?_);show RA _ _ (if(RV l == R4)=true then _ else _) _ _ s;rw[if_neg (show ¬((RV l == R4)=true)from Nf)];show RA _ _ (VZ (.ref i) 1 >>= _) _ _ s;refine Ro (Sj hoi di (x:=.int k 0) rfl ?_);show RA _ _ (seqItems? (.ref l) >>= _) _ _ s;refine Ro (SI hol dl ?_);simp only[Nl,hv];refine Ro (S7 (Ro (UD hoi di (by simp) ?_)));show RA _ _ (XI (.type "StopIteration") [] >>= _) _ _ _;refine Ro ?_;simp only[XI,newTuple];refine Ro (Sg ?_ (by size_fits));refine Ro (m:=UE _ _) (VD (a:=R4) (by first|rfl|(simp only[UE];rfl)) ?_);refine Sg ?_ (by size_fits);simp only[raiseNew];refine Ro (Xt ?_)
 first|rw[show A.in1.handled=none from hh]|rw[hh]
 refine Ro (Rv (X2 ?_));exact r _ _ (((SN ..).extBut.push _).push _) ⟨_,RF _ rfl,rfl⟩
theorem vL{l:Rt}{k:Nat}{v:Rq}(d:Dr b s.heap i l k)(q:Sq b s.heap l xs)(hv:xs[k]?=some v)
  (r:∀g,Dr b g i l (k+1)->Sr i s.heap g->Q v {s with heap:=g}):RA (RJ prog w) A (R0 (.ref i)) Q E s:=by
 cases b with
 |true=>exact Fj d q hv r
 |false=>exact wpAny_nextOf_list_item d q hv r
theorem Cz{l:Rt}{k:Nat}(hh:A.handled=none)(d:Dr b s.heap i l k)(q:Sq b s.heap l xs)(hv:xs[k]?=none)
  (r:∀g e,T9 i s.heap g->(∃o,g.get? e=some o/\o.cls=.type "StopIteration")->E (.ref e) {s with heap:=g}):RA (RJ prog w) A (R0 (.ref i)) Q E s:=by
 cases b with
 |true=>exact JV hh d q hv r
 |false=>exact wpAny_nextOf_list_end hh d q hv r
structure Off (z TI TO i1 i2 l1 l2:Rt):Prop where
 a1:TI≠z
 a2:TO≠z
 a3:i1≠z
 a4:i2≠z
 a5:TI≠TO
 a6:TI≠i1
 a7:TI≠i2
 a8:TO≠i1
 a9:TO≠i2
 b1:i1≠i2
 c1:l1≠z
 c2:l1≠TO
 c3:l1≠i1
 c4:l1≠i2
 e1:l2≠z
 e2:l2≠TO
 e3:l2≠i1
 e4:l2≠i2
theorem LQ{TI TO:Rt}{k:Nat}{x y b:Rq}(D:Off z TI TO i1 i2 l1 l2)
  (hz:Tt s.heap z TI TO .none) (hi:SF s.heap TI (.ref i1) (.ref i2)) (ho:SF s.heap TO a b)
  (d1:Dr b1 s.heap i1 l1 k) (d2:Dr b2 s.heap i2 l2 k) (q1:Sq b1 s.heap l1 xs) (q2:Sq b2 s.heap l2 ys) (hx:xs[k]?=some x) (hy:ys[k]?=some y)
  (r:∀g,Tt g z TI TO (Tq s.heap.objs.size)->SF g TO x y->Dr b1 g i1 l1 (k+1)->Dr b2 g i2 l2 (k+1)->SF g s.heap.objs.size x y->g.objs.size=s.heap.objs.size+1->
   (∀c o,c≠z->c≠TO->c≠i1->c≠i2->s.heap.get? c=some o->g.get? c=some o)->Q (.ref s.heap.objs.size) {s with heap:=g}) :
  RA (RJ prog w) A (S4.«zip.__next__» ⟨[.ref z],[]⟩) (λfin s'=>∃v,fin=.done (.ret v)/\Q v s') E s:=by
 show RA _ _ (VZ (.ref z) 2 >>= _) _ _ _;refine Ro (Sj hz rfl (x:=.bool false) rfl ?_);show RA _ _ (VZ (.ref z) 3 >>= _) _ _ _;refine Ro (Sj hz rfl (x:=.ref TI) rfl (Ro (SI hi rfl ?_)));show RA _ _ (Sv (.ref z) >>= _) _ _ _;refine Ro ?_;unfold Sv;refine Ro (Sj hz rfl (x:=.none) rfl (Rv ?_));simp only[if_true];refine Ro (S7 (Ro (Sj hz rfl (x:=.ref TO) rfl (Ro (S0 hz (by simp) λg1 z1 s1=>?_)))));have z1:Tt g1 z TI TO .ellipsis:=z1;refine Ro ?_;simp only[PU,QT,O3,Pb];refine Ro (Ro (UY ?_));show RA _ _ (R0 (.ref i1) >>= _) _ _ _;refine Ro (vL (d1.ext s1.extBut D.a3) (q1.ext s1.extBut D.c1) hx λg2 w2 s2=>Rv ?_);have o2:SF g2 TO a b:=s2.extBut _ _ D.a8 (s1.extBut _ _ D.a2 ho);refine Ro (SI o2 rfl (Ro (Uq o2 λg3 o3 s3=>?_)));have o3:SF g3 TO x b:=o3;refine Ro (TB (Rv (Ro (Ro (UY ?_)))));show RA _ _ (R0 (.ref i2) >>= _) _ _ _;refine Ro (vL (((d2.ext s1.extBut D.a4).ext s2.extBut D.b1.symm).ext s3.extBut D.a9.symm) (((q2.ext s1.extBut D.e1).ext s2.extBut D.e3).ext s3.extBut D.e2) hy λg4 w4 s4=>Rv ?_);have o4:SF g4 TO x b:=s4.extBut _ _ D.a9 o3;refine Ro (SI o4 rfl (Ro (Uq o4 λg5 o5 s5=>?_)));have o5:SF g5 TO x y:=o5;refine Ro (TB (Rv (Rv (Ro (SI o5 rfl (Ro (Xf ?_)))))));have sz:g5.objs.size=s.heap.objs.size:=by rw[s5.1,s4.1,s3.1,s2.1,s1.1]
 have z5:Tt g5 z TI TO .ellipsis:=s5.extBut _ _ D.a2.symm (s4.extBut _ _ D.a4.symm (s3.extBut _ _ D.a2.symm (s2.extBut _ _ D.a3.symm z1)));have k5:∀c o,c≠z->c≠TO->c≠i1->c≠i2->s.heap.get? c=some o->g5.get? c=some o:=λc o n1 n2 n3 n4 e=>
  s5.extBut _ _ n2 (s4.extBut _ _ n4 (s3.extBut _ _ n2 (s2.extBut _ _ n3 (s1.extBut _ _ n1 e))))
 have w15:Dr b1 g5 i1 l1 (k+1):=((w2.ext s3.extBut D.a8.symm).ext s4.extBut D.b1).ext s5.extBut D.a8.symm;have w25:Dr b2 g5 i2 l2 (k+1):=w4.ext s5.extBut D.a9.symm;have zlt:z<g5.objs.size:=RE z5;show RA _ _ (TZ (.ref z) (.ref g5.objs.size) >>= _) _ _ _;refine Ro ?_;unfold TZ;have z6:Tt (g5.push { cls:=.type "tuple",data:=.seq #[x,y] }) z TI TO .ellipsis:=Rx _ z5;refine Ro (S0 z6 (by simp) λg7 z7 s7=>?_);have z7:Tt g7 z TI TO (Tq g5.objs.size):=z7;refine S0 z7 (by simp) λg8 z8 s8=>?_
 have z8:Tt g8 z TI TO (Tq g5.objs.size):=z8;have up:∀c o,c≠z->g5.get? c=some o->g8.get? c=some o:=λc o n e=>s8.extBut _ _ n (s7.extBut _ _ n (Rx _ e));have t8:SF g8 g5.objs.size x y:=s8.extBut _ _ (OF zlt) (s7.extBut _ _ (OF zlt) (RF _ rfl));have e8:g8.objs.size=g5.objs.size+1:=by rw[s8.1,s7.1,SO]
 rw[sz]at z8 t8 e8;refine Rv ⟨_,rfl,?_⟩;show Q (.ref g5.objs.size) _;rw[sz];exact r g8 z8 (up _ _ D.a2 o5) (w15.at λo e=>up _ o D.a3 e) (w25.at λo e=>up _ o D.a4 e) t8 e8 λc o n1 n2 n3 n4 e=>up c o n1 (k5 c o n1 n2 n3 n4 e)
theorem zEnd{TI TO:Rt}{k:Nat}{b:Rq}{Q:Fin->Ru->Prop}(hh:A.handled=none)(D:Off z TI TO i1 i2 l1 l2)
  (hz:Tt s.heap z TI TO .none) (hi:SF s.heap TI (.ref i1) (.ref i2)) (ho:SF s.heap TO a b)
  (d1:Dr b1 s.heap i1 l1 k) (d2:Dr b2 s.heap i2 l2 k) (q1:Sq b1 s.heap l1 xs) (q2:Sq b2 s.heap l2 ys) (hn:xs[k]?=none\/ys[k]?=none)
  (r:∀g e,(∀c o,c≠z->c≠TO->c≠i1->c≠i2->s.heap.get? c=some o->g.get? c=some o)->(∃o,g.get? e=some o/\o.cls=.type "StopIteration")->E (.ref e) {s with heap:=g}) :
  RA (RJ prog w) A (S4.«zip.__next__» ⟨[.ref z],[]⟩) Q E s:=by
 show RA _ _ (VZ (.ref z) 2 >>= _) _ _ _;refine Ro (Sj hz rfl (x:=.bool false) rfl ?_);show RA _ _ (VZ (.ref z) 3 >>= _) _ _ _;refine Ro (Sj hz rfl (x:=.ref TI) rfl (Ro (SI hi rfl ?_)));show RA _ _ (Sv (.ref z) >>= _) _ _ _;refine Ro ?_;unfold Sv;refine Ro (Sj hz rfl (x:=.none) rfl (Rv ?_));simp only[if_true];refine Ro (S7 (Ro (Sj hz rfl (x:=.ref TO) rfl (Ro (S0 hz (by simp) λg1 z1 s1=>?_)))));have z1:Tt g1 z TI TO .ellipsis:=z1;refine Ro ?_;simp only[PU,QT,O3,Pb];refine Ro (Ro (UY ?_));show RA _ _ (R0 (.ref i1) >>= _) _ _ _;cases hx:xs[k]? with
 |none=>
  refine Ro (Cz hh (d1.ext s1.extBut D.a3) (q1.ext s1.extBut D.c1) hx λg2 e s2 he=>?_);obtain⟨oe,hoe,ce⟩:=he;have z2:Tt g2 z TI TO .ellipsis:=s2 _ _ D.a3.symm z1;have ne:e≠z:=λq=>by subst q;rw[z2]at hoe;cases hoe;simp at ce
  exact S0 z2 (by simp) λg3 _ s3=>r g3 e (λc o n1 _ n3 _ q=>s3.extBut _ _ n1 (s2 _ _ n3 (s1.extBut _ _ n1 q))) ⟨oe,s3.extBut _ _ ne hoe,ce⟩
 |some x=>
  have hy:ys[k]?=none:=by
   rcases hn with h|h
   ·rw[hx]at h;cases h
   exact h
  refine Ro (vL (d1.ext s1.extBut D.a3) (q1.ext s1.extBut D.c1) hx λg2 w2 s2=>Rv ?_);have o2:SF g2 TO a b:=s2.extBut _ _ D.a8 (s1.extBut _ _ D.a2 ho);refine Ro (SI o2 rfl (Ro (Uq o2 λg3 o3 s3=>?_)));refine Ro (TB (Rv (Ro (Ro (UY ?_)))));show RA _ _ (R0 (.ref i2) >>= _) _ _ _;refine Ro (Cz hh (((d2.ext s1.extBut D.a4).ext s2.extBut D.b1.symm).ext s3.extBut D.a9.symm) (((q2.ext s1.extBut D.e1).ext s2.extBut D.e3).ext s3.extBut D.e2) hy λg4 e s4 he=>?_);obtain⟨oe,hoe,ce⟩:=he;have z4:Tt g4 z TI TO .ellipsis:=s4 _ _ D.a4.symm (s3.extBut _ _ D.a2.symm (s2.extBut _ _ D.a3.symm z1));have ne:e≠z:=λq=>by subst q;rw[z4]at hoe;cases hoe;simp at ce
  exact S0 z4 (by simp) λg5 _ s5=>r g5 e (λc o n1 n2 n3 n4 q=>s5.extBut _ _ n1 (s4 _ _ n4 (s3.extBut _ _ n2 (s2.extBut _ _ n3 (s1.extBut _ _ n1 q))))) ⟨oe,s5.extBut _ _ ne hoe,ce⟩
theorem wY{TI TO:Rt}{k:Nat}{x y b:Rq}{Q:Option Rq->Ru->Prop}(D:Off z TI TO i1 i2 l1 l2)
  (hz:Tt s.heap z TI TO .none) (hi:SF s.heap TI (.ref i1) (.ref i2)) (ho:SF s.heap TO a b)
  (d1:Dr b1 s.heap i1 l1 k) (d2:Dr b2 s.heap i2 l2 k) (q1:Sq b1 s.heap l1 xs) (q2:Sq b2 s.heap l2 ys) (hx:xs[k]?=some x) (hy:ys[k]?=some y)
  (r:∀g,Tt g z TI TO (Tq s.heap.objs.size)->SF g TO x y->Dr b1 g i1 l1 (k+1)->Dr b2 g i2 l2 (k+1)->SF g s.heap.objs.size x y->g.objs.size=s.heap.objs.size+1->
   (∀c o,c≠z->c≠TO->c≠i1->c≠i2->s.heap.get? c=some o->g.get? c=some o)->Q (some (.ref s.heap.objs.size)) {s with heap:=g}) :
  RA (RJ prog w) A (T7 (.ref z)) Q E s:=by
 have hT:s.TypeIs (.ref z) "zip":=⟨_,hz,rfl⟩;unfold T7;refine Ro (S6 (R' (name:=SW "__next__") hT Ur (Sm Ur hT WK ?_ (Wt _))));exact LQ D hz hi ho d1 d2 q1 q2 hx hy λg p1 p2 p3 p4 p5 p6 p7=>Rv (r g p1 p2 p3 p4 p5 p6 p7)
theorem yD{TI TO:Rt}{k:Nat}{b:Rq}{Q:Option Rq->Ru->Prop}(hh:A.handled=none)(D:Off z TI TO i1 i2 l1 l2)
  (hz:Tt s.heap z TI TO .none) (hi:SF s.heap TI (.ref i1) (.ref i2)) (ho:SF s.heap TO a b)
  (d1:Dr b1 s.heap i1 l1 k) (d2:Dr b2 s.heap i2 l2 k) (q1:Sq b1 s.heap l1 xs) (q2:Sq b2 s.heap l2 ys) (hn:xs[k]?=none\/ys[k]?=none)
  (r:∀g,(∀c o,c≠z->c≠TO->c≠i1->c≠i2->s.heap.get? c=some o->g.get? c=some o)->Q none {s with heap:=g}):RA (RJ prog w) A (T7 (.ref z)) Q E s:=by
 have hT:s.TypeIs (.ref z) "zip":=⟨_,hz,rfl⟩;unfold T7;refine Ro (S6 (R' (name:=SW "__next__") hT Ur (Sm Ur hT WK (zEnd hh D hz hi ho d1 d2 q1 q2 hn λg e k he=>?_) (Wt _))));obtain⟨o,he,hc⟩:=he;exact Ro (Ub (T:="StopIteration") (b:=true) ⟨o,he,hc⟩ Xg (Rv (r _ k)))
end
noncomputable def nm(b:Bool):String:=if b=true then "tuple_iterator" else "list_iterator"
abbrev Z1(h:RM)(b1:Bool)(l1:Rt):RM:=h.push { cls:=.type (nm b1),data:=.fields #[.ref l1,.int 0 0] }
abbrev Z2(h:RM)(b1 b2:Bool)(l1 l2:Rt):RM:=(Z1 h b1 l1).push { cls:=.type (nm b2),data:=.fields #[.ref l2,.int 0 0] }
abbrev Z3(h:RM)(b1 b2:Bool)(l1 l2:Rt):RM:=(Z2 h b1 b2 l1 l2).push { cls:=.type "tuple",data:=.seq #[.ref h.objs.size,.ref (Z1 h b1 l1).objs.size] }
abbrev Z4(h:RM)(b1 b2:Bool)(l1 l2:Rt):RM:=(Z3 h b1 b2 l1 l2).push { cls:=.type "tuple",data:=.seq #[.none,.none] }
abbrev Z5(h:RM)(b1 b2:Bool)(l1 l2:Rt):RM:=(Z4 h b1 b2 l1 l2).push { cls:=.type "zip",data:=.fields #[.none,.bool false,.bool false,.ref (Z2 h b1 b2 l1 l2).objs.size,.ref (Z3 h b1 b2 l1 l2).objs.size] }
theorem F7(b1 b2:Bool)(l1 l2:Rt)(xs ys:Array Rq) :
  Meets (S4.«zip.__new__» ⟨[.type "zip",.ref l1,.ref l2],[]⟩) (λ_ R s=>Sq b1 s.heap l1 xs/\Sq b2 s.heap l2 ys/\R (.ok (.ret (.ref (Z4 s.heap b1 b2 l1 l2).objs.size))) {s with heap:=Z5 s.heap b1 b2 l1 l2}):=
 .of_wp λprog w A R s h=>by
  obtain⟨hp,g,d,tk,os⟩:=s;obtain⟨q1,q2,h⟩:=h;have hsub:=sub_zip;cases b1 with
  |false=>
   have p1:WC (TC ⟨hp,g,d,tk,os⟩) l1 xs:=q1;cases b2 with
   |false=>
    have p2:WC (TC ⟨hp.push { cls:=.type "list_iterator",data:=.fields #[.ref l1,.int 0 0] },g,d,tk,os⟩) l2 ys:=WL q2 _
    wp_walk using Sy p1,Sy p2
    exact⟨_,rfl,h⟩
   |true=>
    have p2:Vf (TC ⟨hp.push { cls:=.type "list_iterator",data:=.fields #[.ref l1,.int 0 0] },g,d,tk,os⟩) l2 ys:=Wu q2 _
    wp_walk using Sy p1,R9 p2
    exact⟨_,rfl,h⟩
  |true=>
   have p1:Vf (TC ⟨hp,g,d,tk,os⟩) l1 xs:=q1;cases b2 with
   |false=>
    have p2:WC (TC ⟨hp.push { cls:=.type "tuple_iterator",data:=.fields #[.ref l1,.int 0 0] },g,d,tk,os⟩) l2 ys:=WL q2 _
    wp_walk using R9 p1,Sy p2
    exact⟨_,rfl,h⟩
   |true=>
    have p2:Vf (TC ⟨hp.push { cls:=.type "tuple_iterator",data:=.fields #[.ref l1,.int 0 0] },g,d,tk,os⟩) l2 ys:=Wu q2 _
    wp_walk using R9 p1,R9 p2
    exact⟨_,rfl,h⟩
section
variable{prog:RC}{w:RK}{A:RS}{E:Rq->Ru->Prop}{s:Ru}
theorem CG(q1:Sq b1 s.heap l1 xs)(q2:Sq b2 s.heap l2 ys)
  (r:∀g,Tt g (s.heap.objs.size+4) (s.heap.objs.size+2) (s.heap.objs.size+3) .none->SF g (s.heap.objs.size+2) (.ref s.heap.objs.size) (.ref (s.heap.objs.size+1))->SF g (s.heap.objs.size+3) .none .none->
    Dr b1 g s.heap.objs.size l1 0->Dr b2 g (s.heap.objs.size+1) l2 0->g.objs.size=s.heap.objs.size+5->(∀c o,s.heap.get? c=some o->g.get? c=some o)->Q (.ref (s.heap.objs.size+4)) {s with heap:=g}) :
  RA (RJ prog w) A (call (.type "zip") [.ref l1,.ref l2]) Q E s:=by
 refine XJ F.called_zip (by decide) (F.typeCall_zip_2 _ _) (F.newCall_zip_2 _ _) (λobj=>F.args_object_init_3 obj _ _) F.entry_zip_new (F7 b1 b2 l1 l2 xs ys) ⟨q1,q2,?_⟩;have z1:(Z1 s.heap b1 l1).objs.size=s.heap.objs.size+1:=SO ..;have z2:(Z2 s.heap b1 b2 l1 l2).objs.size=s.heap.objs.size+2:=by rw[SO,z1]
 have z3:(Z3 s.heap b1 b2 l1 l2).objs.size=s.heap.objs.size+3:=by rw[SO,z2]
 have z4:(Z4 s.heap b1 b2 l1 l2).objs.size=s.heap.objs.size+4:=by rw[SO,z3]
 have z5:(Z5 s.heap b1 b2 l1 l2).objs.size=s.heap.objs.size+5:=by rw[SO,z4]
 have u5:∀c o,(Z4 s.heap b1 b2 l1 l2).get? c=some o->(Z5 s.heap b1 b2 l1 l2).get? c=some o:=λc o e=>Rx _ e;have u4:∀c o,(Z3 s.heap b1 b2 l1 l2).get? c=some o->(Z5 s.heap b1 b2 l1 l2).get? c=some o:=λc o e=>u5 c o (Rx _ e);have u3:∀c o,(Z2 s.heap b1 b2 l1 l2).get? c=some o->(Z5 s.heap b1 b2 l1 l2).get? c=some o:=λc o e=>u4 c o (Rx _ e);have u2:∀c o,(Z1 s.heap b1 l1).get? c=some o->(Z5 s.heap b1 b2 l1 l2).get? c=some o:=λc o e=>u3 c o (Rx _ e);have g5:(Z5 s.heap b1 b2 l1 l2).get? (Z4 s.heap b1 b2 l1 l2).objs.size=some _:=RF _ rfl;have g4:=u5 (Z3 s.heap b1 b2 l1 l2).objs.size _ (RF _ rfl);have g3:=u4 (Z2 s.heap b1 b2 l1 l2).objs.size _ (RF _ rfl);have g2:=u3 (Z1 s.heap b1 l1).objs.size _ (RF _ rfl);have g1:=u2 s.heap.objs.size _ (RF _ rfl);show _/\_;rw[z2,z3,z4]at g5;rw[z1,z2]at g3;rw[z3]at g4;rw[z1]at g2;rw[z4];refine⟨⟨_,g5,rfl⟩,r _ g5 g3 g4 ?_ ?_ z5 λc o e=>u2 c o (Rx _ e)⟩
 ·cases b1 with
  |true=>exact⟨_,g1,rfl,rfl⟩
  |false=>exact⟨_,g1,rfl,rfl⟩
 cases b2 with
 |true=>exact⟨_,g2,rfl,rfl⟩
 |false=>exact⟨_,g2,rfl,rfl⟩
end
end ZG
namespace L2
open PySem PySem.Spec PyProof.Rows
noncomputable def k9(env:Env):List (Str×S_)->List (Str×Rt)->List (Str×Rt)
 | [],cs=>cs
 |x::r,cs=>k9 env r (if(x.2 == SH)=true then(x.1,(env.cells.lookup x.1).getD 0)::cs else cs)
theorem sE{env:Env}(f:Str×S_->List (Str×Rt)->Sem (ForInStep (List (Str×Rt))))(hf:∀n k cs,f (n,k) cs=if(k == SH)=true then(do let a <-cellOf env n;pure (RQ ((n,a)::cs)))else pure (RQ cs)) :
  ∀(names:List (Str×S_)) (cs:List (Str×Rt)),(∀x∈names,x.2=.free->∃c,env.cells.lookup x.1=some c)->forIn names cs f=pure (k9 env names cs)
 | [],cs,_=>by rw[Pb];rfl
 | (n,k)::r,cs,h=>by
  rw[O3,hf];have hr:∀x∈r,x.2=.free->∃c,env.cells.lookup x.1=some c:=λx hx=>h x (q_ _ hx);by_cases e:(k == SH)=true
  ·obtain⟨c,hc⟩:=h (n,k) x_ (by simpa using e);have hc':env.cells.lookup n=some c:=hc;rw[if_pos e];have q:cellOf env n=pure c:=by unfold cellOf;rw[hc']
   rw[q,pure_bind,pure_bind];show forIn r ((n,c)::cs) f=pure (k9 env ((n,k)::r) cs);rw[sE f hf r _ hr];unfold k9;rw[if_pos e,hc'];cases r <;> rfl
  rw[if_neg e,pure_bind];show forIn r cs f=pure (k9 env ((n,k)::r) cs);rw[sE f hf r _ hr]
  conv=>rhs;unfold k9
  rw[if_neg e]
variable {sc:Sl}
theorem tm{env:Env}(h:∀x∈sc.names,x.2=.free->∃c,env.cells.lookup x.1=some c):closureFor sc env=pure (k9 env sc.names []):=by
 unfold closureFor;show(forIn sc.names [] _ >>= λcs=>pure cs)=_;rw[sE (env:=env) _ (λn k cs=>by cases e:k == SH <;> simp[e]) sc.names [] h]
 rfl
theorem xw{env:Env}:∀{names:List (Str×S_)}{cs:List (Str×Rt)}{x:Str}{c:Rt},(∀y∈names,y.2=.free->∃c,env.cells.lookup y.1=some c)->(k9 env names cs).lookup x=some c->
  (env.cells.lookup x=some c/\(x,SH)∈names)\/cs.lookup x=some c
 | [],cs,x,c,_,h=>.inr h
 | (n,k)::r,cs,x,c,hn,h=>by
  unfold k9 at h;have hr:∀y∈r,y.2=.free->∃c,env.cells.lookup y.1=some c:=λy hy=>hn y (q_ _ hy);have hh:=xw hr h;clear h;rcases hh with⟨h1,h2⟩|h
  ·exact .inl ⟨h1,q_ _ h2⟩
  by_cases e:(k == SH)=true
  ·rw[if_pos e]at h;obtain⟨c',hc⟩:=hn (n,k) x_ (by simpa using e);have hc':env.cells.lookup n=some c':=hc;rw[hc',Ot]at h;by_cases ex:(x == n)=true
   ·rw[ex]at h;have ex':x=n:=by simpa using ex
    have ek:k=SH:=by simpa using e
    subst ex' ek;have h':c'=c:=F_ h;subst h';exact .inl ⟨hc',x_⟩
   have ex':(x == n)=false:=by simpa using ex
   rw[ex']at h;exact .inr h
  rw[if_neg e]at h;exact .inr h
theorem xy{env:Env}:∀{names:List (Str×S_)}{cs:List (Str×Rt)}{x:Str}{c:Rt},(∀y∈names,y.2=.free->∃c,env.cells.lookup y.1=some c)->env.cells.lookup x=some c->cs.lookup x=some c->(k9 env names cs).lookup x=some c
 | [],cs,x,c,_,_,h=>h
 | (n,k)::r,cs,x,c,hn,he,h=>by
  unfold k9;refine xy (λy hy=>hn y (q_ _ hy)) he ?_;by_cases e:(k == SH)=true
  ·rw[if_pos e,Ot];by_cases ex:(x == n)=true
   ·rw[ex];have ex':x=n:=by simpa using ex
    subst ex';show some ((env.cells.lookup x).getD 0)=some c;rw[he];rfl
   have ex':(x == n)=false:=by simpa using ex
   rw[ex'];exact h
  rw[if_neg e];exact h
theorem ve{env:Env}:∀{names:List (Str×S_)}{cs:List (Str×Rt)}{x:Str}{c:Rt},(∀y∈names,y.2=.free->∃c,env.cells.lookup y.1=some c)->env.cells.lookup x=some c->(x,SH)∈names->(k9 env names cs).lookup x=some c
 | (n,k)::r,cs,x,c,hn,he,hm=>by
  have hr:∀y∈r,y.2=.free->∃c,env.cells.lookup y.1=some c:=λy hy=>hn y (q_ _ hy);unfold k9;rcases n_.mp hm with e|hm
  ·obtain⟨rfl,rfl⟩:=Prod.mk.inj e;rw[if_pos (by rfl)];refine xy hr he ?_;rw[Ot,beq_self_eq_true];show some ((env.cells.lookup x).getD 0)=some c;rw[he];rfl
  exact ve hr he hm
noncomputable def sU(env:Env)(sc:Sl):Sl:={sc with names:=sc.names.map λx=>if(x.2 == .free&&env.scope.kind == .function&&env.kindOf x.1 == some .cell)=true then(x.1,.cell)else(x.1,x.2) }
theorem oC{f:Str×S_->Bool}(x:Str):∀names:List (Str×S_),(names.map λy=>if f y=true then(y.1,Yv)else(y.1,y.2)).lookup x=(names.lookup x).map λk=>if f (x,k)=true then .cell else k
 | []=>rfl
 | (n,k)::r=>by
  rw[e_];by_cases ex:(x == n)=true
  ·have ex':x=n:=by simpa using ex
   subst ex';cases e:f (x,k) <;> simp[e,Ot]
  have ex':(x == n)=false:=by simpa using ex
  have ih:=oC (f:=f) x r;cases e:f (n,k) <;> simp only[e,if_true,if_false,C',Ot,ex',ih]
theorem o8(env:Env)(sc:Sl)(x:Str):(sU env sc).names.lookup x=(sc.names.lookup x).map λk=>if(k == .free&&env.scope.kind == .function&&env.kindOf x == some .cell)=true then .cell else k:=
 oC (f:=λy=>(y.2 == .free&&env.scope.kind == .function&&env.kindOf y.1 == some .cell)) x sc.names
def compEnv(env:Env)(sc:Sl)(L:Rt):Env:={ newEnv sc L env.globals (k9 env sc.names []) env.qual none .none (some env) VS with scope:=sU env sc}
variable {Q:Rq->Ru->Prop}{e:RI}{gs:List UZ}{newAcc:Sem Rq}{pos:Pos}{scope:Sl}
section
variable{M:Tp}{A:RS}{E:Rq->Ru->Prop}{s:Ru}{env:Env}
theorem pM{first:Sem Rq}{g:UZ}
  (hcl:clausesOf e=g::gs) (hs:∀x,Sh g.iter env x=pure x)
  (hc:∀x∈scope.names,x.2≠.cell) (hfr:∀x∈scope.names,x.2=.free->∃c,env.cells.lookup x.1=some c) (hkind:scope.kind=.function) (hnames:∀x∈scope.names,x.2=.local->scope.names.lookup x.1=some .local)
  (h:RA M A first (λx s₁=>RA M A (Vb x) (λit s₂=>RA M A newAcc (λacc s₃=>
   ∀h4,h4.Ns s₃.heap.objs.size (λ_=>none)->(∀b o,s₃.heap.get? b=some o->h4.get? b=some o)->
    Ud M A (.compStart e 0 it acc (compEnv env scope s₃.heap.objs.size)) (λr s'=>∃m,s'.heap.Ns s₃.heap.objs.size m/\∀h',Sr s₃.heap.objs.size s'.heap h'->
     match r with | .ok _=>Q acc {s' with heap:=h'} | .error x=>False) { s₃ with heap:=h4}) E s₂) E s₁) E s) :
  RA M A (T' e scope env pos newAcc false first) Q E s:=by
 unfold T';rw[tm hfr,hcl];refine Ro (RZ h (λx s₁ h₁=>Ro (Tf (Ro (VD (hs x) (Ro (R1 (RZ h₁ (λit s₂ h₂=>
  Xu (Ro (RZ h₂ (λacc s₃ h₃=>Ro (Rv (Ro ?_))) λ_ _ h'=>h')))
   λ_ _ h'=>h'))))))) λ_ _ h'=>h')
 refine V0 hc (λx hx=>nomatch hx) (λh4 hn4 hs4=>?_) hkind;have h₄:=h₃ h4 hn4 λb o e=>hs4.extBut b o (s_ (RE e)) (Rx _ e);dsimp only;have hv:∀x∈(scope.names.filter λx=>(x.2 == .local || x.2 == .cell)&&x.1 !=(".0":Str)).reverse,x.2=.local->
   WZ (compEnv env scope s₃.heap.objs.size) x.1=some .local:=λx hx hl=>by
  show(sU env scope).names.lookup x.1=some .local;rw[o8,hnames x (Nd.mp (PV.mp hx)).1 hl]
  rfl
 refine R1 (Ro (S6 (R1 (wpAny_run (Ul h₄ λr s' hr=>?_)))));obtain⟨m,hn,hr⟩:=hr;cases r with
 |ok f=>exact Ro (R1 (WM (cenv:=compEnv env scope s₃.heap.objs.size) hkind _ s' m hv hn λh' m' _ hs'=>Rv (hr h' hs')))
 |error x=>exact(hr s'.heap (.refl ..)).elim
end
variable {elt iter target:RI}{ifs:List RI}
section
variable{prog:RC}{w:RK}{A:RS}{R:Result->Ru->Prop}{s:Ru}
theorem qE{it acc:Rq}{env:Env}(I:Nat->Ru->Prop)
  (turn:∀n s,I n s->RA (RJ prog w) A (T7 it) (λr s₁=>match r with
   |none=>R (.ok .next) s₁
   |some v=>RA (RJ prog w) A (Uk target it v) (λ_ s₁'=>RA (RJ prog w) A (TQ target env v) (λ_ s₂=>
     RA (RJ prog w) A (forIn ifs true λc r=>if r=true then do let ok <-We c env (RY c env);pure (RQ ok)else pure (RQ r)) (λok s₃=>
      if ok=true then RA (RJ prog w) A (RY elt env) (λx s₄=>
       RA (RJ prog w) A (call (.builtin "list.append") [acc,x]) (λ_ s₅=>∃m,m<n/\I m s₅) (λ_ _=>False) s₄) (λ_ _=>False) s₃
      else ∃m,m<n/\I m s₃) (λ_ _=>False) s₂) (λ_ _=>False) s₁') (λ_ _=>False) s₁) (λ_ _=>False) s)
  (n:Nat) (h:I n s) :
  Ud (RJ prog w) A (.compLoop (.ListComp elt [⟨target,iter,ifs,0⟩] scope pos) 0 it acc env) R s:=by
 refine codeAny_loop rfl I (λn s hI=>?_) n h;show RA _ A ((compTurn (.ListComp elt [⟨target,iter,ifs,0⟩] scope pos) 0 it acc env).onRaise (λx=>do noteFrame x env;theTreesLotGoes x)) _ _ s;refine wpAny_noted ?_;rw[compTurn_list];refine Ro (Tf (Ro (RZ (turn n s hI) (λr s₁ h₁=>?_) λ_ _ h'=>h'.elim)));cases r with
 |none=>exact Rv h₁
 |some v=>
  refine Ro (RZ h₁ (λ_ s₁' h₁'=>?_) λ_ _ h'=>h'.elim);refine Ro (RZ h₁' (λ_ s₂ h₂=>Ro (RZ h₂ (λok s₃ h₃=>?_) λ_ _ h'=>h'.elim)) λ_ _ h'=>h'.elim);cases ok with
  |false=>exact Rv ⟨rfl,h₃⟩
  |true=>
   exact Ro (Ro (RZ h₃ (λx s₄ h₄=>Ro (RZ h₄ (λ_ s₅ h₅=>Rv (Rv ⟨rfl,h₅⟩)) λ_ _ h'=>h'.elim)) λ_ _ h'=>h'.elim))
end
def bH(X:Cx)(N':List Str)(sc:Sl)(s3:Ru)(H3:Hp)(fp:List Rt):Cx where
 prog:=X.prog
 w:=X.w
 K:=X.K
 mg:=X.mg
 base:=X.base
 A:=X.A
 N:=N'
 s₀:=s3
 H₀:=H3
 env:=compEnv X.env sc s3.heap.objs.size
 outer:=X.stack
 stack:=X.stack
 ex:=fp
 calm:=true
 fn:=λ_=>false
 pn:=[]
 xe:=λ_ _=>False
noncomputable def m9(N:List Str)(esc sc:Sl)(N':List Str)(fr:List (Option Nat)):Bool:=
 sc.kind == .function&&esc.kind == .function
 && sc.names.all (λy=>(y.2 != .cell)&&(y.2 != .free || esc.names.lookup y.1 == some .cell)&&(y.2 != .local || sc.names.lookup y.1 == some .local))
 && fr.length == N'.length
 && (w_ N'.length).all (λi=>match fr[i]? with
  |some (some j)=>match N'[i]? with
   |some x=>N[j]? == some x&&sc.names.lookup x == some .free
   |none=>false
  | _=>true)
structure CompOk (N:List Str) (esc sc:Sl) (N':List Str) (fr:List (Option Nat)):Prop where
 kind:sc.kind=.function
 ekind:esc.kind=.function
 nocell:∀x∈sc.names,x.2≠.cell
 free:∀x∈sc.names,x.2=.free->esc.names.lookup x.1=some .cell
 names:∀x∈sc.names,x.2=.local->sc.names.lookup x.1=some .local
 len:fr.length=N'.length
 at_:∀(i j:Nat) (x:Str),fr[i]?=some (some j)->N'[i]?=some x->N[j]?=some x/\sc.names.lookup x=some .free
variable {N N':List Str}{esc:Sl}{fr:List (Option Nat)}
theorem uB(h:m9 N esc sc N' fr=true):CompOk N esc sc N' fr:=by
 unfold m9 at h;simp only[J',beq_iff_eq,NU,NS]at h;obtain⟨⟨⟨⟨h1,h2⟩,h3⟩,h4⟩,h5⟩:=h;refine⟨h1,h2,λx hx=>?_,λx hx e=>?_,λx hx e=>?_,h4,λi j x e1 e2=>?_⟩
 ·have:=(h3 x hx).1.1;simpa using this
 ·have:=(h3 x hx).1.2;rw[e]at this;simpa using this
 ·have:=(h3 x hx).2;rw[e]at this;simpa using this
 have hi:i<N'.length:=(c_.mp e2).1;have q:=h5 i hi;rw[e1,e2]at q;simpa using q
noncomputable def iZ(fr:List (Option Nat))(σ:St):St:=fr.map λo=>match o with
 |some j=>(σ[j]?).join
 |none=>none
variable {X:Cx}
theorem xB{ad:List (Rt×Obj)}{σ:St}{H3:Hp}{s3:Ru}{fp:List Rt}{h4:RM}(I:Inv X ad σ H3 s3)(C:CompOk X.N X.env.scope sc N' fr)(hc:X.calm=true)
  (hfp:∀b∈fp,oB X ad H3 b) (hfo:∀b∈fp,∃o,s3.heap.get? b=some o) (hn:h4.Ns s3.heap.objs.size (λ_=>none)) (hk:∀b o,s3.heap.get? b=some o->h4.get? b=some o) :
  Inv (bH X N' sc s3 H3 fp) [] (iZ fr σ) H3 {s3 with heap:=h4}:=by
 have hfr:∀x∈sc.names,x.2=.free->∃c,X.env.cells.lookup x.1=some c:=λx hx e=>I.ok.has x.1 (.inl (C.free x hx e));have clo:∀{x c},(k9 X.env sc.names []).lookup x=some c->X.env.cells.lookup x=some c:=λ{x c} e=>by
  rcases xw hfr e with⟨h1,_⟩|h
  ·exact h1
  cases h
 have nfs:∀b∈fp,b ∉ frs X.stack:=λb hb z=>by
  obtain⟨_,h1,h2,_⟩:=hfp b hb;rcases n_.mp (I.zG b z)with e|e
  ·exact h1 e
  exact h2 e
 have hfresh:H3 s3.heap.objs.size=none:=I.hok.fresh (b_ _);refine⟨⟨I.ok.mod,C.kind,I.ok.glob,I.ok.blt,b_ _,λx y c e1 e2=>I.ok.inj x y c (clo e1) (clo e2),λx hx=>?_,λx c z=>(nomatch z),λ_=>I.ok.hd hc,I.ok.frames,.inl rfl,λb hb=>⟨?_,λx c e=>?_⟩,λb o e=>I.bs b o e,p_ I.ok.bsz I.sz,λb o e hb=>?_,nfs,I.stack,I.AE⟩,
  rfl,I.bare,Un.kept hk,⟨_,hn,λi x v e1 e2 e3=>?_⟩,λx c e=>?_,hfresh,λx c e=>I.freeC x c (clo e),λp hp=>(nomatch hp),I.hok.kept hk,?_⟩
 ·have hx:(sU X.env sc).names.lookup x=some .cell\/(sU X.env sc).names.lookup x=some .free:=hx;rw[o8]at hx;cases e:sc.names.lookup x with
  |none=>rw[e]at hx;rcases hx with z|z <;> cases z
  |some k=>
   have hm:(x,k)∈sc.names:=SE e;have hk:k=.free:=by
    rw[e]at hx;cases k with
    |free=>rfl
    |cell=>exact absurd rfl (C.nocell _ hm)
    | _=>rcases hx with z|z <;>(simp at z)
   subst hk;obtain⟨c,hc'⟩:=hfr _ hm rfl;exact⟨c,ve hfr hc' hm⟩
 ·obtain⟨o,ho⟩:=hfo b hb;exact s_ (RE ho)
 ·exact(hfp b hb).2.2.2.2.1 x c (clo e)
 ·obtain⟨e1,_⟩:=I.ok.bs b o e;rcases(hfp b hb).2.2.2.1 with z|z
  ·exact I.ok.noex b o e z
  exact absurd (u_ (RE e1) z) (ND _)
 ·have e2:(iZ fr σ)[i]?=some (some v):=e2;unfold iZ at e2;rw[k_]at e2;cases ef:fr[i]? with
  |none=>rw[ef]at e2;cases e2
  |some o=>
   rw[ef]at e2;cases o with
   |none=>cases e2
   |some j=>
    have e2':(σ[j]?).join=some v:=by simpa using e2
    have e2'':σ[j]?=some (some v):=by
     cases q:σ[j]? with
     |none=>rw[q]at e2';cases e2'
     |some z=>rw[q]at e2';exact congrArg some e2'
    obtain⟨hN,hfrx⟩:=C.at_ i j x ef e1;have hm:(x,SH)∈sc.names:=SE hfrx;have hcell:=C.free _ hm rfl;obtain⟨m,_,hl⟩:=I.loc;obtain⟨u,r,l⟩:=hl j x v hN e2'' (.inr (.inl hcell));refine⟨u,r,.inr ⟨.inl ?_,?_⟩⟩
    ·show(sU X.env sc).names.lookup x=some .cell;rw[o8,hfrx];have h1:X.env.kindOf x=some .cell:=hcell;have h2:X.env.scope.kind=.function:=C.ekind;simp[h1,h2]
    rcases l with⟨k,_⟩|⟨_,c,ec,ic⟩
    ·have h1:X.env.kindOf x=some .cell:=hcell;rw[h1]at k;cases k
    obtain⟨o,ho,hd⟩:=ic;exact⟨c,ve hfr ec hm,o,hk c o ho,hd⟩
 ·obtain⟨v,o,ho,hd⟩:=I.cell x c (clo e);exact⟨v,o,hk c o ho,hd⟩
 unfold iZ;rw[a_];exact C.len
def PTs(X:Cx)(ifs:List RI)(t:TT):Prop:=
 ∀(ad:List (Rt×Obj)) (s:Ru) (σ:St) (H:Hp) (Q:Bool->Hp->Prop),Inv X ad σ H s->t σ H Q->
  RA (RJ X.prog X.w) X.A (forIn ifs true λc r=>if r=true then do let ok <-We c X.env (RY c X.env);pure (RQ ok)else pure (RQ r)) (TP X ad σ Q) X.xe s
noncomputable def Mu:TT:=λ_ H Q=>Q true H
theorem F9:PTs X [] Mu:=λad s σ H Q I h=>wpAny_tests_nil ⟨H,I,h⟩
theorem F8{c:RI}{t:TT}(h:PT X c t):PTs X [c] t:=λad s σ H Q I q=>wpAny_tests_one (h ad s σ H Q I q)
def KH(J:It)(fr:List (Option Nat))(g:Ru->Hp->List Rt->TG)(tt:Ru->Hp->List Rt->TT)(te:Ru->Hp->List Rt->TE)(σ:St)(H1:Hp)(Q:VK):Prop:=∀p,H1 p=none->∀s3 H3' fp,∃W:Nat->Nat->St->Hp->Prop,(∃m,W 0 m (iZ fr σ) (upd H1 p (.lst [])))/\∀i m cr H',W i m cr H'->
 (J.stop i H'/\Q (.ref p) H')\/(J.go i H'/\∀x H2,J.yld i H' x H2->g s3 H3' fp x cr H2 λσ2 H3=>tt s3 H3' fp σ2 H3 λb H4=>
  if b=true then te s3 H3' fp σ2 H4 λv H5=>∃ys,H5 p=some (.lst ys)/\ys.length<sizeLine/\∃m',m'<m/\W (i+1) m' σ2 (upd H5 p (.lst (ys++[v])))else ∃m',m'<m/\W (i+1) m' σ2 H4)
def AD(wi:TI)(fr:List (Option Nat))(g:Ru->Hp->List Rt->TG)(tt:Ru->Hp->List Rt->TT)(te:Ru->Hp->List Rt->TE):TE:=λσ H Q=>wi σ H λJ H1=>KH J fr g tt te σ H1 Q
variable {te:Ru->Hp->List Rt->TE}{tt:Ru->Hp->List Rt->TT}{wi:TI}
theorem GK(N':List Str)(fr:List (Option Nat)){g:Ru->Hp->List Rt->TG}(hc:X.calm=true)(C:m9 X.N X.env.scope sc N' fr=true)
  (hi:PI X target iter wi) (hg:∀s3 H3 fp,PG (bH X N' sc s3 H3 fp) target (g s3 H3 fp)) (ht:∀s3 H3 fp,PTs (bH X N' sc s3 H3 fp) ifs (tt s3 H3 fp)) (he:∀s3 H3 fp,PE (bH X N' sc s3 H3 fp) elt (te s3 H3 fp))
  (hs:∀x,Sh iter X.env x=pure x:=by intro _;rfl):PE X (.ListComp elt [⟨target,iter,ifs,0⟩] sc pos) (AD wi fr g tt te):=by
 have C:=uB C;intro ad s σ H Q I h;rw[eval_ListComp];have hfr:∀x∈sc.names,x.2=.free->∃c,X.env.cells.lookup x.1=some c:=λx hx e=>I.ok.has x.1 (.inl (C.free x hx e));refine pM (g:=⟨target,iter,ifs,0⟩) (gs:=[]) rfl hs C.nocell hfr C.kind C.names ?_;show RA _ _ (RY iter X.env) _ _ s;refine thn (hi ad s σ H _ I h) λv s1 h1=>thn h1 λitv s2 h2=>?_;obtain⟨it,fp,tn,J,H2,e,I2,T,ii,f2,k2⟩:=h2;subst e;refine U0 ?_ (by show 0<=sizeLine;decide);have hf:H2 s2.heap.objs.size=none:=I2.hok.fresh (b_ _);obtain⟨W,⟨m0,w0⟩,turn⟩:=k2 _ hf {s2 with heap:=s2.heap.push { cls:=.type "list",data:=.seq ([]:List Rq).toArray} } (upd H2 s2.heap.objs.size (.lst [])) fp;have kp:∀b u,s2.heap.get? b=some u->(s2.heap.push { cls:=.type "list",data:=.seq ([]:List Rq).toArray}).get? b=some u:=λb u e=>Rx _ e;have I3:Inv X ad σ (upd H2 s2.heap.objs.size (.lst [])) {s2 with heap:=s2.heap.push { cls:=.type "list",data:=.seq ([]:List Rq).toArray} }:=
  I2.laid (t':=s2.toks) kp (b_ _) ⟨A_ _,[],0,.nil,RF _ rfl⟩
 have obj2:=T.obj 0 s2.heap ii;have fpne:∀b∈fp,b≠s2.heap.objs.size:=λb hb=>by obtain⟨o,ho,_⟩:=obj2 b hb;exact s_ (RE ho)
 have f3:∀b∈fp,oB X ad (upd H2 s2.heap.objs.size (.lst [])) b:=λb hb=>⟨by rw[aS (fpne b hb)];exact(f2 b hb).1,(f2 b hb).2⟩
 have io:=T.keep 0 s2.heap _ ii λb hb o e=>kp b o e;have obj3:=T.obj 0 _ io;intro h4 hn4 hk4;have st4:=T.keep 0 _ h4 io λb hb o e=>hk4 b o e;have I4:=xB (N':=N') (fr:=fr) (fp:=fp) I3 C hc f3 (λb hb=>let ⟨o,ho,_⟩:=obj3 b hb;⟨o,ho⟩) hn4 hk4;have stat:∀{H':Hp},(∀b∈fp,H' b=none)->∀b∈fp,oB (bH X N' sc {s2 with heap:=s2.heap.push { cls:=.type "list",data:=.seq ([]:List Rq).toArray} } (upd H2 s2.heap.objs.size (.lst [])) fp) [] H' b:=λhn b hb=>
  ⟨hn b hb,(I4.ok.exf b hb).1,I4.ok.exfs b hb,.inl hb,(I4.ok.exf b hb).2,λp hp=>(nomatch hp)⟩
 have loop:Ud (RJ X.prog X.w) X.A (.compLoop (.ListComp elt [⟨target,iter,ifs,0⟩] sc pos) 0 (.ref it) (.ref s2.heap.objs.size) (compEnv X.env sc (s2.heap.push { cls:=.type "list",data:=.seq ([]:List Rq).toArray}).objs.size))
   (λr s'=>∃m,s'.heap.Ns (s2.heap.push { cls:=.type "list",data:=.seq ([]:List Rq).toArray}).objs.size m/\∀h',Sr (s2.heap.push { cls:=.type "list",data:=.seq ([]:List Rq).toArray}).objs.size s'.heap h'->
    match r with | .ok _=>EP X ad σ Q (.ref s2.heap.objs.size) {s' with heap:=h'} | .error x=>False) {s2 with heap:=h4}:=by
  refine qE (λn s'=>∃i cr H',Inv (bH X N' sc {s2 with heap:=s2.heap.push { cls:=.type "list",data:=.seq ([]:List Rq).toArray} } (upd H2 s2.heap.objs.size (.lst [])) fp) [] cr H' s'/\tn i s'.heap/\(∀b∈fp,H' b=none)/\W i n cr H') ?_ m0
   ⟨0,_,_,I4,st4,λb hb=>(f3 b hb).1,w0⟩
  rintro n s5 ⟨i,σ5,H5,I5,st5,fr5,w5⟩;rcases turn i n σ5 H5 w5 with⟨stop,q⟩|⟨go,step⟩
  ·refine thn (T.done (bH X N' sc _ _ fp) rfl rfl rfl rfl i [] s5 σ5 H5 (λ_ _=>False) I5 (stat fr5) st5 stop) ?_;rintro r s6 ⟨hr,I6⟩;subst hr;obtain⟨m6,hn6,_⟩:=id I6.loc;refine⟨m6,hn6,λh' hs'=>?_⟩;have hL:H5 (s2.heap.push { cls:=.type "list",data:=.seq ([]:List Rq).toArray}).objs.size=none:=I6.free;have hok':HOk X.prog X.w H5 h':=λb u e=>by
    refine(I6.hok b u e).pD (λc v hc q=>(hs'.2 c ?_).trans q) (λ_ q=>q) λ_ _ q=>q;rintro rfl;rcases hc with rfl|hc
    ·rw[hL]at e;cases e
    rw[hL]at hc;cases hc
   have ub:=I6.base;have lt:∀b o,(s2.heap.push { cls:=.type "list",data:=.seq ([]:List Rq).toArray}).get? b=some o->b≠(s2.heap.push { cls:=.type "list",data:=.seq ([]:List Rq).toArray}).objs.size:=λb o e=>s_ (RE e);have un:Un (frs X.stack) fp (upd H2 s2.heap.objs.size (.lst [])) H5 (s2.heap.push { cls:=.type "list",data:=.seq ([]:List Rq).toArray}) h':=
    ⟨λb o e n hb hx=>(hs'.2 b (lt b o e)).trans (ub.keep b o e n hb hx),λb o e n hb hx=>let ⟨sl,z⟩:=ub.slot b o e n hb hx;⟨sl,(hs'.2 b (lt b o e)).trans z⟩,ub.free,
     λb o e hx=>let ⟨o',z⟩:=ub.there b o e hx;⟨o',(hs'.2 b (lt b o e)).trans z⟩,ub.tups,ub.frzs,ub.tbls⟩
   refine⟨.ref s2.heap.objs.size,H5,I3.HN (s':={s6 with heap:=h'}) (ch:=fp) I6.os un hok' I6.bare (λb hb=>?_),rfl,q⟩;obtain⟨_,g1,g2,g3,g4,g5⟩:=f3 b hb;exact⟨g3,g1,g4,g5⟩
  refine thn (T.item (bH X N' sc _ _ fp) rfl rfl rfl rfl i [] s5 σ5 H5 (λ_ _=>False) I5 (stat fr5) st5 go) ?_;rintro r s6 ⟨u,hr,h6⟩;subst hr;refine thn h6 ?_;rintro _ s7 ⟨x,H7,I7,r7,y7,st7,fr7⟩;have I7':=I7.pinned (stat fr7) (T.obj _ _ st7);have Vs:∀{σ8:St}{H8:Hp}{s8:Ru},Inv (bH X N' sc {s2 with heap:=s2.heap.push { cls:=.type "list",data:=.seq ([]:List Rq).toArray} } (upd H2 s2.heap.objs.size (.lst [])) fp) ([]++pU fp s7.heap) σ8 H8 s8->(∃m',m'<n/\W (i+1) m' σ8 H8)->
    ∃m,m<n/\∃i cr H',Inv (bH X N' sc {s2 with heap:=s2.heap.push { cls:=.type "list",data:=.seq ([]:List Rq).toArray} } (upd H2 s2.heap.objs.size (.lst [])) fp) [] cr H' s8/\tn i s8.heap/\(∀b∈fp,H' b=none)/\W i m cr H':=λ{σ8 H8 s8} I8 ⟨m',hm,w8⟩=>by
   refine⟨m',hm,i+1,σ8,H8,I8.mK,T.keep _ _ _ st7 λb hb o e=>(I8.pin (b,o) (r_ _ (r_ _ (jn hb e)))).1,λb hb=>?_,w8⟩;obtain⟨o,e,d⟩:=T.obj _ _ st7 b hb;exact(I8.pin (b,o) (r_ _ (r_ _ (jn hb e)))).2.1
  refine thn (hg _ _ fp _ s7 σ5 H7 x u _ I7' r7 (step x H7 y7)) ?_;rintro _ s8 ⟨σ8,H8,I8,q8⟩;refine thn (ht _ _ fp _ s8 σ8 H8 _ I8 q8) ?_;rintro ok s9 ⟨H9,I9,q9⟩;cases ok with
  |false=>exact Vs I9 q9
  |true=>
   refine thn (he _ _ fp _ s9 σ8 H9 _ I9 q9) ?_;rintro y s10 ⟨v,H10,I10,r10,ys,hys,hl,q10⟩;refine thn (qq _ s10 σ8 H10 (.ref s2.heap.objs.size) [v] (.ref s2.heap.objs.size) [y] (λ_ H'=>∃m',m'<n/\W (i+1) m' σ8 H') I10 rfl (.cons r10 .nil) ⟨_,ys,v,rfl,rfl,hys,hl,q10⟩) ?_;rintro z s11 ⟨_,H11,I11,_,q11⟩;exact Vs I11 q11
 refine VE loop ?_;exact T.self X.A 0 _ _ _ st4 loop
def SqG(b:Bool)(K:Rr)(H:Hp)(a:Rt)(xs:List V):Prop:=match b with
 |true=>SqT K H a xs
 |false=>SqL K H a xs
variable {a:Rt}{b:Bool}{xs:List V}
section
variable{X:Cx}{ad:List (Rt×Obj)}{σ:St}{H:Hp}{s:Ru}
theorem Inv.sq (I:Inv X ad σ H s)(h:SqG b X.K H a xs):∃be:List Rq,Vals xs be/\ZG.Sq b s.heap a be.toArray/\xs.length<=sizeLine:=by
 cases b with
 |true=>exact I.tuple h
 |false=>
  obtain⟨be,r,p,z⟩:=I.list h;exact⟨be,r,p.isList,z⟩
theorem Inv.yq (I:Inv X ad σ H s){ys:List V}(h:SqG b X.K H a xs)(h':SqG b X.K H a ys):xs=ys:=by
 cases b with
 |true=>exact I.pP h h'
 |false=>exact I.wD h h'
theorem Inv.Ic (I:Inv X ad σ H s){b:Rt}{u:HO}(h:Rd H a u)(f:oB X ad H b):a≠b:=by
 rintro rfl;rcases h with h|⟨o,h⟩
 ·rw[f.1]at h;cases h
 rw[f.1]at h;cases h
theorem Inv.L4 (I:Inv X ad σ H s){b:Rt}{o:Obj}(h:X.K.lookup a=some o)(f:oB X ad H b):a≠b:=by
 rintro rfl;have e:X.base.get? a=some o:=I.ok.mod.kin a o h;rcases f.2.2.2.1 with z|z
 ·exact I.ok.noex a o e z
 exact absurd (u_ (RE (I.ok.bs a o e).1) z) (ND _)
theorem Inv.j9 (I:Inv X ad σ H s){c:Rt}(h:SqG b X.K H a xs)(f:oB X ad H c):a≠c:=by
 cases b with
 |true=>
  rcases h with h|⟨o,be,n,hk,_⟩
  ·exact I.Ic h f
  ·exact I.L4 hk f
 |false=>
  rcases h with h|⟨o,be,n,hk,_⟩
  ·exact I.Ic h f
  exact I.L4 hk f
end
def Itz(K:Rr)(b1:Bool)(a1:Rt)(b2:Bool)(a2:Rt):It:=
  ⟨λi H=>∃xs ys x y,SqG b1 K H a1 xs/\SqG b2 K H a2 ys/\xs[i]?=some x/\ys[i]?=some y,
   λi H v H'=>∃p x y,H p=none/\v=.ref p/\H'=upd H p (.tup [x,y])/\(∀xs,SqG b1 K H a1 xs->xs[i]?=some x)/\∀ys,SqG b2 K H a2 ys->ys[i]?=some y,
   λi H=>∃xs ys,SqG b1 K H a1 xs/\SqG b2 K H a2 ys/\(xs.length<=i\/ys.length<=i)⟩
structure Off5 (z TI TO i1 i2:Rt):Prop where
 a1:TI≠z
 a2:TO≠z
 a3:i1≠z
 a4:i2≠z
 a5:TI≠TO
 a6:TI≠i1
 a7:TI≠i2
 a8:TO≠i1
 a9:TO≠i2
 b1:i1≠i2
variable {K:Rr}{P:RC}{es:List RI}{w:RK}
theorem Ea{x1:Nat}{tp:Pos}(b1:Bool)(a1:Rt)(b2:Bool)(a2 z TI TO i1 i2:Rt)(D:Off5 z TI TO i1 i2) :
  Turn P w K (.Tuple es x1 tp) (Itz K b1 a1 b2 a2) [z,TI,TO,i1,i2] z (λi h=>Tt h z TI TO .none/\SF h TI (.ref i1) (.ref i2)/\(∃a b,SF h TO a b)/\ZG.Dr b1 h i1 a1 i/\ZG.Dr b2 h i2 a2 i) where
 mem:=by simp
 obj:=λi h st b hb=>by
  obtain⟨hz,hi,⟨a,c,ho⟩,d1,d2⟩:=st;have hb:b=z\/b=TI\/b=TO\/b=i1\/b=i2:=by simpa using hb
  rcases hb with rfl|rfl|rfl|rfl|rfl
  ·exact⟨_,hz,λv e=>by cases (show Wz _=Vr v from e)⟩
  ·exact⟨_,hi,λv e=>by cases (show XH _ _=Vr v from e)⟩
  ·exact⟨_,ho,λv e=>by cases (show XH _ _=Vr v from e)⟩
  ·exact d1.some
  exact d2.some
 keep:=λi h h' st k=>by obtain⟨hz,hi,⟨a,c,ho⟩,d1,d2⟩:=st;exact⟨k z (by simp) _ hz,k TI (by simp) _ hi,⟨a,c,k TO (by simp) _ ho⟩,d1.at λo e=>k i1 (by simp) o e,d2.at λo e=>k i2 (by simp) o e⟩
 item:=by
  intro X hP hw hK hc i ad s σ H E I hf st hg;subst hP hw hK;obtain⟨xs,ys,x,y,q1,q2,hx,hy⟩:=hg;obtain⟨be,rv,p1,z1⟩:=I.sq q1;obtain⟨jts,sv,p2,z2⟩:=I.sq q2;obtain⟨u,hu,ru⟩:=rv.get hx;obtain⟨v,hv,rw'⟩:=sv.get hy;obtain⟨hz,hi,⟨a,c,ho⟩,d1,d2⟩:=st;have fz:=hf z (by simp);have fTI:=hf TI (by simp);have fTO:=hf TO (by simp);have f1:=hf i1 (by simp);have f2:=hf i2 (by simp);have DD:ZG.Off z TI TO i1 i2 a1 a2:=⟨D.a1,D.a2,D.a3,D.a4,D.a5,D.a6,D.a7,D.a8,D.a9,D.b1,I.j9 q1 fz,I.j9 q1 fTO,I.j9 q1 f1,I.j9 q1 f2,I.j9 q2 fz,I.j9 q2 fTO,I.j9 q2 f1,I.j9 q2 f2⟩;refine ZG.wY DD hz hi ho d1 d2 p1 p2 (by simpa using hu) (by simpa using hv) λg gz gO g1 g2 gT gs gk=>⟨_,rfl,?_⟩
  refine wpAny_letOwnedTupleGo_zip (s:={s with heap:=g}) gz λh' hz' hs'=>?_;have hfresh:H s.heap.objs.size=none:=I.hok.fresh (b_ _);have zT:s.heap.objs.size≠z:=OF (RE hz);have kp:∀b o,b ∉ [z,TI,TO,i1,i2]->s.heap.get? b=some o->h'.get? b=some o:=λb o hb e=>by
   have n:b≠z/\b≠TI/\b≠TO/\b≠i1/\b≠i2:=by simpa using hb
   exact hs'.extBut _ _ n.1 (gk b o n.1 n.2.2.1 n.2.2.2.1 n.2.2.2.2 e)
  have hT:h'.get? s.heap.objs.size=some { cls:=.type "tuple",data:=.seq #[u,v] }:=hs'.extBut _ _ zT gT;have notfp:∀b o,H b=some o->b ∉ [z,TI,TO,i1,i2]:=λb o e hb=>by have:=(hf b hb).1;rw[e]at this;cases this
  have ne:∀b o,s.heap.get? b=some o->b≠s.heap.objs.size:=λb o e=>s_ (RE e);have nt:∀b o,H b=some o->b≠s.heap.objs.size:=λb o e=>gy e hfresh;have I1:Inv X ad σ (upd H s.heap.objs.size (.tup [x,y])) {s with heap:=h'}:=by
   refine I.step (g':=s.gens) (d':=s.drawn) (t':=s.toks) (ch:=[z,TI,TO,i1,i2]) (λb hb=>?_) (λb o _ _ hc e _=>kp b o hc e) (λb o _ _ hc e _=>⟨o.slots,kp b o hc e⟩)
    (λb o _ e n=>by rw[aS (ne b o e)];exact n) (λb o hc e=>⟨o,kp b o hc e⟩) (λb zs e=>by rw[aS (nt b _ e)];exact e) (λb o u e=>by rw[aS (nt b _ e)];exact e)
    (λb ps e=>⟨#[],by rw[aS (nt b _ e),e];simp⟩) (λm hm=>?_) (λb o e=>?_) I.bare
   ·obtain⟨g0,g1,g2,g3,g4,g5⟩:=hf b hb;exact⟨g3,g1,g4,g5⟩
   ·obtain⟨o,es,ep,ho',r⟩:=hm;exact⟨o,es,ep,kp _ o (λhb=>(hf _ hb).2.1 rfl) ho',r⟩
   by_cases hb:b=s.heap.objs.size
   ·subst hb;rw[ba]at e;cases e;exact⟨by show 2<=sizeLine;decide,[u,v],.cons ru (.cons rw' .nil),_,hT,rfl,_,rfl⟩
   rw[aS hb]at e;refine(I.hok b o e).pD (λc' w' hc' q=>kp c' w' ?_ q) (λc' q=>by rw[aS (nt c' _ q)];exact q) λc' zs q=>by rw[aS (nt c' _ q)];exact q
   rcases hc' with rfl|hc'
   ·exact notfp _ _ e
   exact notfp _ _ hc'
  refine⟨.ref s.heap.objs.size,_,I1,rfl,⟨s.heap.objs.size,x,y,hfresh,rfl,rfl,λzs hq=>by rw[I.yq hq q1];exact hx,λzs hq=>by rw[I.yq hq q2];exact hy⟩,?_,λb hb=>?_⟩
  ·exact⟨hz',hs'.extBut _ _ D.a1 (gk _ _ D.a1 D.a5 D.a6 D.a7 hi),⟨_,_,hs'.extBut _ _ D.a2 gO⟩,g1.ext hs'.extBut D.a3,g2.ext hs'.extBut D.a4⟩
  have hb0:=(hf b hb).1;have hb':b=z\/b=TI\/b=TO\/b=i1\/b=i2:=by simpa using hb
  have li:∃o,s.heap.get? b=some o:=by
   rcases hb' with rfl|rfl|rfl|rfl|rfl
   ·exact⟨_,hz⟩
   ·exact⟨_,hi⟩
   ·exact⟨_,ho⟩
   ·obtain⟨o,e,_⟩:=d1.some;exact⟨o,e⟩
   obtain⟨o,e,_⟩:=d2.some;exact⟨o,e⟩
  obtain⟨o,e⟩:=li;rw[aS (ne b o e)];exact hb0
 done:=by
  intro X hP hw hK hc i ad s σ H E I hf st hg;subst hP hw hK;obtain⟨xs,ys,q1,q2,hn⟩:=hg;obtain⟨be,rv,p1,z1⟩:=I.sq q1;obtain⟨jts,sv,p2,z2⟩:=I.sq q2;obtain⟨hz,hi,⟨a,c,ho⟩,d1,d2⟩:=st;have fz:=hf z (by simp);have fTI:=hf TI (by simp);have fTO:=hf TO (by simp);have f1:=hf i1 (by simp);have f2:=hf i2 (by simp);have DD:ZG.Off z TI TO i1 i2 a1 a2:=⟨D.a1,D.a2,D.a3,D.a4,D.a5,D.a6,D.a7,D.a8,D.a9,D.b1,I.j9 q1 fz,I.j9 q1 fTO,I.j9 q1 f1,I.j9 q1 f2,I.j9 q2 fz,I.j9 q2 fTO,I.j9 q2 f1,I.j9 q2 f2⟩;have l1:=rv.length;have l2:=sv.length;refine ZG.yD (I.ok.hd hc) DD hz hi ho d1 d2 p1 p2 (hn.elim (λz=>.inl (by simp;omega)) λz=>.inr (by simp;omega)) λg gk=>⟨rfl,?_⟩
  have kp:∀b o,b ∉ [z,TI,TO,i1,i2]->s.heap.get? b=some o->g.get? b=some o:=λb o hb e=>by
   have n:b≠z/\b≠TI/\b≠TO/\b≠i1/\b≠i2:=by simpa using hb
   exact gk b o n.1 n.2.2.1 n.2.2.2.1 n.2.2.2.2 e
  have notfp:∀b o,H b=some o->b ∉ [z,TI,TO,i1,i2]:=λb o e hb=>by have:=(hf b hb).1;rw[e]at this;cases this
  refine I.step (g':=s.gens) (d':=s.drawn) (t':=s.toks) (ch:=[z,TI,TO,i1,i2]) (λb hb=>?_) (λb o _ _ hc e _=>kp b o hc e) (λb o _ _ hc e _=>⟨o.slots,kp b o hc e⟩)
   (λb o _ e n=>n) (λb o hc e=>⟨o,kp b o hc e⟩) (λb zs e=>e) (λb o u e=>e) (λb ps e=>⟨#[],by rw[e];simp⟩) (λm hm=>?_) (λb o e=>?_) I.bare
  ·obtain⟨g0,g1,g2,g3,g4,g5⟩:=hf b hb;exact⟨g3,g1,g4,g5⟩
  ·obtain⟨o,es,ep,ho',r⟩:=hm;exact⟨o,es,ep,kp _ o (λhb=>(hf _ hb).2.1 rfl) ho',r⟩
  refine(I.hok b o e).pD (λc' w' hc' q=>kp c' w' ?_ q) (λc' q=>q) λc' zs q=>q;rcases hc' with rfl|hc'
  ·exact notfp _ _ e
  exact notfp _ _ hc'
 self:=λ_ _ _ _ _ st h=>WN st.1 h
def Mk(K:Rr)(ta:TA):TI:=λσ H R=>ta σ H λvs H1=>∃b1 a1 b2 a2,vs=[.ref a1,.ref a2]/\(∃xs,SqG b1 K H1 a1 xs)/\(∃ys,SqG b2 K H1 a2 ys)/\R (Itz K b1 a1 b2 a2) H1
theorem K7{x1:Nat}{tp:Pos}{a b:RI}{ta:TA}{p:Pos}(hg:Gl X "zip")(hm:X.mg "zip"=none)(ha:PA X [a,b] ta)(hs:RN [a,b] X.env=[(false,RY a X.env),(false,RY b X.env)]:=by rfl)(hs2:RN [b] X.env=[(false,RY b X.env)]:=by rfl) :
  PI X (.Tuple es x1 tp) (.Call (.Name "zip" p) [a,b] [] pos) (Mk X.K ta):=by
 intro ad s σ H R I h;refine X' (lH I hg hm boot_zip (Sz (thn (ha pos ad s σ H _ I h) λus s1 ⟨vs,H1,I1,r1,q1⟩=>?_) (by rw[hs,hs2]) (by rw[hs2];rfl)));obtain⟨b1,a1,b2,a2,e,⟨xs,q1⟩,⟨ys,q2⟩,q⟩:=q1;subst e;cases r1 with
 |cons r rr=>
  cases rr with
  |cons r' rr=>
   cases rr;cases r;cases r';obtain⟨be,rv,p1,z1⟩:=I1.sq q1;obtain⟨jts,sv,p2,z2⟩:=I1.sq q2;refine ZG.CG p1 p2 λg gz gi go g1 g2 gs gk=>WN (s:={s1 with heap:=g}) gz ?_;have I2:Inv X ad σ H1 {s1 with heap:=g}:=I1.kept (t':=s1.toks) gk;refine⟨_,_,_,_,H1,rfl,I2,Ea b1 a1 b2 a2 _ (s1.heap.objs.size+2) (s1.heap.objs.size+3) s1.heap.objs.size (s1.heap.objs.size+1) ?_,⟨gz,gi,⟨_,_,go⟩,g1,g2⟩,λb hb=>?_,q⟩
   ·constructor <;>(show(_:Nat)≠_) <;> omega
   have hb':s1.heap.objs.size<=b:=by
    have z:b=s1.heap.objs.size+4\/b=s1.heap.objs.size+2\/b=s1.heap.objs.size+3\/b=s1.heap.objs.size\/b=s1.heap.objs.size+1:=by simpa using hb
    rcases z with z|z|z|z|z <;> rw[z] <;>(show(_:Nat)<=_) <;> omega
   exact I1.qM hb' (I1.hok.fresh hb')
noncomputable def bools(bs:List Bool):List V:=bs.map V.bl
variable {i:Nat}
theorem u7{bs:List Bool}{us:List Rq}(r:Vals (bools bs) us){u:Rq}(h:us[i]?=some u):∃b,bs[i]?=some b/\u=.bool b:=by
 have hl:=r.length;have hi:i<us.length:=(c_.mp h).1;have hb:i<bs.length:=by rw[<-hl]at hi;simpa[bools]using hi
 have e:(bools bs)[i]?=some (.bl bs[i]):=by unfold bools;rw[k_,d_ hb];rfl
 obtain⟨u',h',ru⟩:=r.get e;rw[h]at h';cases h';exact⟨bs[i],d_ hb,ru⟩
theorem zL(bs:List Bool):((w_ bs.length).all λi=>(bs[i]?).getD true)=bs.all id:=by
 have e:bs=(w_ bs.length).map λi=>(bs[i]?).getD true:=by
  apply PX
  ·simp
  intro i h1 h2;simp[h1]
 conv=>rhs;rw[e,NV]
 rfl
theorem yK(bs:List Bool):((w_ bs.length).any λi=>(bs[i]?).getD true)=bs.any id:=by
 have e:bs=(w_ bs.length).map λi=>(bs[i]?).getD true:=by
  apply PX
  ·simp
  intro i h1 h2;simp[h1]
 conv=>rhs;rw[e,PY]
 rfl
section
variable{X:Cx}
theorem Ez(hc:X.calm=true):dJ X (.builtin "all") (λxs H Q=>∃a bs,xs=[.ref a]/\SqL X.K H a (bools bs)/\Q (.bl (bs.all id)) H):=by
 intro ad s σ H xs us Q I r h;obtain⟨a,bs,rfl,hq,q⟩:=h;obtain⟨u,rfl,ru⟩:=vals1 r;cases ru;obtain⟨be,rv,p,z⟩:=I.list hq;have hl:=p.isList;have li:a<s.heap.objs.size:=by obtain⟨_,e,_⟩:=hl;exact RE e
 have hlen:be.toArray.size=bs.length:=by rw[g_,<-rv.length];simp[bools]
 refine call_all_walk (Sy hl ⟨s.heap.objs.size,[s.heap.objs.size,a],[s.heap.objs.size],be.toArray.size,_,_,λi=>(bs[i]?).getD true,rfl,Ya (A:=X.A.in1) (I.ok.hd hc) _ a (s_ li) be.toArray,⟨⟨_,RF _ rfl,rfl,rfl⟩,hl.push _⟩,λi v s' Q' E' hP hQ=>?_,λh' tk hk=>?_⟩)
 ·obtain⟨b,e,rfl⟩:=u7 rv (i:=i) (u:=v) (by simpa using hP);simp only[e,NW]at hQ;exact Sf hQ
 rw[hlen,zL];exact⟨.bl (bs.all id),H,I.kept (t':=tk) (Xv hk),rfl,q⟩
theorem C9(hc:X.calm=true):dJ X (.builtin "any") (λxs H Q=>∃a bs,xs=[.ref a]/\SqL X.K H a (bools bs)/\Q (.bl (bs.any id)) H):=by
 intro ad s σ H xs us Q I r h;obtain⟨a,bs,rfl,hq,q⟩:=h;obtain⟨u,rfl,ru⟩:=vals1 r;cases ru;obtain⟨be,rv,p,z⟩:=I.list hq;have hl:=p.isList;have li:a<s.heap.objs.size:=by obtain⟨_,e,_⟩:=hl;exact RE e
 have hlen:be.toArray.size=bs.length:=by rw[g_,<-rv.length];simp[bools]
 refine call_any_walk (Sy hl ⟨s.heap.objs.size,[s.heap.objs.size,a],[s.heap.objs.size],be.toArray.size,_,_,λi=>(bs[i]?).getD true,rfl,Ya (A:=X.A.in1) (I.ok.hd hc) _ a (s_ li) be.toArray,⟨⟨_,RF _ rfl,rfl,rfl⟩,hl.push _⟩,λi v s' Q' E' hP hQ=>?_,λh' tk hk=>?_⟩)
 ·obtain⟨b,e,rfl⟩:=u7 rv (i:=i) (u:=v) (by simpa using hP);simp only[e,NW]at hQ;exact Sf hQ
 rw[hlen,yK];exact⟨.bl (bs.any id),H,I.kept (t':=tk) (Xv hk),rfl,q⟩
end
inductive Ty where
 |non|bl|int|str|lst|tup|dct
 deriving DecidableEq
noncomputable def Ty.nm:Ty->String
 | .non=>"NoneType"
 | .bl=>"bool"
 | .int=>"int"
 | .str=>"str"
 | .lst=>"list"
 | .tup=>"tuple"
 | .dct=>"dict"
noncomputable def isA(t c:Ty):Bool:=decide (t=c) || (decide (t=.bl)&&decide (c=.int))
inductive TyG (K:Rr) (H:Hp):V->Ty->Prop where
 |non:TyG K H .non .non
 |bl (b:Bool):TyG K H (.bl b) .bl
 |int (i:Int):TyG K H (.int i) .int
 |str (x:Str):TyG K H (.str x) .str
 |lst {a:Rt}{xs:List V} (h:SqL K H a xs):TyG K H (.ref a) .lst
 |tup {a:Rt}{xs:List V} (h:SqT K H a xs):TyG K H (.ref a) .tup
 |dct {a:Rt}{am:List (Key×V)} (h:Rd H a (.dK am)):TyG K H (.ref a) .dct
theorem Az(K:Rr)(t c:Ty):PySem.W.kitOne K (.type t.nm) (.type c.nm)=some (isA t c):=by cases t <;> cases c <;> kernel_rfl
theorem AV(K:Rr)(t:Ty):∀cs:List Ty,Xh K (.type t.nm) (cs.map λc=>Ui c.nm)=some (cs.any (isA t))
 | []=>rfl
 |c::r=>by
  rw[e_,Pm];unfold Xh;rw[Az];cases isA t c with
  |true=>rfl
  |false=>exact AV K t r
section
variable{X:Cx}{ad:List (Rt×Obj)}{σ:St}{H:Hp}{s:Ru}{A:RS}{E:Rq->Ru->Prop}{Q:Rq->Ru->Prop}
theorem Vals.tys:∀{cs:List Ty}{us:List Rq},Vals (cs.map λc=>V.ty c.nm) us->us=cs.map λc=>Ui c.nm
 | [],_,.nil=>rfl
 |c::r,_,.cons h t=>by have e:_=Ui c.nm:=h;rw[e_,<-Vals.tys t,e]
def AN(K:Rr)(H:Hp)(y:V)(cs:List Ty):Prop:=(∃c,y=.ty c.nm/\cs=[c])\/∃p,y=.ref p/\H p=some (.tup (cs.map λc=>V.ty c.nm))
theorem EZ{x y:V}{u v:Rq}{t:Ty}{cs:List Ty}(I:Inv X ad σ H s)(rx:RelV x u)(ry:RelV y v)(ty:TyG X.K H x t)(ka:AN X.K H y cs)(h:∀tk,Q (.bool (cs.any (isA t))) {s with toks:=tk}) :
  RA (RJ X.prog X.w) A (call (.builtin "isinstance") [u,v]) Q E s:=by
 have go:∀{P:RM->Prop},PySem.W.KitX X.K u (.type t.nm) P->P s.heap->u≠.builtin "__main__.__loader__#opaque"->RA (RJ X.prog X.w) A (call (.builtin "isinstance") [u,v]) Q E s:=λ{P} Z p hx=>by
  rcases ka with⟨c,rfl,rfl⟩|⟨q,rfl,hq⟩
  ·cases (show v=Ui c.nm from ry);have e:([c].any (isA t))=isA t c:=by simp
   exact PySem.W.kia_one Z I.kIn p (Az X.K t c) hx (λtk=>by rw[<-e];exact h tk)
  cases (show v=RV q from ry);obtain⟨_,be,rv,o,ho,hc,n,hd⟩:=(show cV X.prog X.w H s.heap q (.tup _)from I.hok q _ hq);have e:=rv.tys;subst e;obtain⟨c,dd,dt,sl⟩:=o;cases (show c=_ from hc);cases (show dt=_ from hd);exact PySem.W.kia_tup Z I.kIn p ho (AV X.K t cs) hx h
 cases ty with
 |non=>cases (show u=R4 from rx);exact go PySem.W.kitx_none SG (λz=>nomatch z)
 |bl y=>cases (show u=VR y from rx);exact go PySem.W.kitx_bool SG (λz=>nomatch z)
 |int i=>obtain⟨t,q⟩:=(show ∃t,u=TM i t from rx);cases q;exact go PySem.W.kitx_int SG (λz=>nomatch z)
 |str y=>obtain⟨t,q⟩:=(show ∃t,u=Wd y t from rx);cases q;exact go PySem.W.kitx_str SG (λz=>nomatch z)
 | @lst a xs hq=>
  cases (show u=RV a from rx);obtain⟨_,_,p,_⟩:=I.list hq;obtain⟨o,h1,h2,_⟩:=p.isList;exact go PySem.W.kitx_list ⟨o,h1,h2⟩ (λz=>nomatch z)
 | @tup a xs hq=>
  cases (show u=RV a from rx);obtain⟨_,_,p,_⟩:=I.tuple hq;obtain⟨o,h1,h2,_⟩:=p;exact go PySem.W.kitx_tuple ⟨o,h1,h2⟩ (λz=>nomatch z)
 | @dct a am hq=>
  cases (show u=RV a from rx);obtain⟨_,_,vs,_,p⟩:=(show cV X.prog X.w H s.heap a (.dK am)from hq.ok I.hok);obtain⟨o,es,ep,h1,h2,_⟩:=p;exact go PySem.W.kitx_dict ⟨o,h1,h2.1⟩ (λz=>nomatch z)
theorem qF:dJ X (.builtin "isinstance") (λxs H Q=>∃x y t cs,xs=[x,y]/\TyG X.K H x t/\AN X.K H y cs/\Q (.bl (cs.any (isA t))) H):=by
 intro ad s σ H xs us Q I r h;obtain⟨x,y,t,cs,rfl,ty,ka,q⟩:=h;cases r with
 |cons r rr=>
  cases rr with
  |cons r' rr=>
   cases rr;exact EZ I r r' ty ka λtk=>⟨.bl (cs.any (isA t)),H,I.tok tk,rfl,q⟩
end
inductive Dt where
 |int (i:Int)|bl (b:Bool)|str (x:Str)|non|lst (ds:List Dt)|tup (ds:List Dt)
mutual
noncomputable def Has(K:Rr)(H:Hp):Dt->V->Prop
 | .int i,v=>v=.int i
 | .bl b,v=>v=.bl b
 | .str x,v=>v=.str x
 | .non,v=>v=.non
 | .lst ds,v=>∃a xs,v=.ref a/\SqL K H a xs/\qc K H ds xs
 | .tup ds,v=>∃a xs,v=.ref a/\SqT K H a xs/\qc K H ds xs
noncomputable def qc(K:Rr)(H:Hp):List Dt->List V->Prop
 | [],xs=>xs=[]
 |d::r,xs=>∃x t,xs=x::t/\Has K H d x/\qc K H r t
end
mutual
noncomputable def dpt:Dt->Nat
 | .lst ds=>wH ds+1
 | .tup ds=>wH ds+1
 | _=>0
noncomputable def wH:List Dt->Nat
 | []=>0
 |d::r=>max (dpt d) (wH r)
end
variable {H H':Hp}
theorem SqL.same (e:gB H H')(h:SqL K H a xs):SqL K H' a xs:=e.seq h
theorem SqT.same (e:gB H H')(h:SqT K H a xs):SqT K H' a xs:=by
 rcases h with (h|⟨o,h⟩)|h
 ·exact .inl (.inl (e _ _ h))
 ·exact .inl (.inr ⟨o,e _ _ h⟩)
 exact .inr h
theorem SqG.same (e:gB H H')(h:SqG b K H a xs):SqG b K H' a xs:=by
 cases b with
 |true=>exact SqT.same e h
 |false=>exact SqL.same e h
theorem D8:qc K H [] []:=by rw[qc]
theorem BE{d:Dt}{r:List Dt}{x:V}{t:List V}(h:Has K H d x)(g:qc K H r t):qc K H (d::r) (x::t):=by rw[qc];exact⟨x,t,rfl,h,g⟩
section
variable{X:Cx}{ad:List (Rt×Obj)}{σ:St}{H:Hp}{s:Ru}
theorem xj{A:RS}{b:Rt}{k:Bool}(h:W0 A s (.ref a) (.ref b) k)(hk:a=b->k=true):V1 A s (.ref a) (.ref b) k:=by
 by_cases e:a=b
 ·rw[hk e,e];exact WS _
 exact Ym e h
end
structure Cal (P:RC) (w:RK) (K:Rr) (mg:Str->Option Rq) (base:RM) (k:Nat) (x:Str) (ps:List Str) (sp:Sp):Prop where
 ex:∃(f:Rt) (fd:RP),FnOk P w K mg base CX0 k f fd ps sp/\mg x=some (.ref f)/\T4 K (.ref f)=true/\Binds K fd ps []
variable {ps:List Str}{sp:Sp}{x:Str}
theorem JS{j k:Nat}{t:TA}{p:Pos}(D:Cal X.prog X.w X.K X.mg X.base j x ps sp)(hr:Room k X.A)(hg:Gl X x)(ha:PA X (e::es) t)(hjk:j<=k:=by omega)(hdb:(x ==("__debug__":Str))=false:=by decide)
  (he:RN (e::es) X.env=(false,RY e X.env)::RN es X.env:=by rfl) (hpl:(SS pos (RN es X.env)).any (·.1)=false:=by rfl):PE X (.Call (.Name x p) (e::es) [] pos) (E6 sp [] E0 t):=by
 obtain⟨f,fd,F,hm,hk,hb⟩:=D.ex;exact Gh F (hr.mono hjk) hg hm hk hb .nil LX ha hdb he hpl
variable {mg:Str->Option Rq}
theorem Cal.imp {base:RM}{k:Nat}{sp':Sp}(D:Cal P w K mg base k x ps sp)(h:∀vs H Q E,sp' vs H Q E->sp vs H Q E):Cal P w K mg base k x ps sp':=by obtain⟨f,fd,F,r⟩:=D.ex;exact⟨f,fd,F.imp h,r⟩
structure Dfn (K:Rr) (mg:Str->Option Rq) (x:Str) (st:RW) (ps:List Str):Prop where
 ex:∃(f:Rt) (fd:RP),Fun K x x st f fd/\mg x=some (.ref f)/\Binds K fd ps []
theorem Dfn.cal {base:RM}{k:Nat}{st:RW}(D:Dfn K mg x st ps)(h:∀f fd,Fun K x x st f fd->FnOk P w K mg base CX0 k f fd ps sp):Cal P w K mg base k x ps sp:=by obtain⟨f,fd,F,hm,hb⟩:=D.ex;exact⟨f,fd,h f fd F,hm,F.kp,hb⟩
theorem gB.iW :gB H H:=λ_ _ e=>e
variable {H1:Hp}
theorem gB.trans' {H2:Hp}(a:gB H H1)(b:gB H1 H2):gB H H2:=λc o e=>b c o (a c o e)
variable {p:Rt}
theorem fO(h:H p=none)(o:HO):gB H (upd H p o):=λb u q=>by rw[aS (gy q h)];exact q
theorem gB.none {H H':Hp}(a:gB H H'){p:Rt}(h:H' p=none):H p=none:=by
 cases e:H p with
 |none=>rfl
 |some o=>rw[a p o e]at h;cases h
noncomputable def Kp(a c:Rt)(H H':Hp):Prop:=∀b o,H b=some o->b≠a->b≠c->H' b=some o
variable {n:Nat}
theorem A3{i:Int}(h0:0<=i)(h1:i<(n:Int)):ixN n i=some i.toNat:=by unfold ixN;rw[if_pos h0,if_pos h1]
theorem Fx{α:Type}{xs:List α}{i:Int}{v:α}(h0:0<=i)(hv:xs[i.toNat]?=some v):atI xs i=some v:=by have h1:i.toNat<xs.length:=(c_.mp hv).1;unfold atI;rw[A3 h0 (by omega)];exact hv
variable {ns:List Int}
theorem DV{i:Int}(h0:0<=i)(h1:i<(ns.length:Int)):atI (ns.map V.int) i=some (.int (ns.getD i.toNat 0)):=by
 have h2:i.toNat<ns.length:=by omega
 refine Fx h0 ?_;rw[k_,d_ h2,A',d_ h2]
 rfl
theorem JE{i:Int}{v:V}{Q:VK}(h:SqG b K H p xs)(hv:atI xs i=some v)(q:Q v H):rIx K (.ref p) (.int i) H Q:=by
 cases b with
 |true=>exact .inr (.inl ⟨p,xs,i,v,rfl,rfl,h,hv,q⟩)
 |false=>exact .inl ⟨p,xs,i,v,rfl,rfl,h,hv,q⟩
theorem Le{A B:Prop}(h1:b=true->A)(h2:b=false->B):if b=true then A else B:=by
 cases b with
 |true=>exact MI (h1 rfl)
 |false=>exact My (h2 rfl)
theorem ET(S:FnScope N ps esc)(N':List Str)(fr:List (Option Nat))(nd:N'.Nodup){g:Ru->Hp->List Rt->TG}(C:m9 N esc sc N' fr=true)
  (hi:PI X target iter wi) (hg:∀s3 H3 fp,PG (bH X N' sc s3 H3 fp) target (g s3 H3 fp)) (ht:∀s3 H3 fp,PTs (bH X N' sc s3 H3 fp) ifs (tt s3 H3 fp)) (he:∀s3 H3 fp,PE (bH X N' sc s3 H3 fp) elt (te s3 H3 fp))
  (hc:X.calm=true:=by rfl) (hN:X.N=N:=by rfl) (hS:X.env.scope=esc:=by rfl) (hs:∀x,Sh iter X.env x=pure x:=by intro _;rfl):PE X (.ListComp elt [⟨target,iter,ifs,0⟩] sc pos) (AD wi fr g tt te):=
 GK N' fr hc (by rw[hN,hS];exact C) hi hg ht he hs
def Its(K:Rr)(b:Bool)(a:Rt):It:=match b with
 |true=>Itt K a
 |false=>Itl K a
def iSq(K:Rr)(tl:TE):TI:=λσ H R=>tl σ H λx H1=>∃b a xs,x=.ref a/\SqG b K H1 a xs/\R (Its K b a) H1
theorem IL{tg l:RI}{tl:TE}(hl:PE X l tl):PI X tg l (iSq X.K tl):=by
 intro ad s σ H R I h;refine thn (hl ad s σ H _ I h) ?_;rintro v s1 ⟨x,H1,I1,r1,q1⟩;obtain⟨b,a,xs,rfl,hq,q⟩:=q1;cases r1;cases b with
 |true=>
  obtain⟨be,rv,p,hz⟩:=I1.tuple hq;refine R9 (show s1.heap.IsTuple a be.toArray from p) ⟨s1.heap.objs.size,[s1.heap.objs.size],_,_,H1,rfl,I1.kept (t':=s1.toks) λb o e=>Rx _ e,rZ a _,⟨_,RF _ rfl,rfl,rfl⟩,λb hb=>?_,q⟩;have e:b=s1.heap.objs.size:=by simpa using hb
  subst e;exact I1.qM (b_ _) (I1.hok.fresh (b_ _))
 |false=>
  obtain⟨be,rv,p,hz⟩:=I1.list hq;refine Sy p.isList ⟨s1.heap.objs.size,[s1.heap.objs.size],_,_,H1,rfl,I1.kept (t':=s1.toks) λb o e=>Rx _ e,tY a _,⟨_,RF _ rfl,rfl,rfl⟩,λb hb=>?_,q⟩;have e:b=s1.heap.objs.size:=by simpa using hb
  subst e;exact I1.qM (b_ _) (I1.hok.fresh (b_ _))
theorem Gm{H2:Hp}{v:V}(h1:SqG b K H1 a xs)(s:gB H1 H')(h:(Its K b a).yld i H' v H2):H2=H'/\xs[i]?=some v:=by
 cases b with
 |true=>exact⟨h.1,h.2 xs (SqG.same s h1)⟩
 |false=>exact⟨h.1,h.2 xs (SqG.same s h1)⟩
theorem Ji(h1:SqG b K H1 a xs)(hx:xs.length=n):∀i H',gB H1 H'->i<n->(Its K b a).go i H':=λi H' s hi=>by
 cases b with
 |true=>exact⟨xs,xs[i]'(by lia),SqT.same s h1,d_ _⟩
 |false=>exact⟨xs,xs[i]'(by lia),SqL.same s h1,d_ _⟩
theorem Cd(h1:SqG b K H1 a xs)(hx:xs.length=n):∀H',gB H1 H'->(Its K b a).stop n H':=λH' s=>by
 cases b with
 |true=>exact⟨xs,SqT.same s h1,by lia⟩
 |false=>exact⟨xs,SqL.same s h1,by lia⟩
def New(o:HO)(H:Hp)(Q:VK):Prop:=∀p H',H p=none->gB H H'->H' p=some o->Q (.ref p) H'
theorem New.at {o:HO}{Q:VK}(h:New o H Q)(hp:H p=none):Q (.ref p) (upd H p o):=h p _ hp (fO hp o) ba
section
variable{X:Cx}{es:List RI}{t:TA}{pos:Pos}
def KP(t:TA):TE:=λσ H Q=>t σ H λxs H1=>xs.length<=sizeLine/\New (.tup xs) H1 Q
def Lf(t:TA):TE:=λσ H Q=>t σ H λxs H1=>xs.length<=sizeLine/\New (.lst xs) H1 Q
theorem G9{x1}(h:PA X es t):PE X (.Tuple es x1 pos) (KP t):=by intro ad s σ H Q I hq;refine wpAny_Tuple_spliced (thn (h pos ad s σ H _ I hq) λus s1 ⟨xs,H1,I1,r,z,q⟩=>⟨by rw[<-r.length];exact z,?_⟩);refine⟨.ref s1.heap.objs.size,upd H1 s1.heap.objs.size (.tup xs),I1.laid (t':=s1.toks) (λb u e=>Rx _ e) (b_ _) ⟨z,us,r,⟨_,RF _ rfl,rfl,_,rfl⟩⟩,rfl,q.at (I1.hok.fresh (b_ _))⟩
theorem FU(h:PA X es t):PE X (.List es pos) (Lf t):=by intro ad s σ H Q I hq;refine Wh (thn (h pos ad s σ H _ I hq) λus s1 ⟨xs,H1,I1,r,z,q⟩=>⟨by rw[<-r.length];exact z,?_⟩);refine⟨.ref s1.heap.objs.size,upd H1 s1.heap.objs.size (.lst xs),I1.laid (t':=s1.toks) (λb u e=>Rx _ e) (b_ _) ⟨z,us,0,r,RF _ rfl⟩,rfl,q.at (I1.hok.fresh (b_ _))⟩
theorem dJ.imp {f:Rq}{r r':List V->Hp->VK->Prop}(h:dJ X f r)(k:∀vs H Q,r' vs H Q->r vs H Q):dJ X f r':=λad s σ H xs us Q I rv q=>h ad s σ H xs us Q I rv (k _ _ _ q)
theorem OpR.imp {f:Rq->Rq->Sem Rq}{r r':R2}(h:OpR X f r)(k:∀x y H Q,r' x y H Q->r x y H Q):OpR X f r':=λad s σ H x y v u Q I rx ry q=>h ad s σ H x y v u Q I rx ry (k _ _ _ _ q)
theorem yW:dJ X (.type "list") (λxs H Q=>∃b p ys,xs=[.ref p]/\SqG b X.K H p ys/\New (.lst ys) H Q):=oU.imp λvs H Q ⟨b,p,ys,e,h,q⟩=>by
 refine⟨p,ys,e,?_,λl hl=>q.at hl⟩;cases b with
 |true=>exact .inr h
 |false=>exact .inl h
theorem yi:dJ X (.type "tuple") (λxs H Q=>∃p ys,xs=[.ref p]/\SqL X.K H p ys/\New (.tup ys) H Q):=tB.imp (by rintro vs H Q ⟨p,ys,e,h,q⟩;exact⟨p,ys,e,.inl ⟨h,λl hl=>q.at hl⟩⟩)
theorem C1:dJ X (.builtin "len") (λxs H Q=>∃b p ys,xs=[.ref p]/\SqG b X.K H p ys/\Q (.int ys.length) H):=pA.imp λvs H Q ⟨b,p,ys,e,h,q⟩=>by
 refine⟨p,ys,e,?_,q⟩;cases b with
 |true=>exact .inr h
 |false=>exact .inl h
def MB(K:Rr):R2:=λx y H Q=>∃b p xs i v,x=.ref p/\y=.int i/\SqG b K H p xs/\atI xs i=some v/\Q v H
theorem MN:IxR X (MB X.K):=by rintro value slice ad s σ H x y v u Q I rx ry ⟨b,p,xs,i,z,e1,e2,hq,ha,q⟩ hs;subst e1 e2;exact J5 value slice ad s σ H (.ref p) (.int i) v u Q I rx ry (JE hq ha q) hs
end
noncomputable def jS(ns:List Int)(r:Int):Prop:=r∈ns/\∀x∈ns,r<=x
noncomputable def jT(ns:List Int)(r:Int):Prop:=r∈ns/\∀x∈ns,x<=r
theorem gD:∀{ns:List Int}{us:List Rq},Vals (ns.map V.int) us->∃ps:List (Int×Tok),us=ps.map (λp=>TM p.1 p.2)/\ps.map (·.1)=ns
 | [],_,.nil=>⟨[],rfl,rfl⟩
 |n::r,_,.cons h t=>by obtain⟨ps,e1,e2⟩:=gD t;obtain⟨tk,e⟩:=h;exact⟨(n,tk)::ps,by rw[e,e1];rfl,by rw[<-e2];rfl⟩
theorem js{ps:List (Int×Tok)}(e:ps.map (·.1)=ns)(hi:i<ns.length):Tu ps.toArray i=ns[i]:=by
 subst e;have h2:i<ps.length:=by simpa using hi
 simp[Tu,h2]
section
variable{X:Cx}
theorem Bx(hc:X.calm=true):dJ X (.builtin "min") (λxs H Q=>∃a ns,xs=[.ref a]/\SqL X.K H a (ns.map V.int)/\ns≠[]/\∀r,jS ns r->Q (.int r) H):=by
 intro ad s σ H xs us Q I r h;obtain⟨a,ns,rfl,hq,jp,q⟩:=h;obtain⟨u,rfl,ru⟩:=vals1 r;cases ru;obtain⟨be,rv,p,z⟩:=I.list hq;obtain⟨ps,e1,e2⟩:=gD rv;subst e1;have hl:s.heap.IsList a (R_ ps.toArray):=by
  have e:R_ ps.toArray=(ps.map λp=>TM p.1 p.2).toArray:=by simp[R_]
  rw[e];exact p.isList
 have hlen:ps.length=ns.length:=by rw[<-e2];simp
 have hpos:0<ns.length:=Nh λz=>jp (M_ z);refine min_intList (I.ok.hd hc) hl (by simp;lia) λv h' tk hv hk=>?_
 obtain⟨tv,rfl⟩:=T_ hv;obtain⟨b1,b2⟩:=argBest_lt (Tu ps.toArray) (ps.toArray.size-1);have hi:Xi (λi j=>decide (Tu ps.toArray i<Tu ps.toArray j)) (ps.toArray.size-1)<ns.length:=by simp at b1 ⊢;lia
 refine⟨.int _,H,I.kept (t':=tk) hk,⟨tv,rfl⟩,q _ ⟨?_,λx hx=>?_⟩⟩
 ·rw[js e2 hi];exact Ni hi
 obtain⟨j,hj,rfl⟩:=Ou.mp hx;have:=b2 j (by simp;lia);rw[js e2 hj]at this;exact this
theorem Bg(hc:X.calm=true):dJ X (.builtin "max") (λxs H Q=>∃a ns,xs=[.ref a]/\SqL X.K H a (ns.map V.int)/\ns≠[]/\∀r,jT ns r->Q (.int r) H):=by
 intro ad s σ H xs us Q I r h;obtain⟨a,ns,rfl,hq,jp,q⟩:=h;obtain⟨u,rfl,ru⟩:=vals1 r;cases ru;obtain⟨be,rv,p,z⟩:=I.list hq;obtain⟨ps,e1,e2⟩:=gD rv;subst e1;have hl:s.heap.IsList a (R_ ps.toArray):=by
  have e:R_ ps.toArray=(ps.map λp=>TM p.1 p.2).toArray:=by simp[R_]
  rw[e];exact p.isList
 have hlen:ps.length=ns.length:=by rw[<-e2];simp
 have hpos:0<ns.length:=Nh λz=>jp (M_ z);refine max_intList (I.ok.hd hc) hl (by simp;lia) λv h' tk hv hk=>?_
 obtain⟨tv,rfl⟩:=T_ hv;obtain⟨b1,b2⟩:=argBest_gt (Tu ps.toArray) (ps.toArray.size-1);have hi:Xi (λi j=>decide (Tu ps.toArray i > Tu ps.toArray j)) (ps.toArray.size-1)<ns.length:=by simp at b1 ⊢;lia
 refine⟨.int _,H,I.kept (t':=tk) hk,⟨tv,rfl⟩,q _ ⟨?_,λx hx=>?_⟩⟩
 ·rw[js e2 hi];exact Ni hi
 obtain⟨j,hj,rfl⟩:=Ou.mp hx;have:=b2 j (by simp;lia);rw[js e2 hj]at this;exact this
theorem Bp(hc:X.calm=true):dJ X (.builtin "max") (λxs H Q=>∃i j k,xs=[.int i,.int j,.int k]/\∀r,i<=r->j<=r->k<=r->(r=i\/r=j\/r=k)->Q (.int r) H):=by
 intro ad s σ H xs us Q I r h;obtain⟨i,j,k,rfl,q⟩:=h;cases r with
 |cons r1 rr=>
  cases rr with
  |cons r2 rr=>
   cases rr with
   |cons r3 rr=>
    cases rr;obtain⟨t1,rfl⟩:=r1;obtain⟨t2,rfl⟩:=r2;obtain⟨t3,rfl⟩:=r3;refine max_three_ints (I.ok.hd hc) λh' tk hk=>?_;have fin:∀(r:Int) (t:Tok),i<=r->j<=r->k<=r->(r=i\/r=j\/r=k)->EP X ad σ Q (.int r t) {s with heap:=h',toks:=tk}:=λr t a b c d=>⟨.int r,H,I.kept (t':=tk) hk,⟨t,rfl⟩,q r a b c d⟩;split
    ·split
     ·exact fin _ _ (by lia) (by lia) (by lia) (by lia)
     exact fin _ _ (by lia) (by lia) (by lia) (by lia)
    split
    ·exact fin _ _ (by lia) (by lia) (by lia) (by lia)
    exact fin _ _ (by lia) (by lia) (by lia) (by lia)
theorem Bf(hc:X.calm=true):dJ X (.builtin "min") (λxs H Q=>∃i j k,xs=[.int i,.int j,.int k]/\∀r,r<=i->r<=j->r<=k->(r=i\/r=j\/r=k)->Q (.int r) H):=by
 intro ad s σ H xs us Q I r h;obtain⟨i,j,k,rfl,q⟩:=h;cases r with
 |cons r1 rr=>
  cases rr with
  |cons r2 rr=>
   cases rr with
   |cons r3 rr=>
    cases rr;obtain⟨t1,rfl⟩:=r1;obtain⟨t2,rfl⟩:=r2;obtain⟨t3,rfl⟩:=r3;refine min_three_ints (I.ok.hd hc) λh' tk hk=>?_;have fin:∀(r:Int) (t:Tok),r<=i->r<=j->r<=k->(r=i\/r=j\/r=k)->EP X ad σ Q (.int r t) {s with heap:=h',toks:=tk}:=λr t a b c d=>⟨.int r,H,I.kept (t':=tk) hk,⟨t,rfl⟩,q r a b c d⟩;split
    ·split
     ·exact fin _ _ (by lia) (by lia) (by lia) (by lia)
     exact fin _ _ (by lia) (by lia) (by lia) (by lia)
    split
    ·exact fin _ _ (by lia) (by lia) (by lia) (by lia)
    exact fin _ _ (by lia) (by lia) (by lia) (by lia)
end
section
variable{X:Cx}{a b c d:RI}{ta tb tc td:TE}{pos:Pos}
theorem CI:SlR X (λx lo hi H Q=>∃a xs,x=.ref a/\SqL X.K H a xs/\New (.lst (mi xs lo hi)) H Q):=by rintro ad s σ H x v vl vu lo hi sl Q I rx hs pl pu ⟨a,xs,e,h,q⟩;exact A0 ad s σ H x v vl vu lo hi sl Q I rx hs pl pu ⟨a,xs,e,h,λp hp=>q.at hp⟩
theorem zU:SlR X (λx lo hi H Q=>∃a xs,x=.ref a/\SqT X.K H a xs/\¬(HT.sIx xs.length 0 lo=0/\HT.sIx xs.length xs.length hi=xs.length)/\New (.tup (mi xs lo hi)) H Q):=by rintro ad s σ H x v vl vu lo hi sl Q I rx hs pl pu ⟨a,xs,e,h,hw,q⟩;exact Jn ad s σ H x v vl vu lo hi sl Q I rx hs pl pu ⟨a,xs,e,h,hw,λp hp=>q.at hp⟩
end
structure Put (H:Hp) (p:Rt) (o:HO) (H':Hp):Prop where
 at_:H' p=some o
 else_:∀b,b≠p->H' b=H b
theorem Put.up {o:HO}:Put H p o (upd H p o):=⟨ba,λb h=>aS h⟩
section
variable{X:Cx}
theorem zi.imp {t t':Fw}(h:zi X t)(k:∀o i v H Q,t' o i v H Q->t o i v H Q):zi X t':=λad s σ H o i v ov iv u Q I r1 r2 r3 q=>h ad s σ H o i v ov iv u Q I r1 r2 r3 (k _ _ _ _ _ q)
theorem BJ:zi X (λo i v H Q=>∃p xs k j,o=.ref p/\i=.int k/\H p=some (.lst xs)/\ixN xs.length k=some j/\∀H',Put H p (.lst (xs.set j v)) H'->Q H'):=set_list.imp (by rintro o i v H Q ⟨p,xs,k,j,e1,e2,h,hj,q⟩;exact⟨p,xs,k,j,e1,e2,h,hj,q _ Put.up⟩)
end
section
variable{M:Tp}{A:RS}{E:Rq->Ru->Prop}{s:Ru}{env:Env}
theorem pC{first:Sem Rq}{g:UZ}{u:Rq->Sem Unit}
  (hcl:clausesOf e=g::gs) (hs:∀x,Sh g.iter env x=pure x)
  (hc:∀x∈scope.names,x.2≠.cell) (hfr:∀x∈scope.names,x.2=.free->∃c,env.cells.lookup x.1=some c) (hkind:scope.kind=.function) (hnames:∀x∈scope.names,x.2=.local->scope.names.lookup x.1=some .local)
  (h:RA M A first (λx s₁=>RA M A (Vb x) (λit s₂=>RA M A newAcc (λacc s₃=>
   ∀h4,h4.Ns s₃.heap.objs.size (λ_=>none)->(∀b o,s₃.heap.get? b=some o->h4.get? b=some o)->
    Ud M A (.compStart e 0 it acc (L2.compEnv env scope s₃.heap.objs.size)) (λr s'=>match r with
     | .ok _=>RA M A (u acc) (λ_ s''=>∃m,s''.heap.Ns s₃.heap.objs.size m/\∀h',Sr s₃.heap.objs.size s''.heap h'->Q .none {s'' with heap:=h'}) E s'
     | .error x=>False) { s₃ with heap:=h4}) E s₂) E s₁) E s) :
  RA M A (T' e scope env pos newAcc false first (some u)) Q E s:=by
 unfold T';rw[tm hfr,hcl];refine Ro (RZ h (λx s₁ h₁=>Ro (Tf (Ro (VD (hs x) (Ro (R1 (RZ h₁ (λit s₂ h₂=>
  Xu (Ro (RZ h₂ (λacc s₃ h₃=>Ro (Rv (Ro ?_))) λ_ _ h'=>h'))) λ_ _ h'=>h'))))))) λ_ _ h'=>h')
 refine V0 hc (λx hx=>nomatch hx) (λh4 hn4 hs4=>?_) hkind;have h₄:=h₃ h4 hn4 λb o e=>hs4.extBut b o (s_ (RE e)) (Rx _ e);dsimp only;have hv:∀x∈(scope.names.filter λx=>(x.2 == .local || x.2 == .cell)&&x.1 !=(".0":Str)).reverse,x.2=.local->
   WZ (L2.compEnv env scope s₃.heap.objs.size) x.1=some .local:=λx hx hl=>by
  show(sU env scope).names.lookup x.1=some .local;rw[o8,hnames x (Nd.mp (PV.mp hx)).1 hl]
  rfl
 have hv':∀x∈(scope.names.filter λx=>(x.2 == .local || x.2 == .cell)&&x.1 !=(".0":Str)).reverse.drop 1++(scope.names.filter λx=>(x.2 == .local || x.2 == .cell)&&x.1 !=(".0":Str)).reverse.take 1,
   x.2=.local->WZ (L2.compEnv env scope s₃.heap.objs.size) x.1=some .local:=λx hx hl=>
  (B_.mp hx).elim (λz=>hv x (NQ z) hl) λz=>hv x (Nj z) hl
 refine R1 (Ro (S6 (R1 (wpAny_run (Ul h₄ λr s' hr=>?_)))));cases r with
 |ok f=>
  refine Ro (S7 (Ro (R1 (RZ hr (λ_ s'' hr'=>?_) λ_ _ h'=>h'))));obtain⟨m,hn,hr'⟩:=hr';exact Ro (WM (cenv:=L2.compEnv env scope s₃.heap.objs.size) hkind _ s'' m hv' hn λh' m' _ hs'=>Rv (hr' h' hs'))
 |error x=>exact hr.elim
end
theorem A1(S:FnScope N ps esc){pos':Pos}(N':List Str)(fr:List (Option Nat))(nd:N'.Nodup){np:Pos}{g:Ru->Hp->List Rt->TG}(C:m9 N esc sc N' fr=true)
  (hi:X.N[i]?=some x) (hx:Loc X.env.scope x) (hit:PI X target iter wi) (hg:∀s3 H3 fp,PG (bH X N' sc s3 H3 fp) target (g s3 H3 fp)) (ht:∀s3 H3 fp,PTs (bH X N' sc s3 H3 fp) ifs (tt s3 H3 fp)) (he:∀s3 H3 fp,PE (bH X N' sc s3 H3 fp) elt (te s3 H3 fp))
  (hsw:TN (.ListComp elt [⟨target,iter,ifs,0⟩] sc np) (some (.Name x pos')) pos.line X.env=pure true) (hf:X.fn x=true:=by rfl)
  (hc:X.calm=true:=by rfl) (hN:X.N=N:=by rfl) (hS:X.env.scope=esc:=by rfl) (hs:∀x,Sh iter X.env x=pure x:=by intro _;rfl):PS X (.Assign [.Name x pos'] (.ListComp elt [⟨target,iter,ifs,0⟩] sc np) pos) (Gx (AD wi fr g tt te) (Aa i)):=by
 have C:CompOk X.N X.env.scope sc N' fr:=uB (by rw[hN,hS];exact C);have hNd:X.N.Nodup:=by rw[hN];exact S.nd
 intro ad s σ H D I h;rw[exec_Assign_Name_used _ _ _ _ hsw];refine Ro (Tf (Ro ?_));show RA _ X.A (do let _ <-T' (.ListComp elt [⟨target,iter,ifs,0⟩] sc np) sc X.env _ (newList []) false (RY iter X.env) (some (TQ (.Name x pos') X.env))) _ _ s;have hfr:∀x∈sc.names,x.2=.free->∃c,X.env.cells.lookup x.1=some c:=λx hx e=>I.ok.has x.1 (.inl (C.free x hx e));refine Ro (RZ (pC (g:=⟨target,iter,ifs,0⟩) (gs:=[]) (Q:=λ_ s'=>SP X ad D .next s') rfl hs C.nocell hfr C.kind C.names ?_) (λ_ s' hq=>Rv (Rv hq)) λ_ _ e=>e);refine thn (hit ad s σ H _ I h) λv s1 h1=>thn h1 λitv s2 h2=>?_;obtain⟨it,fp,tn,J,H2,e,I2,T,ii,f2,k2⟩:=h2;subst e;refine U0 ?_ (by show 0<=sizeLine;decide);have hfree:H2 s2.heap.objs.size=none:=I2.hok.fresh (b_ _);obtain⟨W,⟨m0,w0⟩,turn⟩:=k2 _ hfree {s2 with heap:=s2.heap.push { cls:=.type "list",data:=.seq ([]:List Rq).toArray} } (upd H2 s2.heap.objs.size (.lst [])) fp;have kp:∀b u,s2.heap.get? b=some u->(s2.heap.push { cls:=.type "list",data:=.seq ([]:List Rq).toArray}).get? b=some u:=λb u e=>Rx _ e;have I3:Inv X ad σ (upd H2 s2.heap.objs.size (.lst [])) {s2 with heap:=s2.heap.push { cls:=.type "list",data:=.seq ([]:List Rq).toArray} }:=
  I2.laid (t':=s2.toks) kp (b_ _) ⟨A_ _,[],0,.nil,RF _ rfl⟩
 have obj2:=T.obj 0 s2.heap ii;have fpne:∀b∈fp,b≠s2.heap.objs.size:=λb hb=>by obtain⟨o,ho,_⟩:=obj2 b hb;exact s_ (RE ho)
 have f3:∀b∈fp,oB X ad (upd H2 s2.heap.objs.size (.lst [])) b:=λb hb=>⟨by rw[aS (fpne b hb)];exact(f2 b hb).1,(f2 b hb).2⟩
 have io:=T.keep 0 s2.heap _ ii λb hb o e=>kp b o e;have obj3:=T.obj 0 _ io;intro h4 hn4 hk4;have st4:=T.keep 0 _ h4 io λb hb o e=>hk4 b o e;have I4:=xB (N':=N') (fr:=fr) (fp:=fp) I3 C hc f3 (λb hb=>let ⟨o,ho,_⟩:=obj3 b hb;⟨o,ho⟩) hn4 hk4;have stat:∀{H':Hp},(∀b∈fp,H' b=none)->∀b∈fp,oB (bH X N' sc {s2 with heap:=s2.heap.push { cls:=.type "list",data:=.seq ([]:List Rq).toArray} } (upd H2 s2.heap.objs.size (.lst [])) fp) [] H' b:=λhn b hb=>
  ⟨hn b hb,(I4.ok.exf b hb).1,I4.ok.exfs b hb,.inl hb,(I4.ok.exf b hb).2,λp hp=>(nomatch hp)⟩
 have loop:Ud (RJ X.prog X.w) X.A (.compLoop (.ListComp elt [⟨target,iter,ifs,0⟩] sc np) 0 (.ref it) (.ref s2.heap.objs.size) (L2.compEnv X.env sc (s2.heap.push { cls:=.type "list",data:=.seq ([]:List Rq).toArray}).objs.size))
   (λr s'=>match r with
    | .ok _=>RA (RJ X.prog X.w) X.A (TQ (.Name x pos') X.env (.ref s2.heap.objs.size)) (λ_ s''=>∃m,s''.heap.Ns (s2.heap.push { cls:=.type "list",data:=.seq ([]:List Rq).toArray}).objs.size m/\∀h',Sr (s2.heap.push { cls:=.type "list",data:=.seq ([]:List Rq).toArray}).objs.size s''.heap h'->SP X ad D .next {s'' with heap:=h'}) X.xe s'
    | .error x=>False) {s2 with heap:=h4}:=by
  refine qE (λn s'=>∃i cr H',Inv (bH X N' sc {s2 with heap:=s2.heap.push { cls:=.type "list",data:=.seq ([]:List Rq).toArray} } (upd H2 s2.heap.objs.size (.lst [])) fp) [] cr H' s'/\tn i s'.heap/\(∀b∈fp,H' b=none)/\W i n cr H') ?_ m0
   ⟨0,_,_,I4,st4,λb hb=>(f3 b hb).1,w0⟩
  rintro n s5 ⟨j,σ5,H5,I5,st5,fr5,w5⟩;rcases turn j n σ5 H5 w5 with⟨stop,q⟩|⟨go,step⟩
  ·refine thn (T.done (bH X N' sc _ _ fp) rfl rfl rfl rfl j [] s5 σ5 H5 (λ_ _=>False) I5 (stat fr5) st5 stop) ?_;rintro r s6 ⟨hr,I6⟩;subst hr;obtain⟨m6,hn6,_⟩:=id I6.loc;have hL:H5 (s2.heap.push { cls:=.type "list",data:=.seq ([]:List Rq).toArray}).objs.size=none:=I6.free;have I7:Inv X ad σ H5 s6:=I3.HN (s':=s6) (ch:=fp) I6.os I6.base I6.hok I6.bare (λb hb=>by obtain⟨_,g1,g2,g3,g4,g5⟩:=f3 b hb;exact⟨g3,g1,g4,g5⟩)
   have Lne:(s2.heap.push { cls:=.type "list",data:=.seq ([]:List Rq).toArray}).objs.size≠X.env.locals:=OF I3.lt;have cne:∀y c,X.env.cells.lookup y=some c->c≠(s2.heap.push { cls:=.type "list",data:=.seq ([]:List Rq).toArray}).objs.size:=λy c e=>by obtain⟨v',z⟩:=I3.cell y c e;exact s_ z.lt
   refine Wq (tV (v:=.ref s2.heap.objs.size) I7 hNd hi hx rfl (λs8 I8 ⟨a8,sb8,ha8⟩=>?_) (.inl hf));refine⟨m6,hn6.sameBut sb8 (λz=>ha8.elim (λw'=>Lne (z.trans w')) λw'=>cne _ _ w' z.symm),λh' hs'=>⟨_,H5,?_,q⟩⟩;refine I8.turned (it:=(s2.heap.push { cls:=.type "list",data:=.seq ([]:List Rq).toArray}).objs.size) (t':=s8.toks) (λb o hb e=>(hs'.2 b hb).trans e) hL Lne (.inr I3.sz) cne λp hp z=>?_;have lt:=RE (I3.pin p hp).1;rw[z]at lt;exact ND _ lt
  refine thn (T.item (bH X N' sc _ _ fp) rfl rfl rfl rfl j [] s5 σ5 H5 (λ_ _=>False) I5 (stat fr5) st5 go) ?_;rintro r s6 ⟨u,hr,h6⟩;subst hr;refine thn h6 ?_;rintro _ s7 ⟨y,H7,I7,r7,y7,st7,fr7⟩;have I7':=I7.pinned (stat fr7) (T.obj _ _ st7);have Vs:∀{σ8:St}{H8:Hp}{s8:Ru},Inv (bH X N' sc {s2 with heap:=s2.heap.push { cls:=.type "list",data:=.seq ([]:List Rq).toArray} } (upd H2 s2.heap.objs.size (.lst [])) fp) ([]++pU fp s7.heap) σ8 H8 s8->(∃m',m'<n/\W (j+1) m' σ8 H8)->
    ∃m,m<n/\∃i cr H',Inv (bH X N' sc {s2 with heap:=s2.heap.push { cls:=.type "list",data:=.seq ([]:List Rq).toArray} } (upd H2 s2.heap.objs.size (.lst [])) fp) [] cr H' s8/\tn i s8.heap/\(∀b∈fp,H' b=none)/\W i m cr H':=λ{σ8 H8 s8} I8 ⟨m',hm,w8⟩=>by
   refine⟨m',hm,j+1,σ8,H8,I8.mK,T.keep _ _ _ st7 λb hb o e=>(I8.pin (b,o) (r_ _ (r_ _ (jn hb e)))).1,λb hb=>?_,w8⟩;obtain⟨o,e,d⟩:=T.obj _ _ st7 b hb;exact(I8.pin (b,o) (r_ _ (r_ _ (jn hb e)))).2.1
  refine thn (hg _ _ fp _ s7 σ5 H7 y u _ I7' r7 (step y H7 y7)) ?_;rintro _ s8 ⟨σ8,H8,I8,q8⟩;refine thn (ht _ _ fp _ s8 σ8 H8 _ I8 q8) ?_;rintro ok s9 ⟨H9,I9,q9⟩;cases ok with
  |false=>exact Vs I9 q9
  |true=>
   refine thn (he _ _ fp _ s9 σ8 H9 _ I9 q9) ?_;rintro y s10 ⟨v,H10,I10,r10,ys,hys,hl,q10⟩;refine thn (qq _ s10 σ8 H10 (.ref s2.heap.objs.size) [v] (.ref s2.heap.objs.size) [y] (λ_ H'=>∃m',m'<n/\W (j+1) m' σ8 H') I10 rfl (.cons r10 .nil) ⟨_,ys,v,rfl,rfl,hys,hl,q10⟩) ?_;rintro z s11 ⟨_,H11,I11,_,q11⟩;exact Vs I11 q11
 refine VE loop ?_;exact T.self X.A 0 _ _ _ st4 loop
section
variable{X:Cx}
theorem MtM.imp {id:String}{r r':V->List V->Hp->VK->Prop}(h:MtM X id r)(k:∀x xs H Q,r' x xs H Q->r x xs H Q):MtM X id r':=λad s σ H x xs v us Q I r1 r2 q=>h ad s σ H x xs v us Q I r1 r2 (k _ _ _ _ q)
theorem yN:MtM X "list.extend" (λx vs H Q=>∃l b xs zs,x=.ref l/\vs=[.ref b]/\H l=some (.lst xs)/\H b=some (.lst zs)/\xs.length+zs.length<=sizeLine/\∀H',Put H l (.lst (xs++zs)) H'->Q .non H'):=BK.imp (by rintro x vs H Q ⟨l,b,xs,zs,e1,e2,h1,h2,hz,q⟩;exact⟨l,b,xs,zs,e1,e2,h1,h2,hz,q _ Put.up⟩)
theorem yG:MtM X "list.append" (λx vs H Q=>∃l xs y,x=.ref l/\vs=[y]/\H l=some (.lst xs)/\xs.length<sizeLine/\∀H',Put H l (.lst (xs++[y])) H'->Q .non H'):=qq.imp (by rintro x vs H Q ⟨l,xs,y,e1,e2,h1,hz,q⟩;exact⟨l,xs,y,e1,e2,h1,hz,q _ Put.up⟩)
end
end L2
namespace ZG
open PySem
theorem DL{prog:RC}{w:RK}{A:RS}(hh:A.handled=none)(b:Bool)(it l:Rt)(jp:l≠it)(items:Array Rq) :
  Draws prog w A it [it,l] items.size (λi v=>items[i]?=some v) (λi h=>Dr b h it l i/\Sq b h l items) where
 live:=λ_ _ st=>let ⟨o,ho,_⟩:=st.1.some;⟨o,ho⟩
 frame:=λ_ _ _ st hk=>⟨st.1.at λo e=>hk it (by simp) o e,st.2.at λo e=>hk l (by simp) o e⟩
 item:=λi s Q E hi st hQ=>by
  refine vL st.1 st.2 (v:=items[i]) (by simp[hi]) λh' hit' hs'=>?_
  exact hQ _ h' s.toks (by simp[hi]) ⟨hit',st.2.ext hs'.extBut jp⟩ hs'
 done:=λs Q E st hE=>Cz hh st.1 st.2 (by simp) hE
set_option maxHeartbeats 1000000 in
theorem BV(l:Rt)(items:Array Rq)(n:Nat)(dct:Option Rt)(sl:Array (Option Rq)) :
  Meets (S4.«enumerate.__new__» ⟨[.type "enumerate",.ref l],[]⟩) (λ_ R s=>s.heap.get? l=some { cls:=.type "tuple",dict:=dct,data:=.seq items n,slots:=sl}/\
   R (.ok (.ret (.ref (s.heap.push { cls:=.type "tuple_iterator",data:=.fields #[.ref l,.int 0 0] }).objs.size)))
    {s with heap:=(s.heap.push { cls:=.type "tuple_iterator",data:=.fields #[.ref l,.int 0 0] }).push { cls:=.type "enumerate",data:=.fields #[.none,.bool false,.ref s.heap.objs.size,Tq 0,.none,.none] } }):=
 .of_wp λprog w A R s h=>by
  obtain⟨hp,g,d,tk,os⟩:=s;obtain⟨hl,h⟩:=h;have hsub:=sub_enumerate;have hL:Vf (TC ⟨hp,g,d,tk,os⟩) l items:=⟨_,hl,rfl,n,rfl⟩
  wp_walk using Tb hl
  refine wpAny_stack_any λst=>Rv ?_;split
  ·rename_i c _ _ _ _ _;cases (c == Ui "enumerate")
   ·wp_walk using Tb hl,R9 hL
    exact⟨_,rfl,h⟩
   wp_walk using Tb hl,R9 hL
   exact⟨_,rfl,h⟩
  wp_walk using Tb hl,R9 hL
  exact⟨_,rfl,h⟩
variable {Q:Rq->Ru->Prop}
section
variable{prog:RC}{w:RK}{A:RS}{E:Rq->Ru->Prop}{s:Ru}
theorem zB{l:Rt}{items:Array Rq}(hL:s.heap.IsTuple l items)
  (h:∀h',XM h' (s.heap.objs.size+1) s.heap.objs.size 0 .none->h'.IsTupleIter s.heap.objs.size l 0->h'.objs.size=s.heap.objs.size+2->
   (∀b o,s.heap.get? b=some o->h'.get? b=some o)->Q (.ref (s.heap.objs.size+1)) {s with heap:=h'}) :
  RA (RJ prog w) A (call (.type "enumerate") [.ref l]) Q E s:=by
 obtain⟨⟨c,dct,dt,sl⟩,hl,hc,n,hd⟩:=hL;replace hc:c=.type "tuple":=hc;replace hd:dt=.seq items n:=hd;subst hc hd;refine XJ F.called_enumerate (by decide) (F.typeCall_enumerate_1 _) (F.newCall_enumerate_1 _) (λobj=>F.args_object_init_2 obj _) F.entry_enumerate_new
  (BV l items n dct sl) ⟨hl,?_⟩
 have hz:(s.heap.push { cls:=.type "tuple_iterator",data:=.fields #[.ref l,.int 0 0] }).objs.size=s.heap.objs.size+1:=SO ..;show _/\_;rw[hz];have he:XM ((s.heap.push { cls:=.type "tuple_iterator",data:=.fields #[.ref l,.int 0 0] }).push
   { cls:=.type "enumerate",data:=.fields #[.none,.bool false,.ref s.heap.objs.size,Tq 0,.none,.none] }) (s.heap.objs.size+1) s.heap.objs.size 0 .none:=by
  have:=RF (s.heap.push { cls:=.type "tuple_iterator",data:=.fields #[.ref l,.int 0 0] })
   (o:={ cls:=.type "enumerate",data:=.fields #[.none,.bool false,.ref s.heap.objs.size,Tq 0,.none,.none] }) rfl
  rw[hz]at this;exact this
 refine⟨⟨_,he,rfl⟩,h _ he ⟨_,Rx _ (RF _ rfl),rfl,rfl⟩ (by rw[SO,hz]) λb o x=>Rx _ (Rx _ x)⟩
theorem yu{b:Bool}{l:Rt}{items:Array Rq}(hL:Sq b s.heap l items)
  (h:∀h',XM h' (s.heap.objs.size+1) s.heap.objs.size 0 .none->Dr b h' s.heap.objs.size l 0->h'.objs.size=s.heap.objs.size+2->
   (∀b o,s.heap.get? b=some o->h'.get? b=some o)->Q (.ref (s.heap.objs.size+1)) {s with heap:=h'}) :
  RA (RJ prog w) A (call (.type "enumerate") [.ref l]) Q E s:=by
 cases b with
 |true=>exact zB hL h
 |false=>exact call_enumerate_list hL h
end
end ZG
namespace L2
open PySem PySem.Spec PyProof.Rows
def Ite(K:Rr)(b:Bool)(a:Rt):It:=
  ⟨λi H=>∃xs x,SqG b K H a xs/\xs[i]?=some x,
   λi H v H'=>∃p x,H p=none/\v=.ref p/\H'=upd H p (.tup [.int i,x])/\∀xs,SqG b K H a xs->xs[i]?=some x,
   λi H=>∃xs,SqG b K H a xs/\xs.length=i⟩
variable {es:List RI}
theorem BI{P:RC}{w:RK}{K:Rr}{x1:Nat}{tp:Pos}(b:Bool)(a e it:Rt)(D:e≠it) :
  Turn P w K (.Tuple es x1 tp) (Ite K b a) [e,it] e (λi h=>(∃old,XM h e it i old)/\ZG.Dr b h it a i) where
 mem:=by simp
 obj:=λi h st c hb=>by
  obtain⟨⟨old,he⟩,d⟩:=st;have hb:c=e\/c=it:=by simpa using hb
  rcases hb with rfl|rfl
  ·exact⟨_,he,λv z=>by cases (show Wz _=Vr v from z)⟩
  exact d.some
 keep:=λi h h' st k=>by obtain⟨⟨old,he⟩,d⟩:=st;exact⟨⟨old,k e (by simp) _ he⟩,d.at λo z=>k it (by simp) o z⟩
 item:=by
  intro X hP hw hK hc i ad s σ H E I hf st hg;subst hP hw hK;obtain⟨xs,x,q1,hx⟩:=hg;obtain⟨be,rv,p1,z1⟩:=I.sq q1;obtain⟨u,hu,ru⟩:=rv.get hx;obtain⟨⟨old,he⟩,d⟩:=st;have fe:=hf e (by simp);have fi:=hf it (by simp);have nai:=I.j9 q1 fi;have nae:=I.j9 q1 fe;have li:i<be.toArray.size:=by have:=(c_.mp hu).1;simpa using this
  refine wpAny_pyNext_enum_itemD (ZG.DL (A:=X.A.in1) (I.ok.hd hc) b it a nai be.toArray) he ⟨d,p1⟩ li D (by simp[D,nae.symm]) λy h1 tk hP hO hst hT hsz hk=>⟨_,rfl,?_⟩
  have ey:y=u:=by
   have e1:be.toArray[i]?=some u:=by simpa using hu
   rw[e1]at hP;exact(F_ hP).symm
  subst ey;refine wpAny_letOwnedTupleGo_enum (s:={s with heap:=h1,toks:=tk+1}) hO λh' he' hs'=>?_;have hfresh:H s.heap.objs.size=none:=I.hok.fresh (b_ _);have eT:s.heap.objs.size≠e:=OF (RE he);have kp:∀c o,c ∉ [e,it]->s.heap.get? c=some o->h'.get? c=some o:=λc o hb z=>by
   have n:c≠e/\c≠it:=by simpa using hb
   exact hs'.extBut _ _ n.1 (hk c o n.1 n.2 z)
  have hT':h'.get? s.heap.objs.size=some { cls:=.type "tuple",data:=.seq #[.int i tk,y] }:=hs'.extBut _ _ eT hT;have notfp:∀c o,H c=some o->c ∉ [e,it]:=λc o z hb=>by have:=(hf c hb).1;rw[z]at this;cases this
  have ne:∀c o,s.heap.get? c=some o->c≠s.heap.objs.size:=λc o z=>s_ (RE z);have nt:∀c o,H c=some o->c≠s.heap.objs.size:=λc o z=>gy z hfresh;have I1:Inv X ad σ (upd H s.heap.objs.size (.tup [.int i,x])) {s with heap:=h',toks:=tk+1}:=by
   refine I.step (g':=s.gens) (d':=s.drawn) (t':=tk+1) (ch:=[e,it]) (λc hb=>?_) (λc o _ _ hc z _=>kp c o hc z) (λc o _ _ hc z _=>⟨o.slots,kp c o hc z⟩)
    (λc o _ z n=>by rw[aS (ne c o z)];exact n) (λc o hc z=>⟨o,kp c o hc z⟩) (λc zs z=>by rw[aS (nt c _ z)];exact z) (λc o u z=>by rw[aS (nt c _ z)];exact z)
    (λc ps z=>⟨#[],by rw[aS (nt c _ z),z];simp⟩) (λm hm=>?_) (λc o z=>?_) I.bare
   ·obtain⟨g0,g1,g2,g3,g4,g5⟩:=hf c hb;exact⟨g3,g1,g4,g5⟩
   ·obtain⟨o,es,ep,ho',r⟩:=hm;exact⟨o,es,ep,kp _ o (λhb=>(hf _ hb).2.1 rfl) ho',r⟩
   by_cases hb:c=s.heap.objs.size
   ·subst hb;rw[ba]at z;cases z;exact⟨by show 2<=sizeLine;decide,[.int i tk,y],.cons ⟨tk,rfl⟩ (.cons ru .nil),_,hT',rfl,_,rfl⟩
   rw[aS hb]at z;refine(I.hok c o z).pD (λc' w' hc' q=>kp c' w' ?_ q) (λc' q=>by rw[aS (nt c' _ q)];exact q) λc' zs q=>by rw[aS (nt c' _ q)];exact q
   rcases hc' with rfl|hc'
   ·exact notfp _ _ z
   exact notfp _ _ hc'
  refine⟨.ref s.heap.objs.size,_,I1,rfl,⟨s.heap.objs.size,x,hfresh,rfl,rfl,λzs hq=>by rw[I.yq hq q1];exact hx⟩,?_,λc hb=>?_⟩
  ·exact⟨⟨_,he'⟩,hst.1.ext hs'.extBut D.symm⟩
  have hb0:=(hf c hb).1;have hb':c=e\/c=it:=by simpa using hb
  have li:∃o,s.heap.get? c=some o:=by
   rcases hb' with rfl|rfl
   ·exact⟨_,he⟩
   obtain⟨o,z,_⟩:=d.some;exact⟨o,z⟩
  obtain⟨o,z⟩:=li;rw[aS (ne c o z)];exact hb0
 done:=by
  intro X hP hw hK hc i ad s σ H E I hf st hg;subst hP hw hK;obtain⟨xs,q1,hn⟩:=hg;obtain⟨be,rv,p1,z1⟩:=I.sq q1;obtain⟨⟨old,he⟩,d⟩:=st;have fe:=hf e (by simp);have fi:=hf it (by simp);have nai:=I.j9 q1 fi;have l1:=rv.length;have en:be.toArray.size=i:=by simp;omega
  refine wpAny_pyNext_enum_endD (ZG.DL (A:=X.A.in1) (I.ok.hd hc) b it a nai be.toArray) he (by rw[en];exact⟨d,p1⟩) λg gk=>⟨rfl,?_⟩
  have kp:∀c o,c ∉ [e,it]->s.heap.get? c=some o->g.get? c=some o:=λc o hb z=>by
   have n:c≠e/\c≠it:=by simpa using hb
   exact gk c o n.2 z
  have notfp:∀c o,H c=some o->c ∉ [e,it]:=λc o z hb=>by have:=(hf c hb).1;rw[z]at this;cases this
  refine I.step (g':=s.gens) (d':=s.drawn) (t':=s.toks) (ch:=[e,it]) (λc hb=>?_) (λc o _ _ hc z _=>kp c o hc z) (λc o _ _ hc z _=>⟨o.slots,kp c o hc z⟩)
   (λc o _ z n=>n) (λc o hc z=>⟨o,kp c o hc z⟩) (λc zs z=>z) (λc o u z=>z) (λc ps z=>⟨#[],by rw[z];simp⟩) (λm hm=>?_) (λc o z=>?_) I.bare
  ·obtain⟨g0,g1,g2,g3,g4,g5⟩:=hf c hb;exact⟨g3,g1,g4,g5⟩
  ·obtain⟨o,es,ep,ho',r⟩:=hm;exact⟨o,es,ep,kp _ o (λhb=>(hf _ hb).2.1 rfl) ho',r⟩
  refine(I.hok c o z).pD (λc' w' hc' q=>kp c' w' ?_ q) (λc' q=>q) λc' zs q=>q;rcases hc' with rfl|hc'
  ·exact notfp _ _ z
  exact notfp _ _ hc'
 self:=λ_ _ _ _ _ st h=>by obtain⟨⟨old,he⟩,_⟩:=st;exact Wv he h
def L8(K:Rr)(ta:TA):TI:=λσ H R=>ta σ H λvs H1=>∃b a,vs=[.ref a]/\(∃xs,SqG b K H1 a xs)/\R (Ite K b a) H1
theorem GZ{X:Cx}{x1:Nat}{tp:Pos}{a:RI}{ta:TA}{p pos:Pos}(hg:Gl X "enumerate")(hm:X.mg "enumerate"=none)(ha:PA X [a] ta)(hs:RN [a] X.env=[(false,RY a X.env)]:=by rfl) :
  PI X (.Tuple es x1 tp) (.Call (.Name "enumerate" p) [a] [] pos) (L8 X.K ta):=by
 intro ad s σ H R I h;refine X' (lH I hg hm boot_enumerate (Sz (thn (ha pos ad s σ H _ I h) λus s1 ⟨vs,H1,I1,r1,q1⟩=>?_) hs rfl));obtain⟨b,a,e,⟨xs,q1⟩,q⟩:=q1;subst e;cases r1 with
 |cons r rr=>
  cases rr;cases r;obtain⟨be,rv,p1,z1⟩:=I1.sq q1;refine ZG.yu p1 λg gz g1 gs gk=>Wv (s:={s1 with heap:=g}) gz ?_;have I2:Inv X ad σ H1 {s1 with heap:=g}:=I1.kept (t':=s1.toks) gk;refine⟨_,_,_,_,H1,rfl,I2,BI b a _ s1.heap.objs.size (show(_:Nat)≠_ by omega),⟨⟨_,gz⟩,g1⟩,λc hb=>?_,q⟩;have hb':s1.heap.objs.size<=c:=by
   have z:c=s1.heap.objs.size+1\/c=s1.heap.objs.size:=by simpa using hb
   rcases z with z|z <;> rw[z] <;>(show(_:Nat)<=_) <;> omega
  exact I1.qM hb' (I1.hok.fresh hb')
theorem xR{α:Type}[BEq α][LawfulBEq α][DecidableEq α](d:α)(a b:List α):(((w_ (min a.length b.length)).all λj=>a.getD j d == b.getD j d)&&a.length == b.length)=decide (a=b):=by
 refine Bool.eq_iff_iff.mpr ?_;rw[J',NU,beq_iff_eq,decide_eq_true_iff];constructor
 ·rintro⟨h,l⟩;refine PX l λi h1 h2=>?_;have:=beq_iff_eq.mp (h i (NS.mpr (Nat.lt_min.mpr ⟨h1,h2⟩)));rw[A',A',d_ h1,d_ h2]at this;exact this
 rintro rfl;exact⟨λj _=>beq_self_eq_true _,rfl⟩
variable {a b:List Int}
section
variable{X:Cx}{ad:List (Rt×Obj)}{σ:St}{H:Hp}{s:Ru}{A:RS}
theorem l7{us vs:List Rq}(r1:Vals (a.map V.int) us)(r2:Vals (b.map V.int) vs)(j:Nat)(g1:j<us.toArray.size)(g2:j<vs.toArray.size):V1 A s us.toArray[j] vs.toArray[j] (a.getD j 0 == b.getD j 0):=by
 obtain⟨ps,rfl,rfl⟩:=gD r1;obtain⟨qs,rfl,rfl⟩:=gD r2;have h1:j<ps.length:=by simpa using g1
 have h2:j<qs.length:=by simpa using g2
 rw[A',A',k_,k_,d_ h1,d_ h2,Ov,Ov,OX,OX];exact .int_int _ _ _ _
def EqS(K:Rr)(H:Hp)(x y:V)(b:Bool):Prop:=
 (∃i j,x=.int i/\y=.int j/\b=decide (i=j))\/(∃i j,x=.str i/\y=.str j/\b=decide (i=j))\/(∃i j,x=.bl i/\y=.bl j/\b=(i == j))\/
 ∃c p q,∃u v:List Int,x=.ref p/\y=.ref q/\b=decide (u=v)/\SqG c K H p (u.map V.int)/\SqG c K H q (v.map V.int)
theorem zI(I:Inv X ad σ H s)(hu:A.units<cLine){x y:V}{v u:Rq}{b:Bool}(rx:RelV x v)(ry:RelV y u)(h:EqS X.K H x y b):W0 A s v u b/\XN A s v u (!b):=by
 rcases h with⟨i,j,rfl,rfl,rfl⟩|⟨i,j,rfl,rfl,rfl⟩|⟨i,j,rfl,rfl,rfl⟩|⟨c,p,q,a,d,rfl,rfl,rfl,s1,s2⟩
 ·obtain⟨_,rfl⟩:=rx;obtain⟨_,rfl⟩:=ry;rw[<-O0];exact⟨.int_int _ _ _ _,.int_int _ _ _ _⟩
 ·obtain⟨_,rfl⟩:=rx;obtain⟨_,rfl⟩:=ry;rw[<-O0];exact⟨.str_str _ _ _ _,.str_str _ _ _ _⟩
 ·cases rx;cases ry;exact⟨.bool_bool _ _,.bool_bool _ _⟩
 cases rx;cases ry;have key:=xR 0 a d;cases c with
 |true=>
  obtain⟨us,r1,p1,_⟩:=I.tuple s1;obtain⟨vs,r2,p2,_⟩:=I.tuple s2;have l1:us.toArray.size=a.length:=by rw[g_,<-r1.length,a_]
  have l2:vs.toArray.size=d.length:=by rw[g_,<-r2.length,a_]
  have k1:=Ww p1 p2 hu (l7 r1 r2);have k2:=Yh p1 p2 hu (l7 r1 r2);rw[l1,l2,key]at k1 k2;exact⟨k1,k2⟩
 |false=>
  obtain⟨us,r1,p1,_⟩:=I.list s1;obtain⟨vs,r2,p2,_⟩:=I.list s2;have l1:us.toArray.size=a.length:=by rw[g_,<-r1.length,a_]
  have l2:vs.toArray.size=d.length:=by rw[g_,<-r2.length,a_]
  by_cases e:a.length=d.length
  ·have k1:=WO p1.isList p2.isList (by rw[l1,l2,e]) hu (l7 r1 r2);have k2:=UM p1.isList p2.isList (by rw[l1,l2,e]) hu (l7 r1 r2);rw[<-e,PZ,beq_self_eq_true,NN]at key;rw[l1,key]at k1 k2;exact⟨k1,k2⟩
  have hz:(us.toArray.size != vs.toArray.size)=true:=by rw[l1,l2];exact bne_iff_ne.mpr e
  rw[decide_eq_false λz=>e (by rw[z])];exact⟨.lists_lengths p1.isList p2.isList hz hu,.lists_lengths p1.isList p2.isList hz hu⟩
theorem DY{A:RS}(I:Inv X ad σ H s)(hu:A.units<cLine){c d:Rt}(hc:SqT X.K H c (a.map V.int))(hd:SqT X.K H d (b.map V.int)):V1 A s (.ref c) (.ref d) (decide (a=b)):=by
 refine xj (zI (x:=.ref c) (y:=.ref d) I hu rfl rfl (.inr (.inr (.inr ⟨true,c,d,a,b,rfl,rfl,rfl,hc,hd⟩)))).1 ?_;rintro rfl;obtain⟨us,r1,⟨o1,g1,_,n1,d1⟩,_⟩:=I.tuple hc;obtain⟨vs,r2,⟨o2,g2,_,n2,d2⟩,_⟩:=I.tuple hd;rw[g1]at g2;cases g2;rw[d1]at d2;injection d2 with d2
 have e:us=vs:=by simpa using d2
 subst e;obtain⟨ps,e1,e2⟩:=gD r1;obtain⟨qs,e3,e4⟩:=gD r2;refine decide_eq_true ?_;rw[<-e2,<-e4];have f:∀ps:List (Int×Tok),ps.map (·.1)=(ps.map λp=>TM p.1 p.2).map λv=>match v with | .int i _=>i | _=>0:=λps=>by rw[z_];rfl
 rw[f,f,<-e1,<-e3]
def Kz(K:Rr)(neg:Bool):R2:=λx y H Q=>∃b,EqS K H x y b/\Q (.bl (b != neg)) H
theorem Ew(hu:X.A.units<cLine):OpR X (RT .Eq) (Kz X.K false):=by rintro ad s σ H x y v u Q I rx ry ⟨b,e,q⟩;rw[Q5]at q;exact(zI I hu rx ry e).1 _ _ _ _ ⟨.bl b,H,I,rfl,q⟩
theorem IW(hu:X.A.units<cLine):OpR X (RT .NotEq) (Kz X.K true):=by rintro ad s σ H x y v u Q I rx ry ⟨b,e,q⟩;rw[Q9]at q;exact(zI I hu rx ry e).2 _ _ _ _ ⟨.bl (!b),H,I,rfl,q⟩
end
end L2
namespace ZG
open PySem
open Sem (wp)
variable {Q:Option Rq->Ru->Prop}{d:Rt}{ep:Nat}{es:Array SY}{o:Obj}
section
variable{prog:RC}{w:RK}{A:RS}{E:Rq->Ru->Prop}{s:Ru}
theorem Ej{Q:Rq->Ru->Prop}(hd:(d == R5)=false)(ho:s.heap.get? d=some o)(hc:o.ExactDict)(hdat:o.data=.dict es ep)
  (hQ:Q (.ref s.heap.objs.size) {s with heap:=s.heap.push { cls:=.type "dict_keyiterator",data:=.fields #[.ref d,.int 0 0,.int es.size 0,.int ep 0] } }):RA (RJ prog w) A (Vb (.ref d)) Q E s:=by
 have hT:s.TypeIs (.ref d) "dict":=⟨o,ho,hc.1⟩;refine wpAny_pyIter_slot hT WQ (Sm WQ hT F.entry_dict_iter ?_ (F.args_dict_iter_1 _));unfold S4.«dict.__iter__» XC;refine Ro (Ro (Ue hT (show RA _ _ (pure (RV d)) _ _ s from Rv (show RA _ _ (VJ d >>= _) _ _ s from ?_))));unfold VJ;rw[if_neg (by rw[hd];exact Nf)];exact Ro (Rv (Ro (Si ho hdat (Ro (Us ho hdat (Ro (Sg (Rv ⟨_,rfl,"dict_keyiterator",_,⟨_,RF _ rfl,rfl⟩,Sw.lookup,by simpa[Tq]using hQ⟩))))))))
theorem Hx{it:Rt}{i:Nat}{e:SY}(hit:s.heap.IsKeyIter it d i es.size ep)(hod:s.heap.get? d=some o)(hdd:o.data=.dict es ep)(hx:es[i]?=some e)
  (hQ:∀h',h'.IsKeyIter it d (i+1) es.size ep->Sr it s.heap h'->Q (some e.key) {s with heap:=h'}):RA (RJ prog w) A (T7 (.ref it)) Q E s:=by
 obtain⟨oi,ho,hc,hd⟩:=id hit;unfold T7;refine Ro (S6 (R' (name:=SW "__next__") hit.typeIs Sw (Sm Sw hit.typeIs Ux ?_ (Ut _))));refine Ro (Rv (Ro (Ro ?_)));refine Ro (SM hit.typeIs (Rv (Ro (Xj ho hd ?_))));simp only[show UG "dict_keyiterator"=false by decide,C',if_false];show RA _ _ (if(RV d == R4)=true then _ else _) _ _ s;rw[if_neg (show ¬(RV d == R4)=true from λz=>Nf z)];refine Ro (Rv (Ro (Si hod hdd ?_)));rw[if_neg (show ¬_ by simp)];refine Ro (Rv (Ro (Us hod hdd ?_)));rw[if_neg (show ¬_ by simp)];refine Rv ?_;simp only[show ¬(i:Int)<0 by lia,if_false,Nl,hx];refine Ro (Ro (SM hit.typeIs (Rv (Ro (VL hit.typeIs ?_)))));show RA _ _ (setField (.ref it) 1 (Tq ((i:Int)+1)) >>= _) _ _ s;refine Ro (UD ho hd (by simp) ?_);have hit':(s.heap.update it (Xw (·.setIfInBounds 1 (Tq ((i:Int)+1))))).IsKeyIter it d (i+1) es.size ep:=
  ⟨_,S3 _ ho (VI (TY hd _)),(Ws ..).trans hc,by rw[TY hd];simp[Tq]⟩
 exact Ro (R1 (Ro (VL (s:={s with heap:=s.heap.update it (Xw (·.setIfInBounds 1 (Tq ((i:Int)+1)))) }) hit'.typeIs (show RA _ _ (pure e.key) _ _ _ from Rv (Rv ⟨_,rfl,Rv (hQ _ hit' (SN ..))⟩)))))
theorem LO{it:Rt}{i:Nat}(hh:A.handled=none)(hit:s.heap.IsKeyIter it d i es.size ep)(hod:s.heap.get? d=some o)(hdd:o.data=.dict es ep)(hx:es[i]?=none)
  (hQ:∀h',T9 it s.heap h'->Q none {s with heap:=h'}):RA (RJ prog w) A (T7 (.ref it)) Q E s:=by
 obtain⟨oi,ho,hc,hd⟩:=id hit;unfold T7;refine Ro (S6 (R' (name:=SW "__next__") hit.typeIs Sw (Sm Sw hit.typeIs Ux ?_ (Ut _))));refine Ro (Rv (Ro (Ro ?_)));refine Ro (SM hit.typeIs (Rv (Ro (Xj ho hd ?_))));simp only[show UG "dict_keyiterator"=false by decide,C',if_false];show RA _ _ (if(RV d == R4)=true then _ else _) _ _ s;rw[if_neg (show ¬(RV d == R4)=true from λz=>Nf z)];refine Ro (Rv (Ro (Si hod hdd ?_)));rw[if_neg (show ¬_ by simp)];refine Ro (Rv (Ro (Us hod hdd ?_)));rw[if_neg (show ¬_ by simp)];refine Rv ?_;simp only[show ¬(i:Int)<0 by lia,if_false,Nl,hx];refine Ro (Ro (SM hit.typeIs (Rv ?_)));show RA _ _ (setField (.ref it) 0 .none >>= _) _ _ s;refine Ro (UD ho hd (by simp) (show RA _ _ (XI (.type "StopIteration") [] >>= _) _ _ _ from Ro ?_));simp only[XI,newTuple];refine Ro (Sg (Ro (m:=UE _ _) (VD (a:=R4) (by first|rfl|(simp only[UE];rfl)) (Sg ?_ (by size_fits)))) (by size_fits));simp only[raiseNew];refine Ro (Xt ?_);rw[show A.in1.handled=none from hh];refine Ro (Rv (X2 ?_));refine Ro (Ub (T:="StopIteration") (b:=true) (by exact⟨_,RF _ rfl,rfl⟩) Xg (Rv ?_));exact hQ _ (((SN ..).extBut.push _).push _)
end
end ZG
namespace L2
open PySem PySem.Spec PyProof.Rows
noncomputable def kI(ns:List Int):List Key:=ns.map So
theorem Mo(ns:List Int):(kI ns).map kV=ns.map V.int:=by
 unfold kI;rw[z_]
 rfl
theorem Js{ns ms:List Int}(h:kI ns=kI ms):ns=ms:=(List.map_inj_right λ_ _ z=>XW z).mp h
theorem sG{α β:Type}{F:α->β->Prop}:∀{l:List α}{m:List β}{i:Nat}{b:β},Tv F l m->m[i]?=some b->∃a,l[i]?=some a/\F a b
 | _,_,_,_,.nil,e=>by simp at e
 | _,_,0,_,.cons h t,e=>by simp only[N4,Oe]at e;subst e;exact⟨_,rfl,h⟩
 | _,_,i+1,_,.cons h t,e=>by simp only[NF]at e ⊢;exact sG t e
theorem zW{X:Cx}{ad:List (Rt×Obj)}{σ:St}{H:Hp}{s:Ru}{o:Obj}{d:Rt}{am:List (List Key×V)}(I:Inv X ad σ H s)(e:H d=some (.frz o (.dT am))) :
  s.heap.get? d=some o/\(d == R5)=false/\∃xs es ep,KT H am xs/\o.ExactDict/\o.data=.dict es ep/\es.toList=xs.map (Uj (Ti (cX X.prog X.w)))/\es.size=am.length:=by
 obtain⟨h0,h1,h2,xs,kt,o',es,ep,g1,g2,g3,g4,g5⟩:=(show cV X.prog X.w H s.heap d (.frz o (.dT am))from I.hok d _ e);rw[h0]at g1;cases g1;refine⟨h0,h2,xs,es,ep,kt,g2,g3,g4,?_⟩;rw[<-h_,g4,a_];exact(Sn kt).symm
end L2
namespace ZR
open PySem
variable {E:Rq->Ru->Prop}
theorem DS{prog:RC}{w:RK}{A:RS}{s:Ru}{it l:Rt}{i:Int}{Q:Bool->Ru->Prop}(h:s.heap.IsRevIter it l i)(q:Q false s):RA (RJ prog w) A (UN (RV it)) Q E s:=by have ty:s.TypeIs (RV it) "list_reverseiterator":=h.typeIs;unfold UN;refine Ro (Up ty (r:=none) rfl ?_);refine SD (λc=>absurd c (by decide)) (λ_=>?_);refine SD (λc=>absurd c (by decide)) (λ_=>?_);refine Ro (Up ty (r:=some (Value.builtin "list_reverseiterator.__length_hint__")) rfl ?_);refine Ro (Ub ty (b:=true) (by rw[Xk];rfl) ?_);refine SD (λc=>absurd c (by decide)) (λ_=>?_);refine SD (λ_=>?_) (λc=>absurd rfl c);refine SD (λc=>absurd c (by decide)) (λ_=>?_);exact Rv q
theorem tM{prog:RC}{w:RK}{A:RS}{s:Ru}{I l:Rt}{items:Array Rq}{Q:Rq->Ru->Prop}(hh:A.handled=none)(jp:l≠I)
  (h1:s.heap.IsRevIter I l ((items.size:Int)-1)) (h2:s.heap.IsList l items) (hn:items.size<=sizeLine)
  (q:∀(h':RM) (tk:Nat) (acc':Array Rq) (c':Nat),(∀b o,b≠I->s.heap.get? b=some o->h'.get? b=some o)->
   h'.get? s.heap.objs.size=some { cls:=.type "list",data:=.seq acc' c'}->ItemsOf (λi v=>items[items.size-1-i]?=some v) acc' items.size->Q (.ref s.heap.objs.size) {s with heap:=h',toks:=tk}) :
  RA (RJ prog w) A (call (.type "list") [.ref I]) Q E s:=by
 have hI:I<s.heap.objs.size:=by obtain⟨o,e,_⟩:=h1;exact RE e
 have hl:l<s.heap.objs.size:=by obtain⟨o,e,_⟩:=h2;exact RE e
 refine callType_codes F.called_list (F.typeCall_list_1 _) F.entry_list_init (code_list_new _ (Q₁:=λv s1=>v=.ref s.heap.objs.size/\s1={s with heap:=s.heap.push { cls:=.type "list",data:=.seq #[] } }) ⟨rfl,rfl⟩) ?_;rintro _ _ ⟨rfl,rfl⟩;have hS:(s.heap.push ({ cls:=.type "list",data:=.seq #[] }:Obj)).get? s.heap.objs.size=some { cls:=.type "list",data:=.seq #[] }:=RF _ rfl;refine⟨⟨_,hS,rfl⟩,F.args_list_init_2 _ _,?_⟩;have k1:(s.heap.push { cls:=.type "list",data:=.seq #[] }).IsRevIter I l ((items.size:Int)-1):=h1.at λo e=>Rx _ e;have k2:(s.heap.push { cls:=.type "list",data:=.seq #[] }).IsList l items:=by obtain⟨o,e,r⟩:=h2;exact⟨o,Rx _ e,r⟩
 unfold S4.«list.__init__»;refine Ro (Ro (SI hS rfl (Rv ?_)));refine Ro (wpAny_updateSeq hS rfl ?_ (by simp) (by simp));refine Ro (TB ?_);have hS2:((s.heap.push ({ cls:=.type "list",data:=.seq #[] }:Obj)).update s.heap.objs.size (R3 λ_=>#[])).get? s.heap.objs.size=some (R3 (λ_=>#[]) { cls:=.type "list",data:=.seq #[] }):=by exact S3 _ hS rfl
 have kp:∀b o,b≠s.heap.objs.size->(s.heap.push ({ cls:=.type "list",data:=.seq #[] }:Obj)).get? b=some o->((s.heap.push ({ cls:=.type "list",data:=.seq #[] }:Obj)).update s.heap.objs.size (R3 λ_=>#[])).get? b=some o:=λb o hb e=>by rw[TH _ _ _ _ hb];exact e
 have k1':=k1.at λo e=>kp I o (s_ hI) e;have k2':((s.heap.push ({ cls:=.type "list",data:=.seq #[] }:Obj)).update s.heap.objs.size (R3 λ_=>#[])).IsList l items:=by obtain⟨o,e,r⟩:=k2;exact⟨o,kp l o (s_ hl) e,r⟩
 generalize (s.heap.push ({ cls:=.type "list",data:=.seq #[] }:Obj)).update s.heap.objs.size (R3 λ_=>#[])=h2' at *;show RA (RJ prog w) A.in1.in1 (UO (.ref s.heap.objs.size) (.ref I) .none) _ _ {s with heap:=h2'};unfold UO;refine Ro (XF (T:="list_reverseiterator") (X8 (s:={s with heap:=h2'}) k1') ?_);refine SD (λc=>absurd c ?_) (λ_=>?_)
 ·have e:Vg (.ref s.heap.objs.size) (.ref I)=false:=by unfold Vg;exact beq_eq_false_iff_ne.mpr (λz=>s_ hI z.symm)
  rw[e]
  decide
 refine Ro (wpAny_pyIter_revIter k1' ?_);refine Ro (R1 (DS k1' ?_));refine SD (λc=>absurd c (by decide)) (λ_=>?_);refine Rv ⟨plainId_quiet F.plain_extend_loop _,?_⟩;have W:=(Walks.listRev (prog:=prog) (w:=w) (A:=A.in1.in1) hh I l jp items).toS;refine codeAny_extend_loopS W hn s.heap.objs.size (λz=>by rcases n_.mp z with z|z;exact s_ hI z.symm;exact s_ hl (C_.mp z).symm) .none items.size 0 {s with heap:=h2'} #[] _ rfl (A_ _) ⟨A_ _,by simpa using k1',k2'⟩ hS2 ⟨rfl,λj v e=>by simp at e⟩ λs' acc' c' m e it=>⟨rfl,?_⟩
 obtain⟨h',g',d',tk',os'⟩:=s';have e1:=m.gens;have e2:=m.drawn;have e3:=m.os;dsimp only at e1 e2 e3;subst e1 e2 e3;exact q h' tk' acc' c' (λb o hb eb=>m.heap b o (λz=>by rcases n_.mp z with z|z;exact s_ (RE eb) z;exact hb (C_.mp z)) (kp b o (s_ (RE eb)) (Rx _ eb))) e it
end ZR
namespace L2
open PySem PySem.Spec PyProof.Rows
variable {us:List Rq}{xs:List V}
section
variable{X:Cx}
theorem DX(h:Vals xs us):Vals xs.reverse us.reverse:=by
 have app:∀{a:List V}{b:List Rq}{c:List V}{d:List Rq},Vals a b->Vals c d->Vals (a++c) (b++d):=λ{a b c d} p q=>by
  induction p with
  |nil=>exact q
  |cons r _ ih=>exact .cons r ih
 induction h with
 |nil=>exact .nil
 |cons r _ ih=>
  rw[NB,NB];exact app ih (.cons r .nil)
theorem yP{e:RI}{te:TE}{p1 p2 pos1 np:Pos}(hc:X.calm=true)(hg1:Gl X "list")(hm1:X.mg "list"=none)(hg2:Gl X "reversed")(hm2:X.mg "reversed"=none)(he:PE X e te)
  (hs1:RN [e] X.env=[(false,RY e X.env)]:=by rfl) (hs2:RN [.Call (.Name "reversed" p2) [e] [] np] X.env=[(false,RY (.Call (.Name "reversed" p2) [e] [] np) X.env)]:=by rfl) :
  PE X (.Call (.Name "list" p1) [.Call (.Name "reversed" p2) [e] [] np] [] pos1) (λσ H Q=>te σ H λx H1=>∃l xs,x=.ref l/\SqL X.K H1 l xs/\New (.lst xs.reverse) H1 Q):=by
 intro ad s σ H Q I h;refine Tj (lH I hg1 hm1 boot_list (callWith_type1 ?_ (by rw[hs2];rfl) rfl));rw[hs2];refine SU ?_;refine Tj (lH I hg2 hm2 boot_reversed (callWith_type1 ?_ (by rw[hs1];rfl) rfl));rw[hs1];refine SU (thn (he ad s σ H _ I h) ?_);rintro u s1 ⟨x,H1,I1,r1,l,xs,ex,hl,q⟩;subst ex;cases r1;obtain⟨be,rv,pl,hz⟩:=I1.list hl;refine Rv ?_;refine call_reversed_list pl.isList ?_;have hlen:=rv.length;have li:l<s1.heap.objs.size:=by obtain⟨o,n,e,_⟩:=pl;exact RE e
 refine Rv ?_;have I2:Inv X ad σ H1 {s1 with heap:=s1.heap.push (revObj l ((be.toArray.size:Int)-1)) }:=I1.kept (t':=s1.toks) λb o e=>Rx _ e;obtain⟨f0,f1,f2,f3,f4,f5⟩:=I1.qM (b:=s1.heap.objs.size) (b_ _) (I1.hok.fresh (b_ _));refine ZR.tM (items:=be.toArray) (l:=l) (I2.ok.hd hc) (s_ li) ⟨_,RF _ rfl,rfl,rfl⟩ ?_ (by simp only[g_];lia) λh' tk acc c kp ea it=>?_
 ·obtain⟨o,e,r⟩:=pl.isList;exact⟨o,Rx _ e,r⟩
 have hacc:acc.toList=be.reverse:=by
  refine QH λj=>?_;rw[i_];by_cases hj:j<be.length
  ·have hja:j<acc.size:=by rw[it.1,g_];exact hj
   have ha:acc[j]?=some acc[j]:=v_ hja;have:=it.2 j _ ha;rw[ha,List.getElem?_reverse hj,<-this];simp
  rw[N_ (by rw[it.1,g_];lia),Nx (by rw[MR];lia)]
 have ea2:acc=be.reverse.toArray:=by rw[<-hacc]
 have hfr:H1 (s1.heap.objs.size+1)=none:=I1.hok.fresh (QL _);have esz:(s1.heap.push (revObj l ((be.toArray.size:Int)-1))).objs.size=s1.heap.objs.size+1:=by simp[Ug]
 dsimp only at ea ⊢;rw[esz]at ea ⊢;rw[ea2]at ea;refine⟨.ref (s1.heap.objs.size+1),_,I1.laid (t':=tk) (h':=h') (λb o e=>kp b o (s_ (RE e)) (Rx _ e)) (QL _) (show cV X.prog X.w _ h' _ (.lst xs.reverse)from⟨by rw[MR];exact hz,be.reverse,c,DX rv,ea⟩),rfl,q _ _ hfr (fO hfr _) ba⟩
theorem Bu(hc:X.calm=true):dJ X (.builtin "min") (λxs H Q=>∃a ns,xs=[.ref a]/\SqT X.K H a (ns.map V.int)/\ns≠[]/\∀r,jS ns r->Q (.int r) H):=by
 intro ad s σ H xs us Q I r h;obtain⟨a,ns,rfl,hq,jp,q⟩:=h;obtain⟨u,rfl,ru⟩:=vals1 r;cases ru;obtain⟨be,rv,p,z⟩:=I.tuple hq;obtain⟨ps,e1,e2⟩:=gD rv;have ei:R_ ps.toArray=be.toArray:=by simp[R_,e1]
 have hT:s.heap.IsTuple a (R_ ps.toArray):=by rw[ei];exact p
 have hlen:ps.length=ns.length:=by rw[<-e2];simp
 have hpos:0<ns.length:=Nh λz=>jp (M_ z);have li:a<s.heap.objs.size:=by obtain⟨o,e,_⟩:=p;exact RE e
 have hh:X.A.in1.handled=none:=I.ok.hd hc;have W1:=X3 (prog:=X.prog) (w:=X.w) hh s.heap.objs.size a (s_ li) (R_ ps.toArray);refine call_min_walk (R9 hT ⟨s.heap.objs.size,_,_,_,_,_,_,rfl,W1,?_,λb hb=>?_,?_,CmpOf.ints_lt (Tu ps.toArray) (λi v hv=>T_ hv),λv h' tk hv hk=>?_⟩)
 ·refine⟨⟨_,RF _ rfl,rfl,rfl⟩,?_⟩;obtain⟨o,e,r⟩:=hT;exact⟨o,Rx _ e,r⟩
 ·show b<(s.heap.push _).objs.size;have e:(s.heap.push { cls:=.type "tuple_iterator",data:=.fields #[.ref a,.int 0 0] }).objs.size=s.heap.objs.size+1:=by simp[Ug]
  rcases n_.mp hb with hb|hb
  ·rw[hb];simp[Ug]
  rw[C_.mp hb];exact u_ li (by simp[Ug])
 ·simp[R_];lia
 obtain⟨tv,rfl⟩:=T_ hv;obtain⟨b1,b2⟩:=argBest_lt (Tu ps.toArray) ((R_ ps.toArray).size-1);have es:(R_ ps.toArray).size=ns.length:=by simp[R_,hlen]
 have hi:Xi (λi j=>decide (Tu ps.toArray i<Tu ps.toArray j)) ((R_ ps.toArray).size-1)<ns.length:=by rw[es]at b1 ⊢;lia
 obtain⟨f0,f1,f2,f3,f4,f5⟩:=I.qM (b:=s.heap.objs.size) (b_ _) (I.hok.fresh (b_ _));have kk:∀b o,s.heap.get? b=some o->h'.get? b=some o:=λb o e=>hk b o (λz=>s_ (RE e) (C_.mp z)) (Rx _ e);refine⟨.int _,H,I.kept (t':=tk) kk,⟨tv,rfl⟩,q _ ⟨?_,λx hx=>?_⟩⟩
 ·rw[js e2 hi];exact Ni hi
 obtain⟨j,hj,rfl⟩:=Ou.mp hx;have:=b2 j (by rw[es];lia);rw[js e2 hj]at this;exact this
theorem BQ(hc:X.calm=true):dJ X (.builtin "max") (λxs H Q=>∃a ns,xs=[.ref a]/\SqT X.K H a (ns.map V.int)/\ns≠[]/\∀r,jT ns r->Q (.int r) H):=by
 intro ad s σ H xs us Q I r h;obtain⟨a,ns,rfl,hq,jp,q⟩:=h;obtain⟨u,rfl,ru⟩:=vals1 r;cases ru;obtain⟨be,rv,p,z⟩:=I.tuple hq;obtain⟨ps,e1,e2⟩:=gD rv;have ei:R_ ps.toArray=be.toArray:=by simp[R_,e1]
 have hT:s.heap.IsTuple a (R_ ps.toArray):=by rw[ei];exact p
 have hlen:ps.length=ns.length:=by rw[<-e2];simp
 have hpos:0<ns.length:=Nh λz=>jp (M_ z);have li:a<s.heap.objs.size:=by obtain⟨o,e,_⟩:=p;exact RE e
 have hh:X.A.in1.handled=none:=I.ok.hd hc;have W1:=X3 (prog:=X.prog) (w:=X.w) hh s.heap.objs.size a (s_ li) (R_ ps.toArray);refine call_max_walk (R9 hT ⟨s.heap.objs.size,_,_,_,_,_,_,rfl,W1,?_,λb hb=>?_,?_,CmpOf.ints_gt (Tu ps.toArray) (λi v hv=>T_ hv),λv h' tk hv hk=>?_⟩)
 ·refine⟨⟨_,RF _ rfl,rfl,rfl⟩,?_⟩;obtain⟨o,e,r⟩:=hT;exact⟨o,Rx _ e,r⟩
 ·show b<(s.heap.push _).objs.size;have e:(s.heap.push { cls:=.type "tuple_iterator",data:=.fields #[.ref a,.int 0 0] }).objs.size=s.heap.objs.size+1:=by simp[Ug]
  rcases n_.mp hb with hb|hb
  ·rw[hb];simp[Ug]
  rw[C_.mp hb];exact u_ li (by simp[Ug])
 ·simp[R_];lia
 obtain⟨tv,rfl⟩:=T_ hv;obtain⟨b1,b2⟩:=argBest_gt (Tu ps.toArray) ((R_ ps.toArray).size-1);have es:(R_ ps.toArray).size=ns.length:=by simp[R_,hlen]
 have hi:Xi (λi j=>decide (Tu ps.toArray i > Tu ps.toArray j)) ((R_ ps.toArray).size-1)<ns.length:=by rw[es]at b1 ⊢;lia
 obtain⟨f0,f1,f2,f3,f4,f5⟩:=I.qM (b:=s.heap.objs.size) (b_ _) (I.hok.fresh (b_ _));have kk:∀b o,s.heap.get? b=some o->h'.get? b=some o:=λb o e=>hk b o (λz=>s_ (RE e) (C_.mp z)) (Rx _ e);refine⟨.int _,H,I.kept (t':=tk) kk,⟨tv,rfl⟩,q _ ⟨?_,λx hx=>?_⟩⟩
 ·rw[js e2 hi];exact Ni hi
 obtain⟨j,hj,rfl⟩:=Ou.mp hx;have:=b2 j (by rw[es];lia);rw[js e2 hj]at this;exact this
end
noncomputable def cU{α:Type}(xs:List α)(a k:Int):List α:=(T5 (max 0 (min a xs.length)) xs.length k).filterMap (xs[·]?)
theorem GF(be:List Rq){i j:Int}(h0:0<=i)(h1:0<j):UK be.toArray (some i) none (some j)=(cU be i j).toArray:=by
 unfold UK cU;have e:SK (some i) none (some j) be.toArray.size=(max 0 (min i be.length),(be.length:Int),j):=by unfold SK;simp only[NW,g_];rw[if_pos h1,if_neg (by omega),if_pos h1]
 rw[e];simp
theorem uo(h:Vals xs us)(is:List Nat):Vals (is.filterMap (xs[·]?)) (is.filterMap (us[·]?)):=by
 have hl:=h.length;induction is with
 |nil=>exact .nil
 |cons i is ih=>
  by_cases hi:i<xs.length
  ·rw[NX (d_ hi),NX (d_ (by omega))];obtain⟨u,hu,ru⟩:=h.get (d_ hi);rw[d_ (by omega)]at hu;cases hu;exact .cons ru ih
  rw[NY (Nx (by omega)),NY (Nx (by omega))];exact ih
theorem wX{α:Type}(xs:List α){i j:Int}(h0:0<=i)(h1:0<j):(cU xs i j).length<=xs.length:=by
 unfold cU;refine p_ (List.length_filterMap_le _ _) ?_;unfold T5;rw[a_,NC,if_pos h1];split
 ·rename_i h;have:=ceilDiv_le ((xs.length:Int)-max 0 (min i xs.length)) j (by omega) (by omega);omega
 exact A_ _
section
variable{X:Cx}{e a k:RI}{te ta tk:TE}{pos p2:Pos}
theorem Bw(he:PE X e te)(ha:PE X a ta)(hk:PE X k tk):PE X (.Subscript e (.Slice (some a) none (some k) p2) pos) (λσ H Q=>te σ H λx H1=>ta σ H1 λy H2=>tk σ H2 λz H3=>∃i j l xs,y=.int i/\z=.int j/\0<=i/\0<j/\x=.ref l/\SqL X.K H3 l xs/\New (.lst (cU xs i j)) H3 Q):=by
 intro ad s σ H Q I h;refine U5 (thn (he ad s σ H _ I h) λv s1 ⟨x,H1,I1,r1,q1⟩=>?_);refine WA ?_;rw[UX];refine thn (ha ad s1 σ H1 _ I1 q1) λva s2 ⟨y,H2,I2,ry,q2⟩=>?_;rw[UW];refine Rv ?_;rw[UX];refine thn (hk ad s2 σ H2 _ I2 q2) λvk s3 ⟨z,H3,I3,rz,q3⟩=>?_;obtain⟨i,j,l,xs,rfl,rfl,h0,h1,rfl,hx,q⟩:=q3;obtain⟨ti,rfl⟩:=ry;obtain⟨tj,rfl⟩:=rz;cases r1;have I4:Inv X ad σ H3 {s3 with heap:=s3.heap.push { cls:=.type "slice",data:=.fields #[.int i ti,.none,.int j tj] } }:=I3.kept (t':=s3.toks) λb ob q=>Rx _ q;show RA (RJ X.prog X.w) X.A (Tg e (.Slice (some a) none (some k) p2) (.ref l) (.ref s3.heap.objs.size)) (EP X ad σ Q) X.xe {s3 with heap:=s3.heap.push { cls:=.type "slice",data:=.fields #[.int i ti,.none,.int j tj] } };obtain⟨be,r,ht,hz⟩:=I4.list hx;have hlen:=r.length;refine WH (ops:=[.ref l,.ref s3.heap.objs.size]) ht.isList.typeIs slot_list_getitem.lookup ?_ (by with_unfolding_all rfl);refine TU ht.isList (UJ ..) (.int _ _) .none (.int _ _) (λz=>by cases z;omega) ?_ (by rw[g_] <;> omega);rw[GF be h0 h1];have hv:Vals (cU xs i j) (cU be i j):=by unfold cU;rw[hlen];exact uo r _
 refine⟨.ref _,_,I4.laid (t':=s3.toks) (o:=.lst (cU xs i j)) (λb ob q=>Rx _ q) (b_ _) ?_,rfl,q.at (I4.hok.fresh (b_ _))⟩;exact⟨p_ (wX xs h0 h1) hz,_,0,hv,RF _ rfl⟩
end
end L2
namespace ZM
open PySem
section
variable{prog:RC}{w:RK}{A:RS}{E:Rq->Ru->Prop}{s:Ru}
theorem Gk{Q:Bool->Ru->Prop}{n m:Int}{t u:Tok}(q:Q (decide (n=m)) s):RA (RJ prog w) A (eqBool (.int n t) (.int m u)) Q E s:=Ua (by
 have:(n == m)=decide (n=m):=by by_cases z:n=m <;> simp[z]
 rw[this];exact q)
noncomputable def lx:List Int->List Int->Bool
 | [],[]=>false
 | [],_::_=>true
 | _::_,[]=>false
 |a::x,b::y=>if a=b then lx x y else decide (a<b)
noncomputable def IntsAre:List Rq->List Int->Prop
 | [],[]=>True
 |v::l,n::r=>(∃t,v=.int n t)/\IntsAre l r
 | _,_=>False
theorem Ga{M:Tp}{F:Rq×Rq->Option Fin×Unit->Sem (ForInStep (Option Fin×Unit))}{R:Option Fin×Unit->Ru->Prop}{cmp:Int->Int->Bool}{lxx:List Int->List Int->Option Bool}
  (h0:∀l,lxx [] l=none) (h1:∀l,lxx l []=none) (h2:∀a x b y,lxx (a::x) (b::y)=if a=b then lxx x y else some (cmp a b))
  (hF:∀(n m:Int) (t u:Tok) (Q:ForInStep (Option Fin×Unit)->Ru->Prop),(if n=m then Q (.yield (none,())) s else Q (.done (some (.done (.ret (.bool (cmp n m)))),())) s)->RA M A (F (.int n t,.int m u) (none,())) Q E s) :
  ∀(l1 l2:List Rq) (n1 n2:List Int),IntsAre l1 n1->IntsAre l2 n2->R ((lxx n1 n2).map λb=>.done (.ret (.bool b)),()) s->RA M A (forIn (l1.zip l2) (none,()) F) R E s:=by
 intro l1;induction l1 with
 |nil=>
  intro l2 n1 n2 i1 i2 r;cases n1 with
  |nil=>rw[h0]at r;exact Rv r
  |cons n n1=>exact i1.elim
 |cons v l1 ih=>
  intro l2 n1 n2 i1 i2 r;cases n1 with
  |nil=>exact i1.elim
  |cons n n1=>
   cases l2 with
   |nil=>
    cases n2 with
    |nil=>rw[h1]at r;exact Rv r
    |cons m n2=>exact i2.elim
   |cons v2 l2=>
    cases n2 with
    |nil=>exact i2.elim
    |cons m n2=>
     obtain⟨⟨t,rfl⟩,i1⟩:=i1;obtain⟨⟨u,rfl⟩,i2⟩:=i2;rw[Pg,O3];refine Ro (hF n m t u _ ?_);rw[h2]at r;by_cases z:n=m
     ·rw[if_pos z]at r ⊢;exact ih l2 n1 n2 i1 i2 r
     rw[if_neg z]at r ⊢;exact Rv r
noncomputable def lxo:List Int->List Int->Option Bool
 |a::x,b::y=>if a=b then lxo x y else some (decide (a<b))
 | _,_=>none
theorem JW:∀(x y:List Int),(lxo x y).getD (decide (x.length<y.length))=lx x y:=by
 intro x;induction x with
 |nil=>
  intro y;cases y with
  |nil=>rfl
  |cons b y=>rfl
 |cons a x ih=>
  intro y;cases y with
  |nil=>rfl
  |cons b y=>
   rw[lxo,lx];by_cases z:a=b
   ·rw[if_pos z,if_pos z,<-ih,j_,j_];congr 1;exact decide_eq_decide.mpr (by omega)
   rw[if_neg z,if_neg z];rfl
theorem Eh:∀{l:List Rq}{n:List Int},IntsAre l n->l.length=n.length:=by
 intro l;induction l with
 |nil=>
  intro n h;cases n with
  |nil=>rfl
  |cons a n=>exact h.elim
 |cons v l ih=>
  intro n h;cases n with
  |nil=>exact h.elim
  |cons a n=>rw[j_,j_,ih h.2]
theorem Jr{a b:Rt}{oa ob:Obj}{xs ys:Array Rq}{na nb:Nat}{n1 n2:List Int}{Q:Rq->Ru->Prop}(ha:s.heap.get? a=some oa)(ca:oa.cls=.type "tuple")(da:oa.data=.seq xs na)(hb:s.heap.get? b=some ob)(cb:ob.cls=.type "tuple")(db:ob.data=.seq ys nb)(hu:A.units<cLine)(i1:IntsAre xs.toList n1)(i2:IntsAre ys.toList n2)(q:Q (.bool (lx n1 n2)) s):RA (RJ prog w) A (richCompare .Lt (.ref a) (.ref b)) Q E s:=by
 refine wpAny_richCompare_same_room (T:="tuple") ⟨_,ha,ca⟩ ⟨_,hb,cb⟩ VM (Sm VM ⟨_,ha,ca⟩ PySem.F.entry_tuple_lt ?_ (PySem.F.args_tuple_lt_2 _ _)) hu;show RA _ _ (isInstance (.ref b) (.type "tuple") >>= _) _ _ _;refine Ro (Ub (T:="tuple") (b:=true) ⟨_,hb,cb⟩ (by rw[Xk];rfl) ?_);refine SD (λc=>absurd c (by decide)) (λ_=>?_);refine Ro (Wk ha da (Ro (Wk hb db (Ro ?_))));refine Ga (cmp:=λa b=>decide (a<b)) (lxx:=lxo) (λl=>rfl) (λl=>by cases l <;> rfl) (λa x b y=>rfl) (λn m t u Q h=>?_) xs.toList ys.toList n1 n2 i1 i2 ?_
 ·refine Ro (Gk ?_);by_cases z:n=m
  ·rw[if_pos z]at h;rw[decide_eq_true z];exact Rv h
  rw[if_neg z]at h;rw[decide_eq_false z];refine SD (λ_=>?_) (λc=>absurd rfl c);exact Ro (S7 (Ro (richCompare_gives (op:=.Lt) (WW s n t) (WW s m u) PySem.F.slot_int_lt PySem.F.entry_int_lt (PySem.F.args_int_lt_2 _ _) (gives_int_lt n m t u) (λz=>nomatch z) (Ro (Rv (Rv h))))))
 have e:=JW n1 n2;have l1:=Eh i1;have l2:=Eh i2;cases hl:lxo n1 n2 with
 |some b=>
  rw[hl]at e;have e:b=lx n1 n2:=e;exact Rv ⟨_,rfl,(λz=>nomatch z),by rw[e];exact q⟩
 |none=>
  rw[hl]at e;have e:decide (n1.length<n2.length)=lx n1 n2:=e;refine Rv ⟨_,rfl,(λz=>nomatch z),?_⟩;show Q (.bool (decide (xs.size<ys.size))) s;rw[<-h_,<-h_,l1,l2,e];exact q
end
end ZM
namespace L2
open PySem PySem.Spec PyProof.Rows
section
variable{X:Cx}
theorem oz:∀{ns:List Int}{us:List Rq},Vals (ns.map V.int) us->ZM.IntsAre us ns:=by
 intro ns;induction ns with
 |nil=>intro us h;cases h;exact trivial
 |cons n ns ih=>
  intro us h;cases h with
  |cons r t=>exact⟨r,ih t⟩
end
end L2
namespace ZS
open PySem PyProof.Rows
noncomputable def gal:Bool->Keyed->Array Keyed->Nat->Nat->Nat->StateT SortSt Sem (Option Nat):=sortPriv% PySem.Builtin.gallop
noncomputable def mLo:Array Keyed->Array Keyed->StateT SortSt Sem (Array Keyed):=sortPriv% PySem.Builtin.mergeLo
noncomputable def mHi:Array Keyed->Array Keyed->StateT SortSt Sem (Array Keyed):=sortPriv% PySem.Builtin.mergeHi
noncomputable def bey(lf:Bool)(ky:Ry)(ar:Array Ry)(b0 i:Nat):StateT RD Sem (Option Bool):=do
 let xx <-R7 ar (b0+i)
 if lf then lt' xx ky else return (<-lt' ky xx).map (!·)
def mV(lf:Bool)(ky:Ry)(ar:Array Ry)(b0 n l0 h0:Nat):StateT RD Sem (Option Nat):=do
 let mut l:=l0
 let mut h:=h0
 for _ in [0:n]do
  if l>=h then break
  let m:=l+(h-l)/2
  let some mo <-bey lf ky ar b0 m | return none
  if mo then l:=m+1 else h:=m
 return some h
def HQ(lf:Bool)(ky:Ry)(ar:Array Ry)(b0 n h0:Nat):StateT RD Sem (Option Nat):=do
 let mut la:=0
 let mut of:=1
 for _ in [0:n]do
  if of>=n-h0 then break
  let some mo <-bey lf ky ar b0 (h0+of) | return none
  if !mo then break
  la:=of
  of:=2*of+1
 mV lf ky ar b0 n (h0+la+1) (h0+min of (n-h0))
def AJ(lf:Bool)(ky:Ry)(ar:Array Ry)(b0 n h0:Nat):StateT RD Sem (Option Nat):=do
 let mut la:=0
 let mut of:=1
 for _ in [0:n]do
  if of>=h0+1 then break
  let some fo <-bey lf ky ar b0 (h0-of) | return none
  if fo then break
  la:=of
  of:=2*of+1
 mV lf ky ar b0 n (h0+1-min of (h0+1)) (h0-la)
theorem Jf(lf:Bool)(ky:Ry)(ar:Array Ry)(b0 n h0:Nat):gal lf ky ar b0 n h0=(do
 let some rt <-bey lf ky ar b0 h0 | return none
 if rt then HQ lf ky ar b0 n h0 else AJ lf ky ar b0 n h0):=rfl
variable {Q:Option Nat->RD->Prop}{ar:Array Ry}{b0 n:Nat}{ky:Ry}{lf:Bool}{st:RD}
section
variable{M:Tp}{A:RS}{E:Rq->Ru->Prop}{s:Ru}
theorem JI{h0:Nat}{bd:Nat->Bool}(hh:h0<n)(hb:∀(i:Nat) (R:Option Bool->RD->Prop),i<n->R (some (bd i)) st->wpS M A E s (bey lf ky ar b0 i) R st)
  (mono:∀i j,i<=j->j<n->bd j=true->bd i=true) (h:∀k,k<=n->(∀i,i<k->bd i=true)->(∀i,k<=i->i<n->bd i=false)->Q (some k) st):wpS M A E s (gal lf ky ar b0 n h0) Q st:=by
 rw[Jf];have last:∀(l hi:Nat),l<=hi->hi<=n->(∀i,i<l->bd i=true)->(∀i,hi<=i->i<n->bd i=false)->wpS M A E s (mV lf ky ar b0 n l hi) Q st:=λl hi h1 h2 h3 h4=>by
  unfold mV;dsimp only;refine RB (R6 (I:=λx c ap=>ap=st/\∃l hi,c=(none,l,hi)/\l<=hi/\hi<=n/\hi-l<=n-x/\(∀i,i<l->bd i=true)/\(∀i,hi<=i->i<n->bd i=false)) ?_ ?_ ⟨rfl,l,hi,rfl,h1,h2,by lia,h3,h4⟩)
  ·rintro x c ap _ hx ⟨rfl,l,hi,rfl,g1,g2,g3,g4,g5⟩;dsimp only;by_cases z:l>=hi
   ·rw[if_pos z];have e:l=hi:=by lia
    subst e;exact RH (RH (h l g2 g4 g5))
   rw[if_neg z];have m1:l<=l+(hi-l)/2:=P0 ..;have m2:l+(hi-l)/2<hi:=by omega
   generalize l+(hi-l)/2=m at m1 m2 ⊢;have m3:=u_ m2 g2;refine RB (hb _ _ m3 ?_);dsimp only;cases e:bd m with
   |true=>
    simp only[if_true];exact RH ⟨rfl,_,_,rfl,m2,g2,by lia,λi hi'=>mono i _ (OR hi') m3 e,g5⟩
   |false=>
    simp only[C',if_false];refine RH ⟨rfl,_,_,rfl,m1,L' m3,by lia,g4,λi h1 h2=>?_⟩;cases e2:bd i with
    |false=>rfl
    |true=>rw[mono _ i h1 h2 e2]at e;cases e
  rintro c ap ⟨rfl,l,hi,rfl,g1,g2,g3,g4,g5⟩;have e:l=hi:=by lia
  subst e;exact RH (h l g2 g4 g5)
 have up:∀la of,la<of->h0+la<n->bd (h0+la)=true->(n-h0<=of\/bd (h0+of)=false)->wpS M A E s (mV lf ky ar b0 n (h0+la+1) (h0+min of (n-h0))) Q st:=λla of g1 g3 g4 g5=>by
  have k1:h0+min of (n-h0)<=n:=by lia
  refine last _ _ (by lia) k1 (λi hi=>mono i _ (OR hi) g3 g4) (λi h1 h2=>?_);rcases g5 with g5|g5
  ·rw[OY g5]at h1;lia
  cases e2:bd i with
  |false=>rfl
  |true=>rw[mono (h0+of) i (by lia) h2 e2]at g5;cases g5
 have dwn:∀la of,la<of->la<=h0->bd (h0-la)=false->(h0+1<=of\/of<=h0/\bd (h0-of)=true)->wpS M A E s (mV lf ky ar b0 n (h0+1-min of (h0+1)) (h0-la)) Q st:=λla of g1 g3 g4 g5=>by
  refine last _ _ (by omega) (p_ (Nz ..) (L' hh)) (λi hi=>?_) (λi h1 h2=>?_)
  ·rcases g5 with g5|⟨g5,g6⟩
   ·rw[OY g5,O4]at hi;exact absurd hi (Qc _)
   rw[N7 (QI g5)]at hi;exact mono i _ (by lia) (MX (Nz ..) hh) g6
  cases e2:bd i with
  |false=>rfl
  |true=>rw[mono (h0-la) i h1 h2 e2]at g4;cases g4
 refine RB (hb _ _ hh ?_);dsimp only;cases e0:bd h0 with
 |true=>
  simp only[if_true];unfold HQ;dsimp only;refine RB (R6 (I:=λx c ap=>ap=st/\∃la of,c=(none,la,of)/\la<of/\x+1<=of/\h0+la<n/\bd (h0+la)=true) ?_ ?_ ⟨rfl,0,1,rfl,Oa,b_ _,hh,e0⟩)
  ·rintro x c ap _ hx ⟨rfl,la,of,rfl,g1,g2,g3,g4⟩;dsimp only;by_cases z:of>=n-h0
   ·rw[if_pos z];exact RH (up la of g1 g3 g4 (.inl z))
   rw[if_neg z];refine RB (hb _ _ (by lia) ?_);dsimp only;cases e:bd (h0+of)with
   |false=>
    simp only[Pc,if_true];exact RH (up la of g1 g3 g4 (.inr e))
   |true=>
    simp only[Po,C',if_false];exact RH ⟨rfl,_,_,rfl,by lia,by lia,by lia,e⟩
  ·rintro c ap ⟨rfl,la,of,rfl,g1,g2,g3,g4⟩;exact up la of g1 g3 g4 (.inl (by lia))
 |false=>
  simp only[C',if_false];unfold AJ;dsimp only;refine RB (R6 (I:=λx c ap=>ap=st/\∃la of,c=(none,la,of)/\la<of/\x+1<=of/\la<=h0/\bd (h0-la)=false) ?_ ?_ ⟨rfl,0,1,rfl,Oa,b_ _,A_ _,e0⟩)
  ·rintro x c ap _ hx ⟨rfl,la,of,rfl,g1,g2,g3,g4⟩;dsimp only;by_cases z:of>=h0+1
   ·rw[if_pos z];exact RH (dwn la of g1 g3 g4 (.inl z))
   rw[if_neg z];have z:=Nat.lt_succ_iff.mp (QP z);refine RB (hb _ _ (MX (Nz ..) hh) ?_);dsimp only;cases e:bd (h0-of)with
   |true=>
    simp only[if_true];exact RH (dwn la of g1 g3 g4 (.inr ⟨z,e⟩))
   |false=>
    simp only[C',if_false];exact RH ⟨rfl,_,_,rfl,by lia,by lia,z,e⟩
  rintro c ap ⟨rfl,la,of,rfl,g1,g2,g3,g4⟩;exact dwn la of g1 g3 g4 (.inl (by lia))
end
noncomputable def setG(g:Nat):StateT RD Sem Unit:=modify λs=>S9 (kindOf s) (Rz s) (RO s) g (R8 s)
noncomputable def dn(a b out:Array Ry)(i j:Nat):Array Ry:=out++a.extract i a.size++b.extract j b.size
noncomputable def nH(a b out:Array Ry)(i j:Nat):Array Ry:=out++b.extract j b.size++a.extract i a.size
theorem Je(a b:Array Ry):mLo a b=(do
 rule "list.sort.merge-lo"
 let mut out:Array Ry:=#[<-R7 b 0]
 let mut i:=0
 let mut j:=1
 if j == b.size then return dn a b out i j
 if i+1 == a.size then return nH a b out i j
 let mut mg:=Vh (<-get)
 for _ in [0:a.size+b.size]do
  let mut ca:=0
  let mut cb:=0
  for _ in [0:a.size+b.size]do
   let some bw <-lt' (<-R7 b j) (<-R7 a i) | return dn a b out i j
   if bw then
    out:=out.push (<-R7 b j);j:=j+1;cb:=cb+1;ca:=0
    if j == b.size then return dn a b out i j
    if cb>=mg then break
   else
    out:=out.push (<-R7 a i);i:=i+1;ca:=ca+1;cb:=0
    if i+1 == a.size then return nH a b out i j
    if ca>=mg then break
  rule "list.sort.gallop"
  mg:=mg+1
  for _ in [0:a.size+b.size]do
   if mg > 1 then mg:=mg-1
   setG mg
   let some k <-gal false (<-R7 b j) a i (a.size-i) 0 | return dn a b out i j
   ca:=k
   if k > 0 then
    out:=out++a.extract i (i+k);i:=i+k
    if i+1 == a.size then return nH a b out i j
    if i == a.size then return dn a b out i j
   out:=out.push (<-R7 b j);j:=j+1
   if j == b.size then return dn a b out i j
   let some k <-gal true (<-R7 a i) b j (b.size-j) 0 | return dn a b out i j
   cb:=k
   if k > 0 then
    out:=out++b.extract j (j+k);j:=j+k
    if j == b.size then return dn a b out i j
   out:=out.push (<-R7 a i);i:=i+1
   if i+1 == a.size then return nH a b out i j
   if ca<7&&cb<7 then break
  mg:=mg+1
  setG mg
 unsupported "internal:list.sort.merge-bound"):=rfl
abbrev GS:=Option (Array Ry)×Array Ry×Nat×Nat×Nat×Nat×Nat
abbrev FS:=Option (Array Ry)×Array Ry×Nat×Nat×Nat×Nat
abbrev OS:=Option (Array Ry)×Array Ry×Nat×Nat×Nat
def g3(a b out:Array Ry)(i j mg ca cb:Nat):StateT RD Sem (ForInStep GS):=do
 let y <-R7 a i
 if(i+1+1 == a.size)=true then pure (RG (some (nH a b (out.push y) (i+1) j),out.push y,i+1,j,mg,ca,cb))
 else if(decide (ca<7)&&decide (cb<7))=true then pure (RG (none,out.push y,i+1,j,mg,ca,cb))
 else pure (RQ (none,out.push y,i+1,j,mg,ca,cb))
def g2(a b out:Array Ry)(i j mg ca cb:Nat):StateT RD Sem (ForInStep GS):=do
 let y <-R7 b j
 if(j+1 == b.size)=true then pure (RG (some (dn a b (out.push y) i (j+1)),out.push y,i,j+1,mg,ca,cb))
 else do
  let z <-R7 a i
  let some k <-gal true z b (j+1) (b.size-(j+1)) 0 | pure (RG (some (dn a b (out.push y) i (j+1)),out.push y,i,j+1,mg,ca,cb))
  if k > 0 then
    if(j+1+k == b.size)=true then pure (RG (some (dn a b (out.push y++b.extract (j+1) (j+1+k)) i (j+1+k)),out.push y++b.extract (j+1) (j+1+k),i,j+1+k,mg,ca,k))
    else g3 a b (out.push y++b.extract (j+1) (j+1+k)) i (j+1+k) mg ca k
  else g3 a b (out.push y) i (j+1) mg ca k
def g1(a b out:Array Ry)(i j mg ca cb:Nat):StateT RD Sem (ForInStep GS):=do
 setG mg
 let y <-R7 b j
 let some k <-gal false y a i (a.size-i) 0 | pure (RG (some (dn a b out i j),out,i,j,mg,ca,cb))
 if k > 0 then
   if(i+k+1 == a.size)=true then pure (RG (some (nH a b (out++a.extract i (i+k)) (i+k) j),out++a.extract i (i+k),i+k,j,mg,k,cb))
   else if(i+k == a.size)=true then pure (RG (some (dn a b (out++a.extract i (i+k)) (i+k) j),out++a.extract i (i+k),i+k,j,mg,k,cb))
   else g2 a b (out++a.extract i (i+k)) (i+k) j mg k cb
 else g2 a b out i j mg k cb
def f1(a b out:Array Ry)(i j ca cb mg:Nat):StateT RD Sem (ForInStep FS):=do
 let y <-R7 b j
 let z <-R7 a i
 let some bw <-lt' y z | pure (RG (some (dn a b out i j),out,i,j,ca,cb))
 if bw=true then do
   let y <-R7 b j
   if(j+1 == b.size)=true then pure (RG (some (dn a b (out.push y) i (j+1)),out.push y,i,j+1,0,cb+1))
   else if cb+1>=mg then pure (RG (none,out.push y,i,j+1,0,cb+1))else pure (RQ (none,out.push y,i,j+1,0,cb+1))
 else do
   let z <-R7 a i
   if(i+1+1 == a.size)=true then pure (RG (some (nH a b (out.push z) (i+1) j),out.push z,i+1,j,ca+1,0))
   else if ca+1>=mg then pure (RG (none,out.push z,i+1,j,ca+1,0))else pure (RQ (none,out.push z,i+1,j,ca+1,0))
def oLo(a b:Array Ry)(c:OS):StateT RD Sem (ForInStep OS):=do
 let r <-forIn [0:a.size+b.size] ((none,c.2.1,c.2.2.1,c.2.2.2.1,0,0):FS) λ_ d=>f1 a b d.2.1 d.2.2.1 d.2.2.2.1 d.2.2.2.2.1 d.2.2.2.2.2 c.2.2.2.2
 match r.1 with
 |some q=>pure (RG (some q,r.2.1,r.2.2.1,r.2.2.2.1,c.2.2.2.2))
 |none=>do
  liftM (rule "list.sort.gallop")
  let e <-forIn [0:a.size+b.size] ((none,r.2.1,r.2.2.1,r.2.2.2.1,c.2.2.2.2+1,r.2.2.2.2.1,r.2.2.2.2.2):GS) λ_ d=>
   if d.2.2.2.2.1 > 1 then g1 a b d.2.1 d.2.2.1 d.2.2.2.1 (d.2.2.2.2.1-1) d.2.2.2.2.2.1 d.2.2.2.2.2.2 else g1 a b d.2.1 d.2.2.1 d.2.2.2.1 d.2.2.2.2.1 d.2.2.2.2.2.1 d.2.2.2.2.2.2
  match e.1 with
  |some q=>pure (RG (some q,e.2.1,e.2.2.1,e.2.2.2.1,e.2.2.2.2.1))
  |none=>do
   setG (e.2.2.2.2.1+1)
   pure (RQ (none,e.2.1,e.2.2.1,e.2.2.2.1,e.2.2.2.2.1+1))
set_option maxHeartbeats 2000000 in
theorem FR(a b:Array Ry):mLo a b=(do
  liftM (rule "list.sort.merge-lo")
  let y <-R7 b 0
  if(1 == b.size)=true then pure (dn a b #[y] 0 1)
  else if(0+1 == a.size)=true then pure (nH a b #[y] 0 1)
  else do
   let st <-get
   let r <-forIn [0:a.size+b.size] ((none,#[y],0,1,Vh st):OS) λ_ c=>oLo a b c
   match r.1 with
   |some q=>pure q
   |none=>liftM (unsupported "internal:list.sort.merge-bound":Sem (Array Ry))):=by
 rw[Je];unfold oLo;refine congrArg (bind _) (funext λ_=>?_);refine congrArg (bind _) (funext λy=>?_);refine ite_congr rfl (λ_=>rfl) (λ_=>?_);refine ite_congr rfl (λ_=>rfl) (λ_=>?_);refine congrArg (bind _) (funext λst=>?_);refine congr (congrArg bind (congrArg (forIn _ _) (funext λ_=>funext λc=>?_))) ?_
 ·refine congr (congrArg bind (congrArg (forIn _ _) (funext λ_=>funext λd=>?_))) ?_
  ·unfold f1
   rfl
  funext r;obtain⟨r1,r2⟩:=r;cases r1 with
  |some q=>rfl
  |none=>
   refine congrArg (bind _) (funext λ_=>?_);refine congr (congrArg bind (congrArg (forIn _ _) (funext λ_=>funext λd=>?_))) ?_
   ·
    unfold g1;refine ite_congr rfl (λ_=>?_) (λ_=>?_)
    all_goals
     refine congrArg (bind _) (funext λ_=>?_);refine congrArg (bind _) (funext λy=>?_);refine congrArg (bind _) (funext λr=>?_);cases r with
     |none=>rfl
     |some k=>
      refine ite_congr rfl (λ_=>?_) (λ_=>?_)
      ·refine ite_congr rfl (λ_=>rfl) (λ_=>?_);refine ite_congr rfl (λ_=>rfl) (λ_=>?_);unfold g2
       rfl
      unfold g2
      rfl
   funext e;obtain⟨e1,e2⟩:=e;cases e1 <;> rfl
 funext e;obtain⟨e1,e2⟩:=e;cases e1 <;> rfl
noncomputable def jK(M:Tp)(A:RS)(E:Rq->Ru->Prop)(s:Ru)(kd:SQ)(rk:Ry->Nat)(S:Ry->Prop):Prop:=
 ∀(x y:Ry) (st:RD) (Q:Option Bool->RD->Prop),S x->S y->kindOf st=kd->Q (some (decide (rk x<rk y))) st->wpS M A E s (lt' x y) Q st
structure Keep (st ap:RD):Prop where
 k:kindOf ap=kindOf st
 a:Rz ap=Rz st
 p:RO ap=RO st
 f:R8 ap=R8 st
theorem Keep.iW :Keep st st:=⟨rfl,rfl,rfl,rfl⟩
theorem Keep.g {st ap:RD}(h:Keep st ap)(g:Nat):Keep st (S9 (kindOf ap) (Rz ap) (RO ap) g (R8 ap)):=⟨h.k,h.a,h.p,h.f⟩
variable {a b:List Ry}{i j:Nat}{y:Ry}
section
variable{rk:Ry->Nat}
abbrev Srt(rk:Ry->Nat)(l:List Ry):Prop:=l.Pairwise λx y=>rk x<=rk y
structure MS (rk:Ry->Nat) (a b out:List Ry) (i j:Nat):Prop where
 perm:out.Perm (a.take i++b.take j)
 srt:Srt rk out
 le:∀x∈out,(∀y∈a.drop i,rk x<=rk y)/\∀y∈b.drop j,rk x<=rk y
noncomputable def Res(rk:Ry->Nat)(a b r:List Ry):Prop:=r.Perm (a++b)/\Srt rk r
theorem MS.vi {out:List Ry}{k:Nat}(h:MS rk a b out i j)(sa:Srt rk a)(hc:∀y∈(a.drop i).take k,∀z∈b.drop j,rk y<=rk z):MS rk a b (out++(a.drop i).take k) (i+k) j:=by
 have sd:Srt rk (a.drop i):=MW (Of _ _) sa;have split:a.drop i=(a.drop i).take k++a.drop (i+k):=by rw[<-ON];exact(E_ k (a.drop i)).symm
 refine⟨?_,?_,λx hx=>?_⟩
 ·rw[Pq];refine(h.perm.append_right _).trans ?_;rw[gV,gV];exact L_ _ Na
 ·refine D_.mpr ⟨h.srt,MW (Od _ _) sd,λx hx y hy=>(h.le x hx).1 y (Nj hy)⟩
 rcases B_.mp hx with hx|hx
 ·refine⟨λy hy=>(h.le x hx).1 y ?_,(h.le x hx).2⟩;rw[split];exact r_ _ hy
 refine⟨λy hy=>?_,hc x hx⟩;rw[split]at sd;exact(D_.mp sd).2.2 x hx y hy
theorem MS.wc {out:List Ry}{k:Nat}(h:MS rk a b out i j)(sb:Srt rk b)(hc:∀y∈(b.drop j).take k,∀z∈a.drop i,rk y<=rk z):MS rk a b (out++(b.drop j).take k) i (j+k):=by
 have sd:Srt rk (b.drop j):=MW (Of _ _) sb;have split:b.drop j=(b.drop j).take k++b.drop (j+k):=by rw[<-ON];exact(E_ k (b.drop j)).symm
 refine⟨?_,?_,λx hx=>?_⟩
 ·rw[Pq,<-gV];exact h.perm.append_right _
 ·refine D_.mpr ⟨h.srt,MW (Od _ _) sd,λx hx y hy=>(h.le x hx).2 y (Nj hy)⟩
 rcases B_.mp hx with hx|hx
 ·refine⟨(h.le x hx).1,λy hy=>(h.le x hx).2 y ?_⟩;rw[split];exact r_ _ hy
 refine⟨hc x hx,λy hy=>?_⟩;rw[split]at sd;exact(D_.mp sd).2.2 x hx y hy
theorem MS.all {out:List Ry}(h:MS rk a b out i j)(h1:a.length<=i)(h2:b.length<=j):Res rk a b out:=by have:=h.perm;rw[MQ h1,MQ h2]at this;exact⟨this,h.srt⟩
theorem oW{l:List Ry}(i:Nat):(l.drop i).take l.length=l.drop i:=MQ (by rw[F'];lia)
theorem MS.done {out:List Ry}(h:MS rk a b out i j)(sa:Srt rk a)(sb:Srt rk b)(e:a.length<=i\/b.length<=j):Res rk a b (out++a.drop i++b.drop j):=by
 have h1:=h.vi (k:=a.length) sa λy hy z hz=>by
  rcases e with e|e
  ·rw[Nq e]at hy;simp at hy
  rw[Nq e]at hz;simp at hz
 have h2:=h1.wc (k:=b.length) sb λy hy z hz=>by rw[Nq (by lia)]at hz;simp at hz
 rw[oW,oW]at h2;exact h2.all (by lia) (by lia)
theorem MS.last {out:List Ry}(h:MS rk a b out i j)(sa:Srt rk a)(sb:Srt rk b)(e:∀y∈b.drop j,∀z∈a.drop i,rk y<=rk z):Res rk a b (out++b.drop j++a.drop i):=by
 have h1:=h.wc (k:=b.length) sb λy hy z hz=>e y (Nj hy) z hz;have h2:=h1.vi (k:=a.length) sa λy hy z hz=>by rw[Nq (by lia)]at hz;simp at hz
 rw[oW,oW]at h2;exact h2.all (by lia) (by lia)
theorem qT(a:Array Ry)(i:Nat):(a.extract i a.size).toList=a.toList.drop i:=by rw[Ow,Ny];exact MQ (by rw[F',h_];exact b_ _)
theorem pz(a:Array Ry)(i k:Nat):(a.extract i (i+k)).toList=(a.toList.drop i).take k:=by rw[Ow,Ny,OO]
theorem drop_one{l:List Ry}(h:l[i]?=some y):(l.drop i).take 1=[y]:=by obtain⟨hl,e⟩:=c_.mp h;rw[OD hl,List.take_succ_cons,List.take_zero,e]
theorem xG{l:List Ry}(h:l[i]?=some y)(s:Srt rk l):∀z∈l.drop i,rk y<=rk z:=by
 obtain⟨hl,e⟩:=c_.mp h;intro z hz;have sd:Srt rk (l.drop i):=MW (Of _ _) s;rw[OD hl,e]at sd hz;rcases n_.mp hz with rfl|hz
 ·exact b_ _
 exact(NL.mp sd).1 z hz
theorem si{l:List Ry}(s:Srt rk l){x:Ry}(kw:i<=j)(hx:l[i]?=some x)(hy:l[j]?=some y):rk x<=rk y:=by refine xG hx s y ?_;rw[Oj];exact⟨j-i,by rw[N8,show i+(j-i)=j by lia];exact hy⟩
theorem jI{l:List Ry}{k:Nat}(h:y∈(l.drop i).take k):∃j,j<k/\l[i+j]?=some y:=by
 obtain⟨j,hj⟩:=Oj.mp h;rw[N9]at hj;split at hj
 ·next li=>exact⟨j,li,by rw[N8]at hj;exact hj⟩
 cases hj
theorem n9{l:List Ry}(h:y∈l.drop i):∃j,l[i+j]?=some y:=by obtain⟨j,hj⟩:=Oj.mp h;exact⟨j,by rw[N8]at hj;exact hj⟩
end
variable {p:Ry}
section
variable{M:Tp}{A:RS}{E:Rq->Ru->Prop}{s:Ru}{kd:SQ}{rk:Ry->Nat}{S:Ry->Prop}
theorem cP{Q:Ry->RD->Prop}(h:ar[i]?=some p)(q:Q p st):wpS M A E s (R7 ar i) Q st:=by rw[elem'_eq,h];exact RH q
theorem Im{Q:Option Bool->RD->Prop}(L:jK M A E s kd rk S)(hk:kindOf st=kd)(hp:ar[b0+i]?=some p)(Sp:S p)(Sk:S ky)
  (q:Q (some (if lf=true then decide (rk p<rk ky)else !decide (rk ky<rk p))) st):wpS M A E s (bey lf ky ar b0 i) Q st:=by
 unfold bey;refine RB (cP hp ?_);cases lf with
 |true=>exact L p ky st _ Sp Sk hk q
 |false=>exact RB (L ky p st _ Sk Sp hk (RH q))
theorem nh{h0:Nat}(L:jK M A E s kd rk S)(hk:kindOf st=kd)(hh:h0<n)(hsz:b0+n<=ar.size)(Sa:∀(i:Nat) p,ar[i]?=some p->S p)(Sk:S ky)
  (srt:∀(i j:Nat) p q,i<=j->j<n->ar[b0+i]?=some p->ar[b0+j]?=some q->rk p<=rk q)
  (h:∀k,k<=n->(∀(i:Nat) p,i<k->ar[b0+i]?=some p->if lf=true then rk p<rk ky else rk p<=rk ky)->(∀(i:Nat) p,k<=i->i<n->ar[b0+i]?=some p->if lf=true then rk ky<=rk p else rk ky<rk p)->Q (some k) st) :
  wpS M A E s (gal lf ky ar b0 n h0) Q st:=by
 have get:∀i,i<n->ar[b0+i]?=some (ar.getD (b0+i) (R4,R4)):=λi hi=>by
  rw[Array.getD_eq_getD_getElem?,v_ (by lia)]
  rfl
 refine JI (bd:=λi=>if lf=true then decide (rk (ar.getD (b0+i) (R4,R4))<rk ky)else !decide (rk ky<rk (ar.getD (b0+i) (R4,R4)))) hh (λi R hi r=>Im L hk (get i hi) (Sa _ _ (get i hi)) Sk r) ?_ ?_
 ·intro i j kw hj hb;have:=srt i j _ _ kw hj (get i (by lia)) (get j hj);cases lf with
  |true=>
   simp only[if_true,decide_eq_true_eq]at hb ⊢;lia
  |false=>
   simp only[C',if_false,Bool.not_eq_true',decide_eq_false_iff_not]at hb ⊢;lia
 intro k hk' h1 h2;refine h k hk' (λi p hi hp=>?_) (λi p h3 h4 hp=>?_)
 ·have e:=get i (by lia);rw[hp]at e;cases e;have:=h1 i hi;cases lf with
  |true=>simpa using this
  |false=>simpa using this
 have e:=get i h4;rw[hp]at e;cases e;have:=h2 i h3 h4;cases lf with
 |true=>simpa using this
 |false=>simpa using this
theorem qS{g:Nat}{Q:Unit->RD->Prop}(q:Q () (S9 (kindOf st) (Rz st) (RO st) g (R8 st))):wpS M A E s (setG g) Q st:=Uu q
end
variable {ca cb lo mg:Nat}{out:Array Ry}{ap:RD}
section
variable{M:Tp}{A:RS}{E:Rq->Ru->Prop}{s:Ru}{kd:SQ}{rk:Ry->Nat}{S:Ry->Prop}{a b:Array Ry}
structure LoOk (rk:Ry->Nat) (S:Ry->Prop) (a b:Array Ry):Prop where
 sa:Srt rk a.toList
 sb:Srt rk b.toList
 Sa:∀(i:Nat) p,a[i]?=some p->S p
 Sb:∀(i:Nat) p,b[i]?=some p->S p
 pa:0<a.size
 pb:0<b.size
 first:∀p,b[0]?=some p->∀z∈a.toList,rk p<=rk z
 last:∀p,a[a.size-1]?=some p->∀z∈b.toList,rk z<=rk p
theorem LoOk.qP (h:LoOk rk S a b)(m:MS rk a.toList b.toList out.toList i j)(e:i+1=a.size):Res rk a.toList b.toList (nH a b out i j).toList:=by
 unfold nH;rw[MP,MP,qT,qT];refine m.last h.sa h.sb λy hy z hz=>?_;obtain⟨k,hk⟩:=n9 hz;have hk':i+k<a.toList.length:=(c_.mp hk).1;rw[h_]at hk';have k0:k=0:=by lia
 subst k0;refine h.last z ?_ y (NQ hy);rw[<-i_,show a.size-1=i+0 by lia];exact hk
theorem LoOk.oH (h:LoOk rk S a b)(m:MS rk a.toList b.toList out.toList i j)(e:a.size<=i\/b.size<=j):Res rk a.toList b.toList (dn a b out i j).toList:=by unfold dn;rw[MP,MP,qT,qT];exact m.done h.sa h.sb (by rw[h_,h_];exact e)
structure LI (rk:Ry->Nat) (a b out:Array Ry) (i j:Nat):Prop where
 m:MS rk a.toList b.toList out.toList i j
 i:i+1<a.size
 j:j<b.size
theorem MS.pL (m:MS rk a.toList b.toList out.toList i j)(H:LoOk rk S a b)(hy:b[j]?=some y)(hc:∀z∈a.toList.drop i,rk y<=rk z):MS rk a.toList b.toList (out.push y).toList i (j+1):=by
 have hy':b.toList[j]?=some y:=by rw[i_];exact hy
 have:=m.wc (k:=1) H.sb (by rw[drop_one hy'];intro w hw;rw[C_.mp hw];exact hc);rw[drop_one hy']at this;rw[Og];exact this
theorem MS.pY (m:MS rk a.toList b.toList out.toList i j)(H:LoOk rk S a b)(hy:a[i]?=some y)(hc:∀z∈b.toList.drop j,rk y<=rk z):MS rk a.toList b.toList (out.push y).toList (i+1) j:=by
 have hy':a.toList[i]?=some y:=by rw[i_];exact hy
 have:=m.vi (k:=1) H.sa (by rw[drop_one hy'];intro w hw;rw[C_.mp hw];exact hc);rw[drop_one hy']at this;rw[Og];exact this
theorem oY{l:Array Ry}(srt:Srt rk l.toList)(hy:l[i]?=some y):∀z∈l.toList.drop i,rk y<=rk z:=xG (by rw[i_];exact hy) srt
def lh(rk:Ry->Nat)(a b:Array Ry)(lo:Nat)(st:RD)(r:Option (Array Ry))(out:Array Ry)(i j:Nat)(ap:RD):Prop:=
 Keep st ap/\match r with
 |some q=>Res rk a.toList b.toList q.toList
 |none=>LI rk a b out i j/\lo<i+j
theorem KY{Q:ForInStep FS->RD->Prop}(L:jK M A E s kd rk S)(H:LoOk rk S a b)(hk:kindOf st=kd)(K:Keep st ap)(I:LI rk a b out i j)
  (h:∀(d:Bool) (c:FS),lh rk a b (i+j) st c.1 c.2.1 c.2.2.1 c.2.2.2.1 ap->(d=false->c.1=none)->Q (if d=true then RG c else RQ c) ap):wpS M A E s (f1 a b out i j ca cb mg) Q ap:=by
 have hi:i<a.size:=by have:=I.i;lia
 obtain⟨y,hy⟩:∃y,b[j]?=some y:=⟨_,v_ I.j⟩;obtain⟨z,hz⟩:∃z,a[i]?=some z:=⟨_,v_ hi⟩;unfold f1;refine RB (cP hy (RB (cP hz (RB (L y z ap _ (H.Sb _ _ hy) (H.Sa _ _ hz) (K.k.trans hk) ?_)))));dsimp only;by_cases w:rk y<rk z
 ·rw[decide_eq_true w,if_pos rfl];have m:=I.m.pL H hy λu hu=>p_ (L' w) (oY H.sa hz u hu);refine RB (cP hy ?_);by_cases e:j+1=b.size
  ·rw[if_pos (by rw[e];exact beq_self_eq_true _)];exact RH (h true _ ⟨K,H.oH m (.inr (by lia))⟩ (λz=>nomatch z))
  rw[if_neg (by simpa using e)];have I2:LI rk a b (out.push y) i (j+1):=⟨m,I.i,by have:=I.j;lia⟩;split
  ·exact RH (h true _ ⟨K,I2,by dsimp only;lia⟩ (λz=>nomatch z))
  exact RH (h false _ ⟨K,I2,by dsimp only;lia⟩ (λ_=>rfl))
 rw[decide_eq_false w,if_neg (by simp)];have m:=I.m.pY H hz λu hu=>p_ (by lia) (oY H.sb hy u hu)
 refine RB (cP hz ?_);by_cases e:i+1+1=a.size
 ·rw[if_pos (by rw[e];exact beq_self_eq_true _)];exact RH (h true _ ⟨K,H.qP m e⟩ (λz=>nomatch z))
 rw[if_neg (by simpa using e)];have I2:LI rk a b (out.push z) (i+1) j:=⟨m,by have:=I.i;lia,I.j⟩;split
 ·exact RH (h true _ ⟨K,I2,by dsimp only;lia⟩ (λz=>nomatch z))
 exact RH (h false _ ⟨K,I2,by dsimp only;lia⟩ (λ_=>rfl))
theorem HU{Q:ForInStep GS->RD->Prop}(H:LoOk rk S a b)(K:Keep st ap)(I:LI rk a b out i j)(hc:∀z,a[i]?=some z->∀u∈b.toList.drop j,rk z<=rk u)(hl:lo<=i+j)
  (h:∀(d:Bool) (c:GS),lh rk a b lo st c.1 c.2.1 c.2.2.1 c.2.2.2.1 ap->(d=false->c.1=none)->Q (if d=true then RG c else RQ c) ap):wpS M A E s (g3 a b out i j mg ca cb) Q ap:=by
 have hi:i<a.size:=by have:=I.i;lia
 obtain⟨z,hz⟩:∃z,a[i]?=some z:=⟨_,v_ hi⟩;unfold g3;have m:=I.m.pY H hz (hc z hz);refine RB (cP hz ?_);by_cases e:i+1+1=a.size
 ·rw[if_pos (by rw[e];exact beq_self_eq_true _)];exact RH (h true _ ⟨K,H.qP m e⟩ (λz=>nomatch z))
 rw[if_neg (by simpa using e)];have I2:LI rk a b (out.push z) (i+1) j:=⟨m,by have:=I.i;lia,I.j⟩;split
 ·exact RH (h true _ ⟨K,I2,by dsimp only;lia⟩ (λz=>nomatch z))
 exact RH (h false _ ⟨K,I2,by dsimp only;lia⟩ (λ_=>rfl))
theorem HY{Q:ForInStep GS->RD->Prop}(L:jK M A E s kd rk S)(H:LoOk rk S a b)(hk:kindOf st=kd)(K:Keep st ap)(I:LI rk a b out i j)(hc:∀y,b[j]?=some y->∀u∈a.toList.drop i,rk y<=rk u)(hl:lo<=i+j)
  (h:∀(d:Bool) (c:GS),lh rk a b lo st c.1 c.2.1 c.2.2.1 c.2.2.2.1 ap->(d=false->c.1=none)->Q (if d=true then RG c else RQ c) ap):wpS M A E s (g2 a b out i j mg ca cb) Q ap:=by
 have hi:i<a.size:=by have:=I.i;lia
 obtain⟨y,hy⟩:∃y,b[j]?=some y:=⟨_,v_ I.j⟩;obtain⟨z,hz⟩:∃z,a[i]?=some z:=⟨_,v_ hi⟩;unfold g2;have m:=I.m.pL H hy (hc y hy);refine RB (cP hy ?_);by_cases e:j+1=b.size
 ·rw[if_pos (by rw[e];exact beq_self_eq_true _)];exact RH (h true _ ⟨K,H.oH m (.inr (by lia))⟩ (λz=>nomatch z))
 rw[if_neg (by simpa using e)];have hj:j+1<b.size:=by have:=I.j;lia
 refine RB (cP hz (RB (nh L (K.k.trans hk) (by lia) (by lia) H.Sb (H.Sa _ _ hz) (λp q x w h1 h2 h3 h4=>si H.sb (i:=j+1+p) (j:=j+1+q) (by(clear h4 h3 h2 hj e m hz hy hi h hl hc I K hk H L;lia)) (by rw[i_];exact h3) (by rw[i_];exact h4)) λk k1 k2 k3=>?_)));dsimp only;have after:∀u∈b.toList.drop (j+1+k),rk z<=rk u:=λu hu=>by obtain⟨p,hp⟩:=n9 hu;rw[i_]at hp;have li:j+1+k+p<b.size:=(Pu.mp hp).1;have:=k3 (k+p) u (by lia) (by(clear hp hu k3 k2 k1 hj e m hz hy hi h hl hc I K hk H L;lia)) (by rw[show j+1+(k+p)=j+1+k+p by(clear li hp hu k3 k2 k1 hj e m hz hy hi h hl hc I K hk H L;lia)];exact hp);simpa using this
 by_cases pk:k > 0
 ·rw[if_pos pk];have m2:MS rk a.toList b.toList (out.push y++b.extract (j+1) (j+1+k)).toList i (j+1+k):=by rw[MP,pz];refine m.wc H.sb λu hu w hw=>?_;obtain⟨p,hp1,hp⟩:=jI hu;rw[i_]at hp;have:=k2 p u hp1 hp;simp only[if_true]at this;exact p_ (L' this) (oY H.sa hz w hw)
  by_cases e2:j+1+k=b.size
  ·rw[if_pos (by rw[e2];exact beq_self_eq_true _)];exact RH (h true _ ⟨K,H.oH m2 (.inr (by(clear m2 pk after k3 k2 k1 hj e m hz hy hi h hl hc I K hk H L;lia)))⟩ (λz=>nomatch z))
  rw[if_neg (by simpa using e2)];refine HU H K ⟨m2,I.i,by(clear m2 after k3 k2 hj e m hz hy hi h hl hc I K hk H L;lia)⟩ (λz' hz'=>?_) (by(clear e2 m2 pk after k3 k2 k1 hj e m hz hy hi h hc I K hk H L;lia)) h;rw[hz]at hz';cases hz';exact after
 rw[if_neg pk];have k0:k=0:=by lia
 subst k0;refine HU H K ⟨m,I.i,by(clear pk after k3 k2 k1 e m hz hy hi h hl hc I K hk H L;omega)⟩ (λz' hz'=>?_) (by lia) h;rw[hz]at hz';cases hz';exact after
theorem M5{Q:ForInStep GS->RD->Prop}(L:jK M A E s kd rk S)(H:LoOk rk S a b)(hk:kindOf st=kd)(K:Keep st ap)(I:LI rk a b out i j)
  (h:∀(d:Bool) (c:GS) (ii:RD),lh rk a b (i+j) st c.1 c.2.1 c.2.2.1 c.2.2.2.1 ii->(d=false->c.1=none)->Q (if d=true then RG c else RQ c) ii):wpS M A E s (g1 a b out i j mg ca cb) Q ap:=by
 have hi:i<a.size:=by have:=I.i;lia
 obtain⟨y,hy⟩:∃y,b[j]?=some y:=⟨_,v_ I.j⟩;unfold g1;refine RB (qS (RB (cP hy ?_)));have K2:=K.g mg;revert K2;generalize S9 (kindOf ap) (Rz ap) (RO ap) mg (R8 ap)=ii;intro K2;refine RB (nh L (K2.k.trans hk) (by lia) (by lia) H.Sa (H.Sb _ _ hy) (λp q x w h1 h2 h3 h4=>si H.sa (i:=i+p) (j:=i+q) (by lia) (by rw[i_];exact h3) (by rw[i_];exact h4)) λk k1 k2 k3=>?_);dsimp only;have after:∀u∈a.toList.drop (i+k),rk y<=rk u:=λu hu=>by obtain⟨p,hp⟩:=n9 hu;rw[i_]at hp;have li:i+k+p<a.size:=(Pu.mp hp).1;have:=k3 (k+p) u (by lia) (by lia) (by rw[show i+(k+p)=i+k+p by lia];exact hp);simp at this;lia
 by_cases pk:k > 0
 ·rw[if_pos pk];have m2:MS rk a.toList b.toList (out++a.extract i (i+k)).toList (i+k) j:=by rw[MP,pz];refine I.m.vi H.sa λu hu w hw=>?_;obtain⟨p,hp1,hp⟩:=jI hu;rw[i_]at hp;have:=k2 p u hp1 hp;simp at this;exact p_ this (oY H.sb hy w hw)
  by_cases e1:i+k+1=a.size
  ·rw[if_pos (by rw[e1];exact beq_self_eq_true _)];exact RH (h true _ _ ⟨K2,H.qP m2 e1⟩ (λz=>nomatch z))
  rw[if_neg (by simpa using e1)];by_cases e2:i+k=a.size
  ·rw[if_pos (by rw[e2];exact beq_self_eq_true _)];exact RH (h true _ _ ⟨K2,H.oH m2 (.inl (by lia))⟩ (λz=>nomatch z))
  rw[if_neg (by simpa using e2)];refine HY L H hk K2 ⟨m2,by(clear m2 after k3 k2 K2 hy hi h I K hk H L;lia),I.j⟩ (λy' hy'=>?_) (by lia) λd c x1 x2=>h d c _ x1 x2
  rw[hy]at hy';cases hy';exact after
 rw[if_neg pk];have k0:k=0:=by lia
 subst k0;refine HY L H hk K2 I (λy' hy'=>?_) (b_ _) λd c x1 x2=>h d c _ x1 x2;rw[hy]at hy';cases hy';exact after
theorem JO{Q:Array Ry->RD->Prop}(L:jK M A E s kd rk S)(H:LoOk rk S a b)(hk:kindOf st=kd)(h:∀r ap,Keep st ap->Res rk a.toList b.toList r.toList->Q r ap)(hr:∀x,RA M A (rule x) (λ_ s'=>s'=s) E s):wpS M A E s (mLo a b) Q st:=by
 rw[FR];obtain⟨y,hy⟩:∃y,b[0]?=some y:=⟨_,v_ H.pb⟩;have rl:∀{x:String}{R:Unit->RD->Prop}{ap:RD},R () ap->wpS M A E s (liftM (rule x):StateT RD Sem Unit) R ap:=λ{x R ap} q=>Vi (RZ (hr x) (λ_ _ z=>⟨z,q⟩) λ_ _ z=>z);refine RB (rl (RB (cP hy ?_)));have m0:MS rk a.toList b.toList (#[]:Array Ry).toList 0 0:=⟨by simp,OQ,λx hx=>by simp at hx⟩;have m1:MS rk a.toList b.toList (#[y]:Array Ry).toList 0 1:=m0.pL H hy λz hz=>H.first y hy z (by simpa using hz)
 by_cases e1:1=b.size
 ·rw[if_pos (by rw[<-e1];rfl)];exact RH (h _ _ .iW (H.oH m1 (.inr (by lia))))
 rw[if_neg (by simpa using e1)];by_cases e2:0+1=a.size
 ·rw[if_pos (by rw[<-e2];rfl)];exact RH (h _ _ .iW (H.qP m1 e2))
 rw[if_neg (by simpa using e2)];refine RB (TF ?_);have pa:=H.pa;have pb:=H.pb;refine RB (Su (R6 (I:=λx (c:OS) ap=>c.1=none/\Keep st ap/\LI rk a b c.2.1 c.2.2.1 c.2.2.2.1/\x<c.2.2.1+c.2.2.2.1) (Q:=λ(c:OS) ap=>∃q,c.1=some q/\Keep st ap/\Res rk a.toList b.toList q.toList) ?_ ?_ ⟨rfl,.iW,⟨m1,by dsimp only;lia,by dsimp only;lia⟩,by show 0<0+1;lia⟩) ?_)
 ·rintro x ⟨c1,out,i,j,mg⟩ gl _ hx ⟨rfl,K1,I1,px⟩;unfold oLo;dsimp only at I1 px ⊢;refine RB (Su (R6 (I:=λx (c:FS) ap=>c.1=none/\Keep st ap/\LI rk a b c.2.1 c.2.2.1 c.2.2.2.1/\i+j+x<=c.2.2.1+c.2.2.2.1) (Q:=λ(c:FS) ap=>lh rk a b (i+j) st c.1 c.2.1 c.2.2.1 c.2.2.2.1 ap) ?_ ?_ ⟨rfl,K1,I1,b_ _⟩) ?_)
  ·rintro x2 ⟨d1,out2,i2,j2,ca,cb⟩ ii _ hx2 ⟨rfl,K2,I2,p2⟩;dsimp only at I2 p2 ⊢;refine KY L H hk K2 I2 λd c hs hn=>?_;cases d with
   |true=>
    show lh _ _ _ _ _ _ _ _ _ _;refine⟨hs.1,?_⟩;have h2:=hs.2;cases e:c.1 with
    |some q=>rw[e]at h2;exact h2
    |none=>rw[e]at h2;exact⟨h2.1,by have:=h2.2;(clear e h2 hn hs I2 K2 hx2 px I1 K1 hx pb pa e2 e1 m1 m0 rl hy hr h hk H L;lia)⟩
   |false=>
    have h2:=hs.2;rw[hn rfl]at h2;exact⟨hn rfl,hs.1,h2.1,by have:=h2.2;(clear h2 hn hs I2 K2 hx2 px I1 K1 hx pb pa e2 e1 m1 m0 rl hy hr h hk H L;lia)⟩
  ·rintro⟨c1,out2,i2,j2,ca,cb⟩ ii ⟨rfl,K2,I2,p2⟩;dsimp only at I2 p2 ⊢;have:=I2.i;have:=I2.j
   (clear I2 K2 px I1 K1 hx pb pa e2 e1 m1 m0 rl hy hr h hk H L;lia)
  rintro⟨c1,out2,i2,j2,ca,cb⟩ ii ⟨K2,h2⟩;cases c1 with
  |some q=>exact RH ⟨q,rfl,K2,h2⟩
  |none=>
   obtain⟨I2,p2⟩:=h2;dsimp only at I2 p2 ⊢;refine RB (rl ?_);refine RB (Su (R6 (I:=λ_ (c:GS) ap=>c.1=none/\Keep st ap/\LI rk a b c.2.1 c.2.2.1 c.2.2.2.1/\i+j<c.2.2.1+c.2.2.2.1) (Q:=λ(c:GS) ap=>lh rk a b (i+j) st c.1 c.2.1 c.2.2.1 c.2.2.2.1 ap) ?_ ?_ ⟨rfl,K2,I2,p2⟩) ?_)
   ·rintro x3 ⟨d1,out3,i3,j3,mg3,ca3,cb3⟩ io _ hx3 ⟨rfl,K3,I3,p3⟩;dsimp only at I3 p3 ⊢;have go:∀mg',wpS M A E s (g1 a b out3 i3 j3 mg' ca3 cb3) (λr ap=>match r with | .done c'=>lh rk a b (i+j) st c'.1 c'.2.1 c'.2.2.1 c'.2.2.2.1 ap | .yield c'=>c'.1=none/\Keep st ap/\LI rk a b c'.2.1 c'.2.2.1 c'.2.2.2.1/\i+j<c'.2.2.1+c'.2.2.2.1) io:=λmg'=>by
     refine M5 L H hk K3 I3 λd c st4 hs hn=>?_;cases d with
     |true=>
      show lh _ _ _ _ _ _ _ _ _ _;refine⟨hs.1,?_⟩;have h2:=hs.2;cases e:c.1 with
      |some q=>rw[e]at h2;exact h2
      |none=>rw[e]at h2;exact⟨h2.1,by have:=h2.2;(clear e h2 hn hs I3 K3 hx3 p2 I2 K2 px I1 K1 hx pb pa e2 e1 m1 m0 rl hy hr h hk H L;lia)⟩
     |false=>
      have h2:=hs.2;rw[hn rfl]at h2;exact⟨hn rfl,hs.1,h2.1,by have:=h2.2;(clear h2 hn hs I3 K3 hx3 p2 I2 K2 px I1 K1 hx pb pa e2 e1 m1 m0 rl hy hr h hk H L;lia)⟩
    split
    ·exact Su (go _) λr ap h=>by cases r <;> exact h
    exact Su (go _) λr ap h=>by cases r <;> exact h
   ·rintro⟨c1,out3,i3,j3,mg3,ca3,cb3⟩ io ⟨rfl,K3,I3,p3⟩;exact⟨K3,I3,p3⟩
   rintro⟨c1,out3,i3,j3,mg3,ca3,cb3⟩ io ⟨K3,h3⟩;cases c1 with
   |some q=>exact RH ⟨q,rfl,K3,h3⟩
   |none=>
    obtain⟨I3,p3⟩:=h3;refine RB (qS (RH ⟨rfl,K3.g _,I3,?_⟩));dsimp only at p3 ⊢;lia
 ·rintro⟨c1,out,i,j,mg⟩ gl ⟨rfl,K1,I1,px⟩;have h1:=I1.i;have h2:=I1.j;dsimp only at h1 h2 px
  (clear I1 K1 pb pa e2 e1 m1 m0 rl hy hr h hk H L;lia)
 rintro⟨c1,out,i,j,mg⟩ gl ⟨q,e,K1,r⟩;dsimp only at e;subst e;exact RH (h q gl K1 r)
end
noncomputable def dnH(a b out:Array Ry)(i j:Nat):Array Ry:=a.extract 0 i++b.extract 0 j++out.reverse
noncomputable def kM(a b out:Array Ry)(i j:Nat):Array Ry:=b.extract 0 j++a.extract 0 i++out.reverse
theorem JQ(a b:Array Ry):mHi a b=(do
 rule "list.sort.merge-hi"
 let mut i:=a.size-1
 let mut j:=b.size
 let mut out:Array Ry:=#[<-R7 a i]
 if i == 0 then return dnH a b out i j
 if j == 1 then return kM a b out i j
 let mut mg:=Vh (<-get)
 for _ in [0:a.size+b.size]do
  let mut ca:=0
  let mut cb:=0
  for _ in [0:a.size+b.size]do
   let some aw <-lt' (<-R7 b (j-1)) (<-R7 a (i-1)) | return dnH a b out i j
   if aw then
    i:=i-1;out:=out.push (<-R7 a i);ca:=ca+1;cb:=0
    if i == 0 then return dnH a b out i j
    if ca>=mg then break
   else
    j:=j-1;out:=out.push (<-R7 b j);cb:=cb+1;ca:=0
    if j == 1 then return kM a b out i j
    if cb>=mg then break
  rule "list.sort.gallop"
  mg:=mg+1
  for _ in [0:a.size+b.size]do
   if mg > 1 then mg:=mg-1
   setG mg
   let some at' <-gal false (<-R7 b (j-1)) a 0 i (i-1) | return dnH a b out i j
   let k:=i-at'
   ca:=k
   if k > 0 then
    out:=out++(a.extract at' i).reverse;i:=at'
    if i == 0 then return dnH a b out i j
   j:=j-1;out:=out.push (<-R7 b j)
   if j == 1 then return kM a b out i j
   let some at' <-gal true (<-R7 a (i-1)) b 0 j (j-1) | return dnH a b out i j
   let k:=j-at'
   cb:=k
   if k > 0 then
    out:=out++(b.extract at' j).reverse;j:=at'
    if j == 1 then return kM a b out i j
    if j == 0 then return dnH a b out i j
   i:=i-1;out:=out.push (<-R7 a i)
   if i == 0 then return dnH a b out i j
   if ca<7&&cb<7 then break
  mg:=mg+1
  setG mg
 unsupported "internal:list.sort.merge-bound"):=rfl
abbrev GT:=Option (Array Ry)×Nat×Nat×Array Ry×Nat×Nat×Nat
abbrev FT:=Option (Array Ry)×Nat×Nat×Array Ry×Nat×Nat
abbrev OT:=Option (Array Ry)×Nat×Nat×Array Ry×Nat
def k3(a b out:Array Ry)(i j mg ca cb:Nat):StateT RD Sem (ForInStep GT):=do
 let y <-R7 a (i-1)
 if(i-1 == 0)=true then pure (RG (some (dnH a b (out.push y) (i-1) j),i-1,j,out.push y,mg,ca,cb))
 else if(decide (ca<7)&&decide (cb<7))=true then pure (RG (none,i-1,j,out.push y,mg,ca,cb))
 else pure (RQ (none,i-1,j,out.push y,mg,ca,cb))
def k2(a b out:Array Ry)(i j mg ca cb:Nat):StateT RD Sem (ForInStep GT):=do
 let y <-R7 b (j-1)
 if(j-1 == 1)=true then pure (RG (some (kM a b (out.push y) i (j-1)),i,j-1,out.push y,mg,ca,cb))
 else do
  let z <-R7 a (i-1)
  let some at' <-gal true z b 0 (j-1) (j-1-1) | pure (RG (some (dnH a b (out.push y) i (j-1)),i,j-1,out.push y,mg,ca,cb))
  if j-1-at' > 0 then
    if(at' == 1)=true then pure (RG (some (kM a b (out.push y++(b.extract at' (j-1)).reverse) i at'),i,at',out.push y++(b.extract at' (j-1)).reverse,mg,ca,j-1-at'))
    else if(at' == 0)=true then pure (RG (some (dnH a b (out.push y++(b.extract at' (j-1)).reverse) i at'),i,at',out.push y++(b.extract at' (j-1)).reverse,mg,ca,j-1-at'))
    else k3 a b (out.push y++(b.extract at' (j-1)).reverse) i at' mg ca (j-1-at')
  else k3 a b (out.push y) i (j-1) mg ca (j-1-at')
def k1(a b out:Array Ry)(i j mg ca cb:Nat):StateT RD Sem (ForInStep GT):=do
 setG mg
 let y <-R7 b (j-1)
 let some at' <-gal false y a 0 i (i-1) | pure (RG (some (dnH a b out i j),i,j,out,mg,ca,cb))
 if i-at' > 0 then
   if(at' == 0)=true then pure (RG (some (dnH a b (out++(a.extract at' i).reverse) at' j),at',j,out++(a.extract at' i).reverse,mg,i-at',cb))
   else k2 a b (out++(a.extract at' i).reverse) at' j mg (i-at') cb
 else k2 a b out i j mg (i-at') cb
def e1(a b out:Array Ry)(i j ca cb mg:Nat):StateT RD Sem (ForInStep FT):=do
 let y <-R7 b (j-1)
 let z <-R7 a (i-1)
 let some aw <-lt' y z | pure (RG (some (dnH a b out i j),i,j,out,ca,cb))
 if aw=true then do
   let z <-R7 a (i-1)
   if(i-1 == 0)=true then pure (RG (some (dnH a b (out.push z) (i-1) j),i-1,j,out.push z,ca+1,0))
   else if ca+1>=mg then pure (RG (none,i-1,j,out.push z,ca+1,0))else pure (RQ (none,i-1,j,out.push z,ca+1,0))
 else do
   let y <-R7 b (j-1)
   if(j-1 == 1)=true then pure (RG (some (kM a b (out.push y) i (j-1)),i,j-1,out.push y,0,cb+1))
   else if cb+1>=mg then pure (RG (none,i,j-1,out.push y,0,cb+1))else pure (RQ (none,i,j-1,out.push y,0,cb+1))
def oHi(a b:Array Ry)(c:OT):StateT RD Sem (ForInStep OT):=do
 let r <-forIn [0:a.size+b.size] ((none,c.2.1,c.2.2.1,c.2.2.2.1,0,0):FT) λ_ d=>e1 a b d.2.2.2.1 d.2.1 d.2.2.1 d.2.2.2.2.1 d.2.2.2.2.2 c.2.2.2.2
 match r.1 with
 |some q=>pure (RG (some q,r.2.1,r.2.2.1,r.2.2.2.1,c.2.2.2.2))
 |none=>do
  liftM (rule "list.sort.gallop")
  let e <-forIn [0:a.size+b.size] ((none,r.2.1,r.2.2.1,r.2.2.2.1,c.2.2.2.2+1,r.2.2.2.2.1,r.2.2.2.2.2):GT) λ_ d=>
   if d.2.2.2.2.1 > 1 then k1 a b d.2.2.2.1 d.2.1 d.2.2.1 (d.2.2.2.2.1-1) d.2.2.2.2.2.1 d.2.2.2.2.2.2 else k1 a b d.2.2.2.1 d.2.1 d.2.2.1 d.2.2.2.2.1 d.2.2.2.2.2.1 d.2.2.2.2.2.2
  match e.1 with
  |some q=>pure (RG (some q,e.2.1,e.2.2.1,e.2.2.2.1,e.2.2.2.2.1))
  |none=>do
   setG (e.2.2.2.2.1+1)
   pure (RQ (none,e.2.1,e.2.2.1,e.2.2.2.1,e.2.2.2.2.1+1))
set_option maxHeartbeats 2000000 in
theorem Hg(a b:Array Ry):mHi a b=(do
  liftM (rule "list.sort.merge-hi")
  let y <-R7 a (a.size-1)
  if(a.size-1 == 0)=true then pure (dnH a b #[y] (a.size-1) b.size)
  else if(b.size == 1)=true then pure (kM a b #[y] (a.size-1) b.size)
  else do
   let st <-get
   let r <-forIn [0:a.size+b.size] ((none,a.size-1,b.size,#[y],Vh st):OT) λ_ c=>oHi a b c
   match r.1 with
   |some q=>pure q
   |none=>liftM (unsupported "internal:list.sort.merge-bound":Sem (Array Ry))):=by
 rw[JQ];unfold oHi;refine congrArg (bind _) (funext λ_=>?_);refine congrArg (bind _) (funext λy=>?_);refine ite_congr rfl (λ_=>rfl) (λ_=>?_);refine ite_congr rfl (λ_=>rfl) (λ_=>?_);refine congrArg (bind _) (funext λst=>?_);refine congr (congrArg bind (congrArg (forIn _ _) (funext λ_=>funext λc=>?_))) ?_
 ·refine congr (congrArg bind (congrArg (forIn _ _) (funext λ_=>funext λd=>?_))) ?_
  ·unfold e1
   rfl
  funext r;obtain⟨r1,r2⟩:=r;cases r1 with
  |some q=>rfl
  |none=>
   refine congrArg (bind _) (funext λ_=>?_);refine congr (congrArg bind (congrArg (forIn _ _) (funext λ_=>funext λd=>?_))) ?_
   ·unfold k1;refine ite_congr rfl (λ_=>?_) (λ_=>?_)
    all_goals
     refine congrArg (bind _) (funext λ_=>?_);refine congrArg (bind _) (funext λy=>?_);refine congrArg (bind _) (funext λr=>?_);cases r with
     |none=>rfl
     |some k=>
      refine ite_congr rfl (λ_=>?_) (λ_=>?_)
      ·refine ite_congr rfl (λ_=>rfl) (λ_=>?_);unfold k2
       rfl
      unfold k2
      rfl
   funext e;obtain⟨e1,e2⟩:=e;cases e1 <;> rfl
 funext e;obtain⟨e1,e2⟩:=e;cases e1 <;> rfl
variable {o:List Ry}{t:Nat}
section
variable{rk:Ry->Nat}
structure MH (rk:Ry->Nat) (a b o:List Ry) (i j:Nat):Prop where
 perm:o.Perm (a.drop i++b.drop j)
 srt:Srt rk o
 le:∀x∈o,(∀y∈a.take i,rk y<=rk x)/\∀y∈b.take j,rk y<=rk x
theorem xU{l:List Ry}(h:t<=i):l.drop t=(l.take i).drop t++l.drop i:=by
 by_cases hi:i<=l.length
 ·have e:=E_ i l;have h2:(l.take i++l.drop i).drop t=(l.take i).drop t++l.drop i:=O_ (by rw[y_];lia);rw[e]at h2;exact h2
 rw[MQ (by lia),Nq (by lia:l.length<=i),H_]
theorem ot{l:List Ry}(h:t<=i):l.take i=l.take t++(l.take i).drop t:=by have:=E_ t (l.take i);rw[List.take_take,N7 h]at this;exact this.symm
theorem MH.vi (h:MH rk a b o i j)(sa:Srt rk a)(ht:t<=i)(hc:∀y∈(a.take i).drop t,∀z∈b.take j,rk z<=rk y):MH rk a b ((a.take i).drop t++o) t j:=by
 have st:Srt rk (a.take i):=MW (Od _ _) sa;refine⟨?_,?_,λx hx=>?_⟩
 ·rw[xU (l:=a) ht,gV];exact L_ _ h.perm
 ·exact D_.mpr ⟨MW (Of _ _) st,h.srt,λx hx y hy=>(h.le y hy).1 x (NQ hx)⟩
 rcases B_.mp hx with hx|hx
 ·refine⟨λy hy=>?_,hc x hx⟩;rw[ot ht]at st;exact(D_.mp st).2.2 y hy x hx
 refine⟨λy hy=>(h.le x hx).1 y ?_,(h.le x hx).2⟩;rw[ot ht];exact G' _ hy
theorem MH.wc (h:MH rk a b o i j)(sb:Srt rk b)(ht:t<=j)(hc:∀y∈(b.take j).drop t,∀z∈a.take i,rk z<=rk y):MH rk a b ((b.take j).drop t++o) i t:=by
 have st:Srt rk (b.take j):=MW (Od _ _) sb;refine⟨?_,?_,λx hx=>?_⟩
 ·rw[xU (l:=b) ht];refine(L_ _ h.perm).trans ?_;rw[<-gV,<-gV];exact Qg _ Na
 ·exact D_.mpr ⟨MW (Of _ _) st,h.srt,λx hx y hy=>(h.le y hy).2 x (NQ hx)⟩
 rcases B_.mp hx with hx|hx
 ·refine⟨hc x hx,λy hy=>?_⟩;rw[ot ht]at st;exact(D_.mp st).2.2 y hy x hx
 refine⟨(h.le x hx).1,λy hy=>(h.le x hx).2 y ?_⟩;rw[ot ht];exact G' _ hy
theorem MH.done (h:MH rk a b o i j)(sa:Srt rk a)(sb:Srt rk b)(e:i=0\/j=0):Res rk a b (a.take i++b.take j++o):=by
 have h1:=h.wc (t:=0) sb (A_ _) λy hy z hz=>by
  rcases e with e|e
  ·rw[e]at hz;simp at hz
  rw[e]at hy;simp at hy
 have h2:=h1.vi (t:=0) sa (A_ _) λy hy z hz=>by simp at hz
 have p:=h2.perm;have q:=h2.srt;simp only[NH]at p q;rw[gV];exact⟨p,q⟩
theorem MH.first (h:MH rk a b o i j)(sa:Srt rk a)(sb:Srt rk b)(e:∀y∈a.take i,∀z∈b.take j,rk z<=rk y):Res rk a b (b.take j++a.take i++o):=by
 have h1:=h.vi (t:=0) sa (A_ _) λy hy z hz=>e y (by rw[NH]at hy;exact hy) z hz
 have h2:=h1.wc (t:=0) sb (A_ _) λy hy z hz=>by simp at hz
 have p:=h2.perm;have q:=h2.srt;simp only[NH]at p q;rw[gV];exact⟨p,q⟩
theorem qR(a:Array Ry)(i:Nat):(a.extract 0 i).toList=a.toList.take i:=by rw[Ow,Ny,NH,QB]
theorem zQ(a:Array Ry)(t i:Nat):(a.extract t i).toList=(a.toList.take i).drop t:=by rw[Ow,Ny,List.drop_take]
theorem take_one{l:List Ry}(h0:0<i)(h:l[i-1]?=some y):(l.take i).drop (i-1)=[y]:=by
 obtain⟨hl,e⟩:=c_.mp h;have:l.take i=l.take (i-1)++[y]:=by
  conv=>lhs;rw[show i=i-1+1 by lia,Nm,h]
  rfl
 rw[this,O_ (by rw[y_];omega),Nq (by rw[y_];omega)]
 rfl
theorem mW{l:List Ry}(h:y∈l.take i):∃j,j<i/\l[j]?=some y:=by
 obtain⟨j,hj⟩:=Oj.mp h;rw[N9]at hj;split at hj
 ·next li=>exact⟨j,li,hj⟩
 cases hj
theorem wz{l:List Ry}(h:y∈(l.take i).drop t):∃j,t<=j/\j<i/\l[j]?=some y:=by
 obtain⟨j,hj⟩:=n9 h;rw[N9]at hj;split at hj
 ·next li=>exact⟨t+j,by lia,li,hj⟩
 cases hj
end
section
variable{M:Tp}{A:RS}{E:Rq->Ru->Prop}{s:Ru}{kd:SQ}{rk:Ry->Nat}{S:Ry->Prop}{a b:Array Ry}
abbrev MHo(rk:Ry->Nat)(a b out:Array Ry)(i j:Nat):Prop:=MH rk a.toList b.toList out.toList.reverse i j
theorem LoOk.xT (h:LoOk rk S a b)(m:MHo rk a b out i j)(e:i=0\/j=0):Res rk a.toList b.toList (dnH a b out i j).toList:=by unfold dnH;rw[MP,MP,qR,qR,Ox];exact m.done h.sa h.sb e
theorem LoOk.wm (h:LoOk rk S a b)(m:MHo rk a b out i j)(e:j=1):Res rk a.toList b.toList (kM a b out i j).toList:=by
 unfold kM;rw[MP,MP,qR,qR,Ox];refine m.first h.sa h.sb λy hy z hz=>?_;subst e;obtain⟨k,hk,hz'⟩:=mW hz;have k0:k=0:=by lia
 subst k0;exact h.first z (by rw[<-i_];exact hz') y (Nj hy)
structure HI (rk:Ry->Nat) (a b out:Array Ry) (i j:Nat):Prop where
 m:MHo rk a b out i j
 i0:0<i
 j1:1<j
 ia:i<=a.size
 jb:j<=b.size
theorem MH.pY (m:MHo rk a b out i j)(H:LoOk rk S a b)(h0:0<i)(hy:a[i-1]?=some y)(hc:∀z∈b.toList.take j,rk z<=rk y):MHo rk a b (out.push y) (i-1) j:=by
 have hy':a.toList[i-1]?=some y:=by rw[i_];exact hy
 have:=m.vi (t:=i-1) H.sa (by lia) (by rw[take_one h0 hy'];intro w hw;rw[C_.mp hw];exact hc);rw[take_one h0 hy']at this;show MH _ _ _ (out.push y).toList.reverse _ _;rw[Og,OA];exact this
theorem MH.pL (m:MHo rk a b out i j)(H:LoOk rk S a b)(h0:0<j)(hy:b[j-1]?=some y)(hc:∀z∈a.toList.take i,rk z<=rk y):MHo rk a b (out.push y) i (j-1):=by
 have hy':b.toList[j-1]?=some y:=by rw[i_];exact hy
 have:=m.wc (t:=j-1) H.sb (by lia) (by rw[take_one h0 hy'];intro w hw;rw[C_.mp hw];exact hc);rw[take_one h0 hy']at this;show MH _ _ _ (out.push y).toList.reverse _ _;rw[Og,OA];exact this
theorem oD{l:Array Ry}(srt:Srt rk l.toList)(hy:l[i-1]?=some y):∀z∈l.toList.take i,rk z<=rk y:=λz hz=>by obtain⟨k,hk,hz'⟩:=mW hz;exact si srt (i:=k) (j:=i-1) (by lia) hz' (by rw[i_];exact hy)
def pj(rk:Ry->Nat)(a b:Array Ry)(lo:Nat)(st:RD)(r:Option (Array Ry))(out:Array Ry)(i j:Nat)(ap:RD):Prop:=
 Keep st ap/\match r with
 |some q=>Res rk a.toList b.toList q.toList
 |none=>HI rk a b out i j/\i+j<lo
theorem HI.get (I:HI rk a b out i j):(∃y,b[j-1]?=some y)/\∃z,a[i-1]?=some z:=
 ⟨⟨_,v_ (u_ (PK (O2 Oa I.j1) Oa) I.jb)⟩,⟨_,v_ (u_ (PK I.i0 Oa) I.ia)⟩⟩
theorem Kv{Q:ForInStep FT->RD->Prop}(L:jK M A E s kd rk S)(H:LoOk rk S a b)(hk:kindOf st=kd)(K:Keep st ap)(I:HI rk a b out i j)
  (h:∀(d:Bool) (c:FT),pj rk a b (i+j) st c.1 c.2.2.2.1 c.2.1 c.2.2.1 ap->(d=false->c.1=none)->Q (if d=true then RG c else RQ c) ap):wpS M A E s (e1 a b out i j ca cb mg) Q ap:=by
 obtain⟨⟨y,hy⟩,⟨z,hz⟩⟩:=I.get;have i0:=I.i0;have j1:=I.j1;have ia:=I.ia;have jb:=I.jb;unfold e1;refine RB (cP hy (RB (cP hz (RB (L y z ap _ (H.Sb _ _ hy) (H.Sa _ _ hz) (K.k.trans hk) ?_)))));dsimp only;by_cases w:rk y<rk z
 ·rw[decide_eq_true w,if_pos rfl];have m:=I.m.pY H i0 hz λu hu=>p_ (oD H.sb hy u hu) (L' w);refine RB (cP hz ?_);by_cases e:i-1=0
  ·rw[if_pos (by rw[e];rfl)];exact RH (h true _ ⟨K,H.xT m (.inl e)⟩ (λz=>nomatch z))
  rw[if_neg (by simpa using e)];have I2:HI rk a b (out.push z) (i-1) j:=⟨m,Nh e,j1,p_ (Nz ..) ia,jb⟩;split
  ·exact RH (h true _ ⟨K,I2,by dsimp only;lia⟩ (λz=>nomatch z))
  exact RH (h false _ ⟨K,I2,by dsimp only;lia⟩ (λ_=>rfl))
 rw[decide_eq_false w,if_neg (by simp)];have m:=I.m.pL H (by lia) hy λu hu=>p_ (oD H.sa hz u hu) (by lia)
 refine RB (cP hy ?_);by_cases e:j-1=1
 ·rw[if_pos (by rw[e];rfl)];exact RH (h true _ ⟨K,H.wm m e⟩ (λz=>nomatch z))
 rw[if_neg (by simpa using e)];have I2:HI rk a b (out.push y) i (j-1):=⟨m,i0,by lia,ia,p_ (Nz ..) jb⟩;split
 ·exact RH (h true _ ⟨K,I2,by dsimp only;lia⟩ (λz=>nomatch z))
 exact RH (h false _ ⟨K,I2,by dsimp only;lia⟩ (λ_=>rfl))
theorem HC{Q:ForInStep GT->RD->Prop}(H:LoOk rk S a b)(K:Keep st ap)(I:HI rk a b out i j)(hc:∀z,a[i-1]?=some z->∀u∈b.toList.take j,rk u<=rk z)(hl:i+j<=lo)
  (h:∀(d:Bool) (c:GT),pj rk a b lo st c.1 c.2.2.2.1 c.2.1 c.2.2.1 ap->(d=false->c.1=none)->Q (if d=true then RG c else RQ c) ap):wpS M A E s (k3 a b out i j mg ca cb) Q ap:=by
 obtain⟨⟨y,hy⟩,⟨z,hz⟩⟩:=I.get;have i0:=I.i0;have j1:=I.j1;have ia:=I.ia;have jb:=I.jb;unfold k3;have m:=I.m.pY H i0 hz (hc z hz);refine RB (cP hz ?_);by_cases e:i-1=0
 ·rw[if_pos (by rw[e];rfl)];exact RH (h true _ ⟨K,H.xT m (.inl e)⟩ (λz=>nomatch z))
 rw[if_neg (by simpa using e)];have I2:HI rk a b (out.push z) (i-1) j:=⟨m,Nh e,j1,p_ (Nz ..) ia,jb⟩;split
 ·exact RH (h true _ ⟨K,I2,by dsimp only;lia⟩ (λz=>nomatch z))
 exact RH (h false _ ⟨K,I2,by dsimp only;lia⟩ (λ_=>rfl))
theorem MHo.block (m:MHo rk a b out i j)(H:LoOk rk S a b)(ht:t<=j)(hc:∀y∈(b.toList.take j).drop t,∀z∈a.toList.take i,rk z<=rk y):MHo rk a b (out++(b.extract t j).reverse) i t:=by have:=m.wc H.sb ht hc;show MH _ _ _ (out++(b.extract t j).reverse).toList.reverse _ _;rw[MP,OA,Ox,Qq,zQ];exact this
theorem MHo.IX (m:MHo rk a b out i j)(H:LoOk rk S a b)(ht:t<=i)(hc:∀y∈(a.toList.take i).drop t,∀z∈b.toList.take j,rk z<=rk y):MHo rk a b (out++(a.extract t i).reverse) t j:=by have:=m.vi H.sa ht hc;show MH _ _ _ (out++(a.extract t i).reverse).toList.reverse _ _;rw[MP,OA,Ox,Qq,zQ];exact this
theorem Ie{Q:ForInStep GT->RD->Prop}(L:jK M A E s kd rk S)(H:LoOk rk S a b)(hk:kindOf st=kd)(K:Keep st ap)(I:HI rk a b out i j)(hc:∀y,b[j-1]?=some y->∀u∈a.toList.take i,rk u<=rk y)(hl:i+j<=lo)
  (h:∀(d:Bool) (c:GT),pj rk a b lo st c.1 c.2.2.2.1 c.2.1 c.2.2.1 ap->(d=false->c.1=none)->Q (if d=true then RG c else RQ c) ap):wpS M A E s (k2 a b out i j mg ca cb) Q ap:=by
 obtain⟨⟨y,hy⟩,⟨z,hz⟩⟩:=I.get;have i0:=I.i0;have j1:=I.j1;have ia:=I.ia;have jb:=I.jb;unfold k2;have m:=I.m.pL H (by lia) hy (hc y hy);refine RB (cP hy ?_);by_cases e:j-1=1
 ·rw[if_pos (by rw[e];rfl)];exact RH (h true _ ⟨K,H.wm m e⟩ (λz=>nomatch z))
 rw[if_neg (by simpa using e)];refine RB (cP hz (RB (nh L (K.k.trans hk) (by lia) (by lia) H.Sb (H.Sa _ _ hz) (λp q x w h1 h2 h3 h4=>si H.sb (i:=0+p) (j:=0+q) (by lia) (by rw[i_];exact h3) (by rw[i_];exact h4)) λt t1 t2 t3=>?_)));dsimp only;have before:∀u∈b.toList.take t,rk u<=rk z:=λu hu=>by obtain⟨p,hp1,hp⟩:=mW hu;rw[i_]at hp;have:=t2 p u hp1 (by rw[Ol];exact hp);simp at this;lia
 by_cases pk:j-1-t > 0
 ·rw[if_pos pk];have m2:MHo rk a b (out.push y++(b.extract t (j-1)).reverse) i t:=by
   refine MHo.block m H (by omega) λu hu w hw=>?_
   obtain⟨p,hp0,hp1,hp⟩:=wz hu;rw[i_]at hp;have:=t3 p u hp0 hp1 (by rw[Ol];exact hp);simp at this;exact p_ (oD H.sa hz w hw) this
  by_cases e1:t=1
  ·rw[if_pos (by rw[e1];rfl)];exact RH (h true _ ⟨K,H.wm m2 e1⟩ (λz=>nomatch z))
  rw[if_neg (by simpa using e1)];by_cases e2:t=0
  ·rw[if_pos (by rw[e2];rfl)];exact RH (h true _ ⟨K,H.xT m2 (.inr e2)⟩ (λz=>nomatch z))
  rw[if_neg (by simpa using e2)];refine HC H K ⟨m2,i0,OH (Nh e2) (T3 e1),ia,p_ t1 (p_ (Nz ..) jb)⟩ (λz' hz'=>?_) (by lia) h;rw[hz]at hz';cases hz';exact before
 rw[if_neg pk];have k0:t=j-1:=by lia
 refine HC H K ⟨m,i0,by lia,ia,p_ (Nz ..) jb⟩ (λz' hz'=>?_) (by lia) h;rw[hz]at hz';cases hz';rw[k0]at before;exact before
theorem KR{Q:ForInStep GT->RD->Prop}(L:jK M A E s kd rk S)(H:LoOk rk S a b)(hk:kindOf st=kd)(K:Keep st ap)(I:HI rk a b out i j)
  (h:∀(d:Bool) (c:GT) (ii:RD),pj rk a b (i+j) st c.1 c.2.2.2.1 c.2.1 c.2.2.1 ii->(d=false->c.1=none)->Q (if d=true then RG c else RQ c) ii):wpS M A E s (k1 a b out i j mg ca cb) Q ap:=by
 obtain⟨⟨y,hy⟩,⟨z,hz⟩⟩:=I.get;have i0:=I.i0;have j1:=I.j1;have ia:=I.ia;have jb:=I.jb;unfold k1;refine RB (qS (RB (cP hy ?_)));have K2:=K.g mg;revert K2;generalize S9 (kindOf ap) (Rz ap) (RO ap) mg (R8 ap)=ii;intro K2;refine RB (nh L (K2.k.trans hk) (by lia) (by lia) H.Sa (H.Sb _ _ hy) (λp q x w h1 h2 h3 h4=>si H.sa (i:=0+p) (j:=0+q) (by lia) (by rw[i_];exact h3) (by rw[i_];exact h4)) λt t1 t2 t3=>?_);dsimp only;have before:∀u∈a.toList.take t,rk u<=rk y:=λu hu=>by obtain⟨p,hp1,hp⟩:=mW hu;rw[i_]at hp;have:=t2 p u hp1 (by rw[Ol];exact hp);simpa using this
 by_cases pk:i-t > 0
 ·rw[if_pos pk];have m2:MHo rk a b (out++(a.extract t i).reverse) t j:=by
   refine MHo.IX I.m H (by omega) λu hu w hw=>?_
   obtain⟨p,hp0,hp1,hp⟩:=wz hu;rw[i_]at hp;have:=t3 p u hp0 hp1 (by rw[Ol];exact hp);simp at this;exact p_ (oD H.sb hy w hw) (L' this)
  by_cases e2:t=0
  ·rw[if_pos (by rw[e2];rfl)];exact RH (h true _ _ ⟨K2,H.xT m2 (.inl e2)⟩ (λz=>nomatch z))
  rw[if_neg (by simpa using e2)];refine Ie L H hk K2 ⟨m2,by lia,j1,by lia,jb⟩ (λy' hy'=>?_) (by lia) λd c x1 x2=>h d c _ x1 x2
  rw[hy]at hy';cases hy';exact before
 rw[if_neg pk];have k0:t=i:=by lia
 rw[k0]at before;refine Ie L H hk K2 I (λy' hy'=>?_) (b_ _) λd c x1 x2=>h d c _ x1 x2;rw[hy]at hy';cases hy';exact before
theorem JN{Q:Array Ry->RD->Prop}(L:jK M A E s kd rk S)(H:LoOk rk S a b)(hk:kindOf st=kd)(h:∀r ap,Keep st ap->Res rk a.toList b.toList r.toList->Q r ap)(hr:∀x,RA M A (rule x) (λ_ s'=>s'=s) E s):wpS M A E s (mHi a b) Q st:=by
 rw[Hg];have pa:=H.pa;have pb:=H.pb;obtain⟨y,hy⟩:∃y,a[a.size-1]?=some y:=⟨_,v_ (by lia)⟩;have rl:∀{x:String}{R:Unit->RD->Prop}{ap:RD},R () ap->wpS M A E s (liftM (rule x):StateT RD Sem Unit) R ap:=λ{x R ap} q=>Vi (RZ (hr x) (λ_ _ z=>⟨z,q⟩) λ_ _ z=>z);refine RB (rl (RB (cP hy ?_)));have m0:MHo rk a b #[] a.size b.size:=⟨by simp,OQ,λx hx=>by simp at hx⟩;have m1:MHo rk a b #[y] (a.size-1) b.size:=m0.pY H pa hy λz hz=>H.last y hy z (Nj hz);by_cases e1:a.size-1=0
 ·rw[if_pos (by rw[e1];rfl)];exact RH (h _ _ .iW (H.xT m1 (.inl e1)))
 rw[if_neg (by simpa using e1)];by_cases e2:b.size=1
 ·rw[if_pos (by rw[e2];rfl)];exact RH (h _ _ .iW (H.wm m1 e2))
 rw[if_neg (by simpa using e2)];refine RB (TF ?_);refine RB (Su (R6 (I:=λx (c:OT) ap=>c.1=none/\Keep st ap/\HI rk a b c.2.2.2.1 c.2.1 c.2.2.1/\c.2.1+c.2.2.1+x<a.size+b.size) (Q:=λ(c:OT) ap=>∃q,c.1=some q/\Keep st ap/\Res rk a.toList b.toList q.toList) ?_ ?_ ⟨rfl,.iW,⟨m1,by dsimp only;lia,by dsimp only;lia,by dsimp only;lia,by dsimp only;lia⟩,by dsimp only;lia⟩) ?_)
 ·rintro x ⟨c1,i,j,out,mg⟩ gl _ hx ⟨rfl,K1,I1,px⟩;unfold oHi;dsimp only at I1 px ⊢;refine RB (Su (R6 (I:=λx (c:FT) ap=>c.1=none/\Keep st ap/\HI rk a b c.2.2.2.1 c.2.1 c.2.2.1/\c.2.1+c.2.2.1+x<=i+j) (Q:=λ(c:FT) ap=>pj rk a b (i+j) st c.1 c.2.2.2.1 c.2.1 c.2.2.1 ap) ?_ ?_ ⟨rfl,K1,I1,b_ _⟩) ?_)
  ·rintro x2 ⟨d1,i2,j2,out2,ca,cb⟩ ii _ hx2 ⟨rfl,K2,I2,p2⟩;dsimp only at I2 p2 ⊢;refine Kv L H hk K2 I2 λd c hs hn=>?_;cases d with
   |true=>
    show pj _ _ _ _ _ _ _ _ _ _;refine⟨hs.1,?_⟩;have h2:=hs.2;cases e:c.1 with
    |some q=>rw[e]at h2;exact h2
    |none=>rw[e]at h2;exact⟨h2.1,by have:=h2.2;lia⟩
   |false=>
    have h2:=hs.2;rw[hn rfl]at h2;exact⟨hn rfl,hs.1,h2.1,by have:=h2.2;lia⟩
  ·rintro⟨c1,i2,j2,out2,ca,cb⟩ ii ⟨rfl,K2,I2,p2⟩;dsimp only at I2 p2 ⊢;have:=I2.i0;have:=I2.j1;lia
  rintro⟨c1,i2,j2,out2,ca,cb⟩ ii ⟨K2,h2⟩;cases c1 with
  |some q=>exact RH ⟨q,rfl,K2,h2⟩
  |none=>
   obtain⟨I2,p2⟩:=h2;dsimp only at I2 p2 ⊢;refine RB (rl ?_);refine RB (Su (R6 (I:=λ_ (c:GT) ap=>c.1=none/\Keep st ap/\HI rk a b c.2.2.2.1 c.2.1 c.2.2.1/\c.2.1+c.2.2.1<i+j) (Q:=λ(c:GT) ap=>pj rk a b (i+j) st c.1 c.2.2.2.1 c.2.1 c.2.2.1 ap) ?_ ?_ ⟨rfl,K2,I2,p2⟩) ?_)
   ·rintro x3 ⟨d1,i3,j3,out3,mg3,ca3,cb3⟩ io _ hx3 ⟨rfl,K3,I3,p3⟩;dsimp only at I3 p3 ⊢;have go:∀mg',wpS M A E s (k1 a b out3 i3 j3 mg' ca3 cb3) (λr ap=>match r with | .done c'=>pj rk a b (i+j) st c'.1 c'.2.2.2.1 c'.2.1 c'.2.2.1 ap | .yield c'=>c'.1=none/\Keep st ap/\HI rk a b c'.2.2.2.1 c'.2.1 c'.2.2.1/\c'.2.1+c'.2.2.1<i+j) io:=λmg'=>by
     refine KR L H hk K3 I3 λd c st4 hs hn=>?_;cases d with
     |true=>
      show pj _ _ _ _ _ _ _ _ _ _;refine⟨hs.1,?_⟩;have h2:=hs.2;cases e:c.1 with
      |some q=>rw[e]at h2;exact h2
      |none=>rw[e]at h2;exact⟨h2.1,by have:=h2.2;lia⟩
     |false=>
      have h2:=hs.2;rw[hn rfl]at h2;exact⟨hn rfl,hs.1,h2.1,by have:=h2.2;lia⟩
    split
    ·exact Su (go _) λr ap h=>by cases r <;> exact h
    exact Su (go _) λr ap h=>by cases r <;> exact h
   ·rintro⟨c1,i3,j3,out3,mg3,ca3,cb3⟩ io ⟨rfl,K3,I3,p3⟩;exact⟨K3,I3,p3⟩
   rintro⟨c1,i3,j3,out3,mg3,ca3,cb3⟩ io ⟨K3,h3⟩;cases c1 with
   |some q=>exact RH ⟨q,rfl,K3,h3⟩
   |none=>
    obtain⟨I3,p3⟩:=h3;refine RB (qS (RH ⟨rfl,K3.g _,I3,?_⟩));dsimp only at p3 ⊢;lia
 ·rintro⟨c1,i,j,out,mg⟩ gl ⟨rfl,K1,I1,px⟩;dsimp only at px;lia
 rintro⟨c1,i,j,out,mg⟩ gl ⟨q,e,K1,r⟩;dsimp only at e;subst e;exact RH (h q gl K1 r)
end
noncomputable def R(rk:Ry->Nat)(xs:Array Ry)(i:Nat):Nat:=match xs[i]? with
 |some p=>rk p
 |none=>0
structure Kp2 (st ap:RD):Prop where
 k:kindOf ap=kindOf st
 p:RO ap=RO st
 f:R8 ap=R8 st
 a:(Rz ap).Perm (Rz st)
theorem Kp2.iW :Kp2 st st:=⟨rfl,rfl,rfl,Qd _⟩
theorem Kp2.trans {s1 s2 s3:RD}(h:Kp2 s1 s2)(g:Kp2 s2 s3):Kp2 s1 s3:=⟨g.k.trans h.k,g.p.trans h.p,g.f.trans h.f,g.a.trans h.a⟩
theorem Kp2.size (h:Kp2 st ap):(Rz ap).size=(Rz st).size:=h.a.size_eq
variable {xs ys:Array Ry}
section
variable{rk:Ry->Nat}
theorem jX(h:xs[i]?=ys[j]?):R rk xs i=R rk ys j:=by unfold R;rw[h]
theorem Ci(hj:j<=xs.size)(k:Nat):R rk (mirror xs i j ((j-i)/2)) k=if i<=k/\k<j then R rk xs (i+j-1-k)else R rk xs k:=by
 have:=V' (i:=i) hj k;split at this <;> rename_i h
 ·rw[if_pos h];exact jX this
 rw[if_neg h];exact jX this
theorem EC{src d:Nat}(hs:src<xs.size)(hd:d<=src)(k:Nat):R rk (W4 xs src d) k=if k=src-d then R rk xs src else if src-d<k/\k<=src then R rk xs (k-1)else R rk xs k:=by
 have:=W5 hs d hd k;split at this
 ·rename_i h;rw[if_pos h];exact jX this
 rename_i h;rw[if_neg h];split at this
 ·rename_i h2;rw[if_pos h2];exact jX this
 rename_i h2;rw[if_neg h2];exact jX this
def iV(rk:Ry->Nat)(xs:Array Ry)(lo n:Nat):Prop:=∀i j,i<=j->j<n->R rk xs (lo+i)<=R rk xs (lo+j)
def wZ(rk:Ry->Nat)(xs:Array Ry)(lo n:Nat):Prop:=∀i j,i<=j->j<n->R rk xs (lo+j)<=R rk xs (lo+i)
end
structure Within (st ap:RD) (lo n:Nat):Prop where
 kp:Kp2 st ap
 out:∀k,(k<lo\/lo+n<=k)->(Rz ap)[k]?=(Rz st)[k]?
theorem Within.iW :Within st st lo n:=⟨.iW,λ_ _=>rfl⟩
theorem Within.trans {s1 s2 s3:RD}(h:Within s1 s2 lo n)(g:Within s2 s3 lo n):Within s1 s3 lo n:=⟨h.kp.trans g.kp,λk hk=>(g.out k hk).trans (h.out k hk)⟩
section
variable{M:Tp}{A:RS}{E:Rq->Ru->Prop}{s:Ru}{kd:SQ}{rk:Ry->Nat}{S:Ry->Prop}
noncomputable def pO(S:Ry->Prop)(st:RD):Prop:=∀p∈(Rz st).toList,S p
theorem pO.at {st:RD}(h:pO S st){i:Nat}{p:Ry}(e:(Rz st)[i]?=some p):S p:=h p (by rw[<-i_]at e;exact B' e)
theorem pO.kp (h:pO S st)(k:Kp2 st ap):pO S ap:=λp hp=>h p ((NO.mp k.a).mem_iff.mp hp)
theorem mX{Q:Option Bool->RD->Prop}(L:jK M A E s kd rk S)(hk:kindOf st=kd)(hS:pO S st)(hi:i<(Rz st).size)(hj:j<(Rz st).size)(q:Q (some (decide (R rk (Rz st) i<R rk (Rz st) j))) st):wpS M A E s (W6 i j) Q st:=by rw[ltAt'_eq];refine RB (TF ?_);have e1:(Rz st)[i]?=some (Rz st)[i]:=v_ hi;have e2:(Rz st)[j]?=some (Rz st)[j]:=v_ hj;refine RB (cP e1 (RB (cP e2 (L _ _ st _ (hS.at e1) (hS.at e2) hk ?_))));unfold R at q;rw[e1,e2]at q;exact q
theorem Et{Q:Unit->RD->Prop}(hl:lo<=i)(hj:j<=lo+n)(hsz:j<=(Rz st).size)(h:∀ap,Within st ap lo n->(∀k,R rk (Rz ap) k=if i<=k/\k<j then R rk (Rz st) (i+j-1-k)else R rk (Rz st) k)->Q () ap):wpS M A E s (Tz i j) Q st:=by rw[reverseSlice'_eq];refine Uu (h _ ⟨⟨rfl,rfl,rfl,mirror_perm _ _ _ _⟩,λk hk=>?_⟩ λk=>Ci hsz k);show(mirror (Rz st) i j ((j-i)/2))[k]?=_;rw[V' hsz,if_neg (by lia)]
theorem F6{ok:Nat}{Q:Bool->RD->Prop}(L:jK M A E s kd rk S)(hk:kindOf st=kd)(hS:pO S st)(hn:lo+n<=(Rz st).size)(hok:ok<=n)(hs:iV rk (Rz st) lo ok)
  (h:∀ap,Within st ap lo n->iV rk (Rz ap) lo n->Q true ap):wpS M A E s (X4 lo n ok) Q st:=by
 rw[binarySort'_eq];refine RB (Su (R6 (I:=λk c ap=>c=(none,())/\Within st ap lo n/\iV rk (Rz ap) lo k) (Q:=λc ap=>c=(none,())/\Within st ap lo n/\iV rk (Rz ap) lo (max (max ok 1) n)) ?_ (λc ap z=>z) ⟨rfl,.iW,λi j h1 h2=>?_⟩) ?_)
 ·rintro k c gl hk1 hk2 ⟨rfl,W,s1⟩;have sz1:=W.kp.size;have hS1:=hS.kp W.kp;refine RB (Su (R6 (I:=λx c ap=>ap=gl/\∃l r,c=(none,l,r)/\l<=r/\r<=k/\r-l<=k-x/\(∀i,i<l->R rk (Rz gl) (lo+i)<=R rk (Rz gl) (lo+k))/\(∀i,r<=i->i<k->R rk (Rz gl) (lo+k)<R rk (Rz gl) (lo+i)))
   (Q:=λc ap=>ap=gl/\∃l,c=(none,l,l)/\l<=k/\(∀i,i<l->R rk (Rz gl) (lo+i)<=R rk (Rz gl) (lo+k))/\(∀i,l<=i->i<k->R rk (Rz gl) (lo+k)<R rk (Rz gl) (lo+i))) ?_ ?_ ⟨rfl,0,k,rfl,A_ _,b_ _,by lia,λi hi=>by lia,λi h1 h2=>by lia⟩) ?_)
  ·rintro x c ii _ hx ⟨rfl,l,r,rfl,g1,g2,g3,g4,g5⟩;dsimp only;by_cases z:l>=r
   ·rw[if_pos z];have e:l=r:=by lia
    subst e;exact RH ⟨rfl,l,rfl,g2,g4,g5⟩
   rw[if_neg z];have m1:l<=(l+r)/2:=by omega
   have m2:(l+r)/2<r:=by omega
   generalize (l+r)/2=m at m1 m2 ⊢;have m3:=u_ m2 g2;have sz:∀{y},y<=k->lo+y<(Rz ii).size:=λh=>by lia
   refine RB (mX L (W.kp.k.trans hk) hS1 (sz (b_ _)) (sz (L' m3)) ?_);dsimp only;by_cases w:R rk (Rz ii) (lo+k)<R rk (Rz ii) (lo+m)
   ·rw[decide_eq_true w,if_pos rfl];exact RH ⟨rfl,l,m,rfl,m1,L' m3,by lia,g4,λi h1 h2=>u_ w (s1 m i h1 h2)⟩
   rw[decide_eq_false w,if_neg (by simp)];exact RH ⟨rfl,m+1,r,rfl,m2,g2,by lia,λi hi=>p_ (s1 i m (OR hi) m3) (MU w),g5⟩
  ·rintro c ii ⟨rfl,l,r,rfl,g1,g2,g3,g4,g5⟩;have e:l=r:=by lia
   subst e;exact⟨rfl,l,rfl,g2,g4,g5⟩
  rintro c ii ⟨rfl,l,rfl,g2,g4,g5⟩;dsimp only;rw[moveDown'_eq];have hk1:lo+k<(Rz ii).size:=by lia
  have e0:lo+k-(lo+k-(lo+l))=lo+l:=Nat.sub_sub_self (Oz g2 lo);have hb:∀j,R rk (W4 (Rz ii) (lo+k) (lo+k-(lo+l))) (lo+j)=if j=l then R rk (Rz ii) (lo+k)else if l<j/\j<=k then R rk (Rz ii) (lo+(j-1))else R rk (Rz ii) (lo+j):=λj=>by
   rw[EC hk1 (Nz ..),e0];by_cases c1:j=l
   ·rw[if_pos c1,if_pos (congrArg (lo+·) c1)]
   rw[if_neg c1,if_neg (λz=>c1 (Nat.add_left_cancel z))];by_cases c2:l<j/\j<=k
   ·rw[if_pos c2,if_pos ⟨Pa c2.1 lo,Oz c2.2 lo⟩,QJ (Nat.one_le_of_lt c2.1)]
   rw[if_neg c2,if_neg (λz=>c2 ⟨Nat.lt_of_add_lt_add_left z.1,Nat.le_of_add_le_add_left z.2⟩)]
  refine RB (Uu (RH ⟨rfl,W.trans ⟨⟨rfl,rfl,rfl,bubble_perm _ _ _⟩,λj hj=>?_⟩,λi j kw hj=>?_⟩))
  ·show(W4 (Rz ii) (lo+k) (lo+k-(lo+l)))[j]?=_;rw[W5 hk1 _ (Nz ..),e0,if_neg (by lia),if_neg (by lia)]
  show R rk (W4 (Rz ii) (lo+k) (lo+k-(lo+l))) (lo+i)<=R rk (W4 (Rz ii) (lo+k) (lo+k-(lo+l))) (lo+j);rw[hb,hb];have ss:∀p q,p<=q->q<k->R rk (Rz ii) (lo+p)<=R rk (Rz ii) (lo+q):=s1;have hj:j<=k:=OR hj;have dn:∀{x},l<x->x<=k->x-1<k:=λa b=>u_ (Nat.sub_one_lt_of_lt a) b;by_cases i1:i<l
  ·rw[if_neg (s_ i1),if_neg (λz=>Nat.lt_asymm z.1 i1)];by_cases j2:j=l
   ·rw[if_pos j2];exact g4 i i1
   rw[if_neg j2];by_cases j1:l<j
   ·rw[if_pos ⟨j1,hj⟩];exact ss i (j-1) (O5 (O2 i1 j1)) (dn j1 hj)
   rw[if_neg (λz=>j1 z.1)];exact ss i j kw (u_ (OH (MU j1) j2) g2)
  by_cases i2:i=l
  ·rw[if_pos i2];by_cases j2:j=l
   ·rw[if_pos j2];exact b_ _
   have j1:l<j:=OH (i2▸kw) (λz=>j2 z.symm);rw[if_neg j2,if_pos ⟨j1,hj⟩];exact L' (g5 (j-1) (O5 j1) (dn j1 hj))
  have i3:l<i:=OH (MU i1) (λz=>i2 z.symm);have j1:=u_ i3 kw;rw[if_neg i2,if_pos ⟨i3,p_ kw hj⟩,if_neg (λz=>ND _ (z▸j1)),if_pos ⟨j1,hj⟩];exact ss (i-1) (j-1) (Qr kw 1) (dn j1 hj)
 ·by_cases z:1<=ok
  ·rw[Nat.max_eq_left z]at h2;exact hs i j h1 h2
  have:i=j:=by lia
  subst this;exact b_ _
 rintro c gl ⟨rfl,W,s1⟩;exact RH (h gl W λi j h1 h2=>s1 i j h1 (by lia))
end
theorem Ba{l x:Nat}(h:1<=x):l+(x-1)=l+x-1:=(QJ h l).symm
theorem Ju{l k:Nat}(h:l<=k):l+(k-l)=k:=OB h
theorem Ls{l a:Nat}(h:i<a):l+(l+a)-1-(l+i)=l+(a-1-i):=by lia
theorem Iq{l x k:Nat}(h0:l<=k)(h:k<l+x):k-l<x:=OE h0 h
noncomputable def DG(l0 a0 q0:Nat):StateT RD Sem (Option Nat):=do
 let mut n:=a0
 for _ in [a0:q0]do
  let some sm <-W6 (l0+n) (l0+n-1) | return none
  if sm then break
  n:=n+1
 return some n
def uW(l0 a0 q0:Nat):StateT RD Sem (Option Nat):=do
 Tz l0 (l0+a0)
 DG l0 a0 q0
def vb(l0 a0 q0:Nat):StateT RD Sem (Option Nat):=do
 rule "list.sort.descending-run"
 let mut n:=a0+1
 let mut eq:=0
 for _ in [n:q0]do
  let some sm <-W6 (l0+n) (l0+n-1) | return none
  if sm then
   if eq > 0 then Tz (l0+n-(eq+1)) (l0+n)
   eq:=0
  else
   let some la <-W6 (l0+n-1) (l0+n) | return none
   if la then break
   eq:=eq+1
  n:=n+1
 if eq > 0 then
  Tz (l0+n-(eq+1)) (l0+n)
  uW l0 n q0
 else uW l0 n q0
theorem Kr(l0 q0:Nat):Xn l0 q0=(do
 let mut n:=1
 for _ in [1:q0]do
  let some sm <-W6 (l0+n) (l0+n-1) | return none
  if sm then break
  n:=n+1
 if n == q0 then return some n
 if n > 1 then
  let some ro <-W6 l0 (l0+n-1) | return none
  if ro then return some n
  Tz l0 (l0+n)
  vb l0 n q0
 else vb l0 n q0):=rfl
variable {a0 l0 q0:Nat}
section
variable{M:Tp}{A:RS}{E:Rq->Ru->Prop}{s:Ru}{kd:SQ}{rk:Ry->Nat}{S:Ry->Prop}
theorem iV.snoc (h:iV rk xs lo n)(h1:1<=n)(k:R rk xs (lo+n-1)<=R rk xs (lo+n)):iV rk xs lo (n+1):=λi j kw hj=>by
 by_cases z:j<n
 ·exact h i j kw z
 have e:j=n:=by lia
 subst e;by_cases w:i=j
 ·subst w;exact b_ _
 have:=h i (j-1) (by lia) (by lia);rw[Ba h1]at this;exact p_ this k
theorem Ec(L:jK M A E s kd rk S)(hk:kindOf st=kd)(hS:pO S st)(hsz:l0+q0<=(Rz st).size)(h1:1<=a0)(h2:a0<=q0)(hs:iV rk (Rz st) l0 a0)
  (h:∀n,a0<=n->n<=q0->iV rk (Rz st) l0 n->Q (some n) st):wpS M A E s (DG l0 a0 q0) Q st:=by
 unfold DG;dsimp only;refine RB (Su (R6 (I:=λx c ap=>ap=st/\c=(none,x)/\iV rk (Rz st) l0 x) (Q:=λc ap=>ap=st/\∃n,c=(none,n)/\a0<=n/\n<=q0/\iV rk (Rz st) l0 n) ?_ ?_ ⟨rfl,rfl,hs⟩) ?_)
 ·rintro x c gl hx1 hx2 ⟨rfl,rfl,s1⟩;dsimp only;refine RB (mX L hk hS (by lia) (by lia) ?_);dsimp only;by_cases w:R rk (Rz gl) (l0+x)<R rk (Rz gl) (l0+x-1)
  ·rw[decide_eq_true w,if_pos rfl];exact RH ⟨rfl,x,rfl,hx1,by lia,s1⟩
  rw[decide_eq_false w,if_neg (by simp)];exact RH ⟨rfl,rfl,s1.snoc (by lia) (by lia)⟩
 ·rintro c gl ⟨rfl,rfl,s1⟩;rw[P4 h2]at s1 ⊢;exact⟨rfl,q0,rfl,h2,b_ _,s1⟩
 rintro c gl ⟨rfl,n,rfl,g1,g2,g3⟩;exact RH (h n g1 g2 g3)
theorem uM(L:jK M A E s kd rk S)(hk:kindOf st=kd)(hS:pO S st)(hsz:l0+q0<=(Rz st).size)(h1:1<=a0)(h2:a0<=q0)(hs:wZ rk (Rz st) l0 a0)
  (h:∀n ap,a0<=n->n<=q0->Within st ap l0 q0->iV rk (Rz ap) l0 n->Q (some n) ap):wpS M A E s (uW l0 a0 q0) Q st:=by
 unfold uW;refine RB (Et (rk:=rk) (lo:=l0) (n:=q0) (b_ _) (by lia) (by lia) λgl W1 r1=>?_);refine Ec L (W1.kp.k.trans hk) (hS.kp W1.kp) (by rw[W1.kp.size];exact hsz) h1 h2 (λi j kw hj=>?_) λn g1 g2 g3=>h n gl g1 g2 W1 g3
 have hi:=MX kw hj;rw[r1,r1,if_pos ⟨P0 ..,Pa hi l0⟩,if_pos ⟨P0 ..,Pa hj l0⟩,Ls hi,Ls hj];exact hs (a0-1-j) (a0-1-i) (Nat.sub_le_sub_left kw _) (MX (Nz _ _) (PK h1 Oa))
theorem rS{Q:Unit->RD->Prop}(hl:lo<=i)(hj:j<=lo+n)(hsz:j<=(Rz st).size)(heq:∀k,i<=k->k<j->R rk (Rz st) k=R rk (Rz st) (j-1))(h:∀ap,Within st ap lo n->(∀k,R rk (Rz ap) k=R rk (Rz st) k)->Q () ap):wpS M A E s (Tz i j) Q st:=by
 refine Et (rk:=rk) hl hj hsz λgl W r1=>h gl W λk=>?_;rw[r1];split
 ·rename_i z;rw[heq k z.1 z.2,heq (i+j-1-k) (by(clear r1 W h heq hsz hj hl;lia)) (by(clear r1 W h heq hsz hj hl;lia))]
 rfl
theorem wZ.snoc (h:wZ rk xs lo n)(h1:1<=n)(k:R rk xs (lo+n)<=R rk xs (lo+n-1)):wZ rk xs lo (n+1):=λi j kw hj=>by
 by_cases z:j<n
 ·exact h i j kw z
 have e:j=n:=by lia
 subst e;by_cases w:i=j
 ·subst w;exact b_ _
 have:=h i (j-1) (by lia) (by lia);rw[show lo+(j-1)=lo+j-1 by lia]at this;exact p_ k this
theorem uC(L:jK M A E s kd rk S)(hk:kindOf st=kd)(hS:pO S st)(hsz:l0+q0<=(Rz st).size)(h2:a0+1<=q0)(hs:wZ rk (Rz st) l0 (a0+1))(hr:∀x,RA M A (rule x) (λ_ s'=>s'=s) E s)
  (h:∀n ap,1<=n->n<=q0->Within st ap l0 q0->iV rk (Rz ap) l0 n->Q (some n) ap):wpS M A E s (vb l0 a0 q0) Q st:=by
 unfold vb;refine RB (Vi (RZ (hr _) (λ_ _ z=>⟨z,?_⟩) λ_ _ z=>z));dsimp only;refine RB (Su (R6 (I:=λx c ap=>∃eq,c=(none,x,eq)/\Within st ap l0 q0/\wZ rk (Rz ap) l0 x/\eq+1<=x/\∀k,x-1-eq<=k->k<x->R rk (Rz ap) (l0+k)=R rk (Rz ap) (l0+(x-1)))
  (Q:=λc ap=>∃n eq,c=(none,n,eq)/\a0+1<=n/\n<=q0/\Within st ap l0 q0/\wZ rk (Rz ap) l0 n/\eq+1<=n/\∀k,n-1-eq<=k->k<n->R rk (Rz ap) (l0+k)=R rk (Rz ap) (l0+(n-1))) ?_ ?_ ⟨0,rfl,.iW,hs,by lia,λk h1 h2=>by rw[show k=a0+1-1 by lia]⟩) ?_)
 ·rintro x c gl hx1 hx2 ⟨eq,rfl,W,d1,e1,ev⟩;dsimp only;have hk1:=W.kp.k.trans hk;have hS1:=hS.kp W.kp;have sz1:=W.kp.size;have x1:1<=x:=p_ (QU 1 eq) e1;have b1:l0+x<(Rz gl).size:=by lia
  have b2:l0+x-1<(Rz gl).size:=MX (Nz ..) b1;refine RB (mX L hk1 hS1 b1 b2 ?_);dsimp only;by_cases w:R rk (Rz gl) (l0+x)<R rk (Rz gl) (l0+x-1)
  ·rw[decide_eq_true w,if_pos rfl];have fin:∀ii,Within st ii l0 q0->(∀k,R rk (Rz ii) k=R rk (Rz gl) k)->∃eq',((none,x+1,0):Option (Option Nat)×Nat×Nat)=(none,x+1,eq')/\Within st ii l0 q0/\wZ rk (Rz ii) l0 (x+1)/\eq'+1<=x+1/\∀k,x+1-1-eq'<=k->k<x+1->R rk (Rz ii) (l0+k)=R rk (Rz ii) (l0+(x+1-1)):=λii W2 r2=>by refine⟨0,rfl,W2,λi j kw hj=>?_,by lia,λk h1 h2=>by rw[show k=x+1-1 by lia]⟩;rw[r2,r2];exact d1.snoc x1 (L' w) i j kw hj
   by_cases z:eq > 0
   ·rw[if_pos z];refine RB (rS (rk:=rk) (lo:=l0) (n:=q0) (by lia) (by lia) (by lia) (λk h1 h2=>?_) λii W2 r2=>RH (fin ii (W.trans W2) r2));have k0:l0<=k:=by lia
    have:=ev (k-l0) (by lia) (Iq k0 h2);rw[Ju k0,Ba x1]at this;exact this
   rw[if_neg z];exact RH (fin gl W λ_=>rfl)
  rw[decide_eq_false w,if_neg (by simp)];refine RB (mX L hk1 hS1 b2 b1 ?_);dsimp only;by_cases v:R rk (Rz gl) (l0+x-1)<R rk (Rz gl) (l0+x)
  ·rw[decide_eq_true v,if_pos rfl];exact RH ⟨x,eq,rfl,hx1,by lia,W,d1,e1,ev⟩
  rw[decide_eq_false v,if_neg (by simp)];have ee:R rk (Rz gl) (l0+x)=R rk (Rz gl) (l0+x-1):=QV (MU v) (MU w);refine RH ⟨eq+1,rfl,W,d1.snoc x1 (Ng ee),by lia,λk h1 h2=>?_⟩;rw[show l0+(x+1-1)=l0+x by lia];by_cases y:k=x
  ·rw[y]
  have:=ev k (by lia) (by lia);rw[Ba x1]at this;exact this.trans ee.symm
 ·rintro c gl ⟨eq,rfl,W,d1,e1,ev⟩;rw[P4 h2]at d1 e1 ev ⊢;exact⟨q0,eq,rfl,h2,b_ _,W,d1,e1,ev⟩
 rintro c gl ⟨n,eq,rfl,g1,g2,W,d1,e1,ev⟩;have sz1:=W.kp.size;dsimp only;by_cases z:eq > 0
 ·rw[if_pos z];refine RB (rS (rk:=rk) (lo:=l0) (n:=q0) (by lia) (by lia) (by lia) (λk h1 h2=>?_) λii W2 r2=>?_)
  ·have k0:l0<=k:=by lia
   have:=ev (k-l0) (by lia) (Iq k0 h2);rw[Ju k0,Ba (p_ (QU 1 eq) e1)]at this;exact this
  refine uM L ((W.trans W2).kp.k.trans hk) (hS.kp (W.trans W2).kp) (by rw[(W.trans W2).kp.size];exact hsz) (by lia) g2 (λi j kw hj=>by rw[r2,r2];exact d1 i j kw hj) λm io k1 k2 W3 s3=>h m io (by lia) k2 ((W.trans W2).trans W3) s3
 rw[if_neg z];exact uM L (W.kp.k.trans hk) (hS.kp W.kp) (by rw[sz1];exact hsz) (by lia) g2 d1 λm io k1 k2 W3 s3=>h m io (by lia) k2 (W.trans W3) s3
theorem ye(L:jK M A E s kd rk S)(hk:kindOf st=kd)(hS:pO S st)(hsz:l0+q0<=(Rz st).size)(h1:1<=q0)(hr:∀x,RA M A (rule x) (λ_ s'=>s'=s) E s)
  (h:∀n ap,1<=n->n<=q0->Within st ap l0 q0->iV rk (Rz ap) l0 n->Q (some n) ap):wpS M A E s (Xn l0 q0) Q st:=by
 rw[Kr];dsimp only;refine RB (Su (R6 (I:=λx c ap=>ap=st/\c=(none,x)/\iV rk (Rz st) l0 x) (Q:=λc ap=>ap=st/\∃n,c=(none,n)/\1<=n/\n<=q0/\iV rk (Rz st) l0 n/\(n=q0\/R rk (Rz st) (l0+n)<R rk (Rz st) (l0+n-1))) ?_ ?_ ⟨rfl,rfl,λi j h1 h2=>by rw[show i=j by lia];exact b_ _⟩) ?_)
 ·rintro x c gl hx1 hx2 ⟨rfl,rfl,s1⟩;dsimp only;refine RB (mX L hk hS (by lia) (by lia) ?_);dsimp only;by_cases w:R rk (Rz gl) (l0+x)<R rk (Rz gl) (l0+x-1)
  ·rw[decide_eq_true w,if_pos rfl];exact RH ⟨rfl,x,rfl,hx1,by lia,s1,.inr w⟩
  rw[decide_eq_false w,if_neg (by simp)];exact RH ⟨rfl,rfl,s1.snoc (by(clear w s1 h hsz hS hk hx2 hr h1 L;omega)) (by lia)⟩
 ·rintro c gl ⟨rfl,rfl,s1⟩;rw[P4 h1]at s1 ⊢;exact⟨rfl,q0,rfl,h1,b_ _,s1,.inl rfl⟩
 rintro c gl ⟨rfl,n,rfl,g1,g2,g3,g4⟩;dsimp only;by_cases e:n=q0
 ·rw[if_pos (by rw[e];exact beq_self_eq_true _)];exact RH (h n gl g1 g2 .iW g3)
 rw[if_neg (by simpa using e)];have lt:=g4.resolve_left e;by_cases z:n > 1
 ·rw[if_pos z];refine RB (mX L hk hS (by lia) (by(clear lt e g4 g3 g1 h hS hk hr h1 L;lia)) ?_);dsimp only;by_cases w:R rk (Rz gl) l0<R rk (Rz gl) (l0+n-1)
  ·rw[decide_eq_true w,if_pos rfl];exact RH (h n gl g1 g2 .iW g3)
  rw[decide_eq_false w,if_neg (by simp)];have all:∀k,l0<=k->k<l0+n->R rk (Rz gl) k=R rk (Rz gl) (l0+n-1):=λk h1 h2=>by have kn:=Iq h1 h2;have a:=g3 0 (k-l0) (A_ _) kn;have b:=g3 (k-l0) (n-1) (O5 kn) (PK g1 Oa);rw[Ju h1]at a b;rw[Ba g1]at b;rw[P5]at a;exact QV b (p_ (MU w) a)
  refine RB (rS (rk:=rk) (lo:=l0) (n:=q0) (b_ _) (by(clear all w z lt e g4 g3 g1 h hsz hS hk hr h1 L;lia)) (by(clear all w z lt e g4 g3 g1 h hS hk hr h1 L;lia)) all λii W2 r2=>?_);refine uC L (W2.kp.k.trans hk) (hS.kp W2.kp) (by rw[W2.kp.size];exact hsz) (by lia) (λi j kw hj=>?_) hr λm io k1 k2 W3 s3=>h m io k1 k2 (W2.trans W3) s3
  rw[r2,r2];by_cases y:j<n
  ·rw[all (l0+i) (by lia) (by lia),all (l0+j) (by lia) (by(clear hj kw r2 W2 all w z lt e g4 g3 g2 g1 h hsz hS hk hr h1 L;lia))];exact b_ _
  rw[show j=n by lia];by_cases y2:i<n
  ·rw[all (l0+i) (by lia) (by(clear y hj kw r2 W2 all w z lt e g4 g3 g2 g1 h hsz hS hk hr h1 L;lia))];exact L' lt
  rw[show i=n by(clear y r2 W2 all w z lt e g4 g3 g2 g1 h hsz hS hk hr h1 L;lia)];exact b_ _
 rw[if_neg z];have n1:n=1:=by lia
 subst n1;refine uC L hk hS hsz (by lia) (λi j kw hj=>?_) hr λm io k1 k2 W3 s3=>h m io k1 k2 W3 s3
 by_cases y:i=j
 ·rw[y];exact b_ _
 rw[show i=0 by lia,show j=1 by lia];exact L' lt
end
noncomputable def wrote(xs:Array Ry)(q:Nat)(ys:Array Ry):Array Ry:=ys.toList.zipIdx.foldl (λu (p,j)=>u.setIfInBounds (q+j) p) xs
theorem IK(i:Nat):V2 i=(do
 let st <-get
 let (some (s1,n1,pw),some (s2,n2,_)):=((RO st)[i]?,(RO st)[i+1]?) | unsupported "internal:list.sort.pending"
 set (S9 (kindOf st) (Rz st) (((RO st).setIfInBounds i (s1,n1+n2,pw)).eraseIdxIfInBounds (i+1)) (Vh st) (R8 st))
 let some k <-gal false (<-R7 (Rz st) s2) (Rz st) s1 n1 0 | return false
 let (s1,n1):=(s1+k,n1-k)
 if n1 == 0 then return true
 let some n2 <-gal true (<-R7 (Rz st) (s1+n1-1)) (Rz st) s2 n2 (n2-1) | return false
 if n2 == 0 then return true
 let x:=(Rz st).extract s1 s2
 let y:=(Rz st).extract s2 (s2+n2)
 let mm <-if n1<=n2 then mLo x y else mHi x y
 modify λz=>setArr z (wrote (Rz z) s1 mm)
 return (R8 (<-get)).isNone):=rfl
theorem uG(q:Nat):∀(l:List Ry) (n:Nat) (xs:Array Ry),q+n+l.length<=xs.size->((l.zipIdx n).foldl (λu (p,j)=>u.setIfInBounds (q+j) p) xs).toList=xs.toList.take (q+n)++(l++xs.toList.drop (q+n+l.length))
 | [],n,xs,_=>by simp
 |p::t,n,xs,h=>by
  rw[j_]at h;rw[PU,QW,uG q t (n+1) _ (by rw[P6];lia),Pw];have hl:q+n<xs.toList.length:=by rw[h_];lia
  rw[show q+(n+1)=q+n+1 by lia,Nm,List.take_set_of_le (b_ _),OV hl,List.drop_set_of_lt (by lia),j_,show q+n+1+t.length=q+n+(t.length+1) by lia];simp
theorem yt{q:Nat}(h:q+ys.size<=xs.size):(wrote xs q ys).toList=xs.toList.take q++(ys.toList++xs.toList.drop (q+ys.size)):=by have:=uG q ys.toList 0 xs (by rw[h_];exact h);rw[h_]at this;exact this
theorem CF{c:List Ry}(h:a.length=b.length)(hi:a.length<=i):(a++c)[i]?=(b++c)[i]?:=by rw[Nt hi,Nt (by lia),h]
section
variable{rk:Ry->Nat}
theorem zN(h:xs.toList[i]?=some p):R rk xs i=rk p:=by unfold R;rw[<-i_,h]
theorem mO(h:iV rk xs lo n):Srt rk ((xs.toList.drop lo).take n):=by
 refine PN.mpr λi j hi hj kw=>?_;have hj':j<n:=by rw[y_]at hj;lia
 have ei:=d_ hi;have ej:=d_ hj;rw[N9,if_pos (by lia),N8]at ei ej;have:=h i j (by lia) hj';rw[zN ei,zN ej]at this;exact this
theorem uU{l k:Nat}(h:k<=n):l+k+(n-k)=l+n:=by rw[OW,OB h]
theorem Ca(hn:lo+n<=xs.size)(h:Srt rk ((xs.toList.drop lo).take n)):iV rk xs lo n:=by
 intro i j kw hj;by_cases e:i=j
 ·rw[e];exact b_ _
 have len:((xs.toList.drop lo).take n).length=n:=by rw[y_,F',h_];lia
 have hi':i<((xs.toList.drop lo).take n).length:=by lia
 have hj':j<((xs.toList.drop lo).take n).length:=by lia
 have:=PN.mp h i j hi' hj' (by lia);have ei:=d_ hi';have ej:=d_ hj';rw[N9,if_pos (by lia),N8]at ei ej;rw[zN ei,zN ej];exact this
theorem xC{m:Nat}(h1:iV rk xs lo n)(h2:iV rk xs (lo+n) m)(h:∀i j,i<n->j<m->R rk xs (lo+i)<=R rk xs (lo+n+j)):iV rk xs lo (n+m):=by
 intro i j kw hj;by_cases z:j<n
 ·exact h1 i j kw z
 by_cases w:i<n
 ·have:=h i (j-n) w (OE (MU z) hj);rw[uU (MU z)]at this;exact this
 have:=h2 (i-n) (j-n) (Qr kw n) (OE (MU z) hj);rw[uU (MU z),uU (MU w)]at this;exact this
theorem oQ{T:List Ry}{k:Nat}(h:k<=n):(T.drop lo).take n=(T.drop lo).take k++(T.drop (lo+k)).take (n-k):=by
 conv=>lhs;rw[show n=k+(n-k)from(OB h).symm,Pq,ON]
theorem JY{r:Array Ry}{k m c:Nat}(hk:k<=n)(hc:c<=m)(hsz:lo+n+m<=xs.size)(o1:iV rk xs lo n)(o2:iV rk xs (lo+n) m)
  (a1:∀p∈(xs.toList.drop lo).take k,∀q∈(xs.toList.drop (lo+n)).take m,rk p<=rk q) (a2:∀p∈(xs.toList.drop lo).take n,∀q∈(xs.toList.drop (lo+n+c)).take (m-c),rk p<=rk q)
  (hr:Res rk ((xs.toList.drop (lo+k)).take (n-k)) ((xs.toList.drop (lo+n)).take c) r.toList) :
  (wrote xs (lo+k) r).Perm xs/\(∀i,(i<lo\/lo+n+m<=i)->(wrote xs (lo+k) r)[i]?=xs[i]?)/\iV rk (wrote xs (lo+k) r) lo (n+m):=by
 have lr:r.size=n-k+c:=by have:=hr.1.length_eq;rw[f',y_,y_,F',F',h_,h_]at this;lia
 have wl:(wrote xs (lo+k) r).toList=xs.toList.take lo++((xs.toList.drop lo).take k++(r.toList++((xs.toList.drop (lo+n+c)).take (m-c)++xs.toList.drop (lo+n+m)))):=by rw[yt (by lia),Pq,gV,lr,<-OW,uU hk];congr 3;have:=(E_ (m-c) (xs.toList.drop (lo+n+c))).symm;rw[ON,uU hc]at this;exact this
 have xl:xs.toList=xs.toList.take lo++((xs.toList.drop lo).take k++((xs.toList.drop (lo+k)).take (n-k)++(xs.toList.drop (lo+n)).take c++((xs.toList.drop (lo+n+c)).take (m-c)++xs.toList.drop (lo+n+m)))):=by have e1:=(E_ lo xs.toList).symm;have e2:=(E_ k (xs.toList.drop lo)).symm;have e3:=(E_ (n-k) (xs.toList.drop (lo+k))).symm;have e4:=(E_ c (xs.toList.drop (lo+n))).symm;have e5:=(E_ (m-c) (xs.toList.drop (lo+n+c))).symm;rw[ON]at e2 e3 e4 e5;rw[uU hk]at e3;rw[uU hc]at e5;rw[gV,<-e5,<-e4,<-e3,<-e2,<-e1]
 have sz:(wrote xs (lo+k) r).size=xs.size:=by have:=congrArg Pf wl;have h2:=congrArg Pf xl;have h3:=hr.1.length_eq;simp only[f']at this h2 h3;have e1:=@h_ _ (wrote xs (lo+k) r);have e2:=@h_ _ xs;lia
 have X:(xs.toList.drop lo).take n=(xs.toList.drop lo).take k++(xs.toList.drop (lo+k)).take (n-k):=oQ hk;have Y:(xs.toList.drop (lo+n)).take m=(xs.toList.drop (lo+n)).take c++(xs.toList.drop (lo+n+c)).take (m-c):=oQ hc;have sX:=mO o1;have sY:=mO o2;rw[X]at sX;rw[Y]at sY;obtain⟨sx1,sx2,sx⟩:=D_.mp sX;obtain⟨sy1,sy2,sy⟩:=D_.mp sY;refine⟨NO.mpr ?_,λi hi=>?_,Ca (by lia) ?_⟩
 ·rw[wl]
  conv=>rhs;rw[xl]
  exact L_ _ (L_ _ (Qg _ hr.1))
 ·rw[<-i_,<-i_,wl]
  conv=>rhs;rw[xl]
  have hl1:(xs.toList.take lo).length=lo:=by rw[y_,h_];lia
  rcases hi with hi|hi
  ·rw[NP (by lia),NP (by lia)]
  have hl2:((xs.toList.drop lo).take k).length=k:=by rw[y_,F',h_];lia
  have hl3:r.toList.length=n-k+c:=by rw[h_];exact lr
  have hl4:=hr.1.length_eq;rw[<-gV,<-gV]
  conv=>rhs;rw[<-gV,<-gV]
  refine CF ?_ ?_
  ·rw[f',f',f',f',hl4]
  rw[f',f',hl1,hl2,hl3];lia
 have hl1:(xs.toList.take lo).length=lo:=by rw[y_,h_];lia
 have e:((wrote xs (lo+k) r).toList.drop lo).take (n+m)=(xs.toList.drop lo).take k++(r.toList++(xs.toList.drop (lo+n+c)).take (m-c)):=by rw[wl,List.drop_left' hl1,<-gV,<-gV,List.take_left',gV];rw[f',f',y_,y_,F',F',h_,h_];lia
 rw[e];have mr:∀q∈r.toList,q∈(xs.toList.drop (lo+k)).take (n-k)\/q∈(xs.toList.drop (lo+n)).take c:=λq hq=>B_.mp (hr.1.mem_iff.mp hq);refine D_.mpr ⟨sx1,D_.mpr ⟨hr.2,sy2,λp hp q hq=>?_⟩,λp hp q hq=>?_⟩
 ·rcases mr p hp with hp|hp
  ·exact a2 p (by rw[X];exact r_ _ hp) q hq
  exact sy p hp q hq
 rcases B_.mp hq with hq|hq
 ·rcases mr q hq with hq|hq
  ·exact sx p hp q hq
  exact a1 p hp q (by rw[Y];exact G' _ hq)
 exact a1 p hp q (by rw[Y];exact r_ _ hq)
end
theorem FC{α:Type}{ps:Array α}{pre post:List α}{x y:α}(h:ps.toList=pre++x::y::post):ps[pre.length]?=some x/\ps[pre.length+1]?=some y:=by
 rw[<-i_,<-i_,h];constructor
 ·rw[Nt (b_ _),O4];rfl
 rw[Nt (by lia),OO];rfl
theorem Bc{α:Type}{ps:Array α}{pre post:List α}{x y z:α}(h:ps.toList=pre++x::y::post):((ps.setIfInBounds pre.length z).eraseIdxIfInBounds (pre.length+1)).toList=pre++z::post:=by
 have hs:ps.size=pre.length+(post.length+2):=by rw[<-h_,h,f'];rfl
 have hb:pre.length+1<(ps.setIfInBounds pre.length z).size:=by rw[P6];lia
 unfold Array.eraseIdxIfInBounds;rw[dif_pos hb,Array.toList_eraseIdx,Pw,h];rw[List.set_append_right _ _ (b_ _),O4,QC,List.eraseIdx_append_of_length_le (by lia),OO]
 rfl
section
variable{M:Tp}{A:RS}{E:Rq->Ru->Prop}{s:Ru}{kd:SQ}{rk:Ry->Nat}{S:Ry->Prop}
theorem IY{σ:Type}{v st:σ}{Q:PUnit->σ->Prop}(q:Q ⟨⟩ v):wpS M A E s (set v:StateT σ Sem PUnit) Q st:=by unfold wpS;rw[StateT.run_set];exact Rv ⟨rfl,q⟩
structure Mgd (rk:Ry->Nat) (st ap:RD) (lo n:Nat) (ps:List (Nat×Nat×Nat)):Prop where
 k:kindOf ap=kindOf st
 f:R8 ap=none
 p:(RO ap).toList=ps
 a:(Rz ap).Perm (Rz st)
 out:∀i,(i<lo\/lo+n<=i)->(Rz ap)[i]?=(Rz st)[i]?
 srt:iV rk (Rz ap) lo n
theorem Jc{pre post:List (Nat×Nat×Nat)}{s1 n1 pw n2 p2:Nat}{Q:Bool->RD->Prop}(L:jK M A E s kd rk S)(hk:kindOf st=kd)(hS:pO S st)(hf:R8 st=none)(hr:∀x,RA M A (rule x) (λ_ s'=>s'=s) E s)
  (hp:(RO st).toList=pre++(s1,n1,pw)::(s1+n1,n2,p2)::post) (h1:1<=n1) (h2:1<=n2) (hsz:s1+n1+n2<=(Rz st).size) (o1:iV rk (Rz st) s1 n1) (o2:iV rk (Rz st) (s1+n1) n2)
  (h:∀ap,Mgd rk st ap s1 (n1+n2) (pre++(s1,n1+n2,pw)::post)->Q true ap):wpS M A E s (V2 pre.length) Q st:=by
 rw[IK];refine RB (TF ?_);dsimp only;obtain⟨e1,e2⟩:=FC hp;rw[e1,e2];dsimp only;refine RB (IY ?_);generalize hst1:S9 (kindOf st) (Rz st) (((RO st).setIfInBounds pre.length (s1,n1+n2,pw)).eraseIdxIfInBounds (pre.length+1)) (Vh st) (R8 st)=gl;have k1:kindOf gl=kd:=by rw[<-hst1];exact hk
 have a1:Rz gl=Rz st:=by rw[<-hst1]
 have f1:R8 gl=none:=by rw[<-hst1];exact hf
 have p1:(RO gl).toList=pre++(s1,n1+n2,pw)::post:=by rw[<-hst1];exact Bc hp
 have SA:∀(i:Nat) p,(Rz st)[i]?=some p->S p:=λi p e=>hS.at e;have gt:∀i,i<(Rz st).size->∃p,(Rz st)[i]?=some p:=λi hi=>⟨_,v_ hi⟩;have RR:∀{i:Nat}{p:Ry},(Rz st)[i]?=some p->R rk (Rz st) i=rk p:=λ{i p} e=>by unfold R;rw[e]
 obtain⟨ky,hky⟩:=gt (s1+n1) (by lia);have pD:iV rk (Rz st) s1 (n1+n2)->Q true gl:=λz=>h gl ⟨k1.trans hk.symm,f1,p1,by rw[a1],λi _=>by rw[a1],by rw[a1];exact z⟩
 refine RB (cP hky (RB (nh L k1 (by lia) (by lia) SA (SA _ _ hky) (λi j p q kw hj hp hq=>?_) λk hk1 g1 g2=>?_)))
 ·have:=o1 i j kw hj;rw[RR hp,RR hq]at this;exact this
 dsimp only;have below:∀i,i<k->∀j,j<n2->R rk (Rz st) (s1+i)<=R rk (Rz st) (s1+n1+j):=λi hi j hj=>by obtain⟨p,hp⟩:=gt (s1+i) (by lia);have a:=g1 i p hi hp;rw[if_neg (by simp)]at a;have b:=o2 0 j (A_ _) hj;rw[P5,RR hky]at b;rw[RR hp];exact p_ a b
 by_cases z:n1-k=0
 ·rw[if_pos (by rw[z];rfl)];exact RH (pD (xC o1 o2 λi j hi hj=>below i (by lia) j hj))
 rw[if_neg (by simpa using z)];obtain⟨la,hla⟩:=gt (s1+n1-1) (by lia);rw[uU hk1];refine RB (cP hla (RB (nh L k1 (by lia) (by omega) SA (SA _ _ hla) (λi j p q kw hj hp hq=>?_) λc hc1 d1 d2=>?_)))
 ·have:=o2 i j kw hj;rw[RR hp,RR hq]at this;exact this
 dsimp only;have above:∀i,i<n1->∀j,c<=j->j<n2->R rk (Rz st) (s1+i)<=R rk (Rz st) (s1+n1+j):=λi hi j hj hj2=>by
  obtain⟨p,hp⟩:=gt (s1+n1+j) (by lia);have a:=d2 j p hj hj2 hp;rw[if_pos rfl]at a;have hn1:1<=n1:=by lia
  have b:=o1 i (n1-1) (by lia) (PK hn1 Oa);rw[Ba hn1,RR hla]at b;rw[RR hp];exact p_ b a
 by_cases w:c=0
 ·rw[if_pos (by rw[w];rfl)];exact RH (pD (xC o1 o2 λi j hi hj=>above i hi j (by lia) hj))
 rw[if_neg (by simpa using w)];have ex:((Rz st).extract (s1+k) (s1+n1)).toList=((Rz st).toList.drop (s1+k)).take (n1-k):=by have:=pz (Rz st) (s1+k) (n1-k);rw[uU hk1]at this;exact this
 have ey:=pz (Rz st) (s1+n1) c;have zx:((Rz st).extract (s1+k) (s1+n1)).size=n1-k:=by rw[QD];lia
 have zy:((Rz st).extract (s1+n1) (s1+n1+c)).size=c:=by rw[QD];lia
 have T2:∀{i:Nat}{p:Ry},(Rz st).toList[i]?=some p->(Rz st)[i]?=some p:=λ{i p} e=>by rw[i_]at e;exact e
 have sX:=mO o1;have sY:=mO o2;rw[oQ hk1]at sX;rw[oQ hc1]at sY;have H:LoOk rk S ((Rz st).extract (s1+k) (s1+n1)) ((Rz st).extract (s1+n1) (s1+n1+c)):=by
  refine⟨by rw[ex];exact(D_.mp sX).2.1,by rw[ey];exact(D_.mp sY).1,λi p e=>?_,λi p e=>?_,by lia,by lia,λp e u hu=>?_,λp e u hu=>?_⟩
  ·rw[Ob]at e;split at e
   ·exact SA _ _ e
   cases e
  ·rw[Ob]at e;split at e
   ·exact SA _ _ e
   cases e
  ·rw[Ob,if_pos (by lia),P5,hky]at e;cases e;rw[ex]at hu;obtain⟨j,hj,ej⟩:=jI hu;have:=g2 (k+j) u (by lia) (by lia) (by rw[<-OW];exact T2 ej);rw[if_neg (by simp)]at this;exact L' this
  rw[zx,Ob,if_pos (by lia),show s1+k+(n1-k-1)=s1+n1-1 by lia,hla]at e;cases e;rw[ey]at hu;obtain⟨j,hj,ej⟩:=jI hu;have:=d1 j u hj (T2 ej);rw[if_pos rfl]at this;exact L' this
 have fin:∀r ii,Keep gl ii->Res rk ((Rz st).extract (s1+k) (s1+n1)).toList ((Rz st).extract (s1+n1) (s1+n1+c)).toList r.toList->wpS M A E s (do
   modify λz=>setArr z (wrote (Rz z) (s1+k) r)
   let g <-get
   pure (R8 g).isNone:StateT RD Sem Bool) Q ii:=λr ii K hres=>by
  rw[ex,ey]at hres;refine RB (Uu (RB (TF (RH ?_))));have hf2:R8 ii=none:=K.f.trans f1;have aa:Rz ii=Rz st:=K.a.trans a1;have q1:∀p∈((Rz st).toList.drop s1).take k,∀q∈((Rz st).toList.drop (s1+n1)).take n2,rk p<=rk q:=λp hp q hq=>by obtain⟨i,hi,ei⟩:=jI hp;obtain⟨j,hj,ej⟩:=jI hq;have:=below i hi j hj;rw[RR (T2 ei),RR (T2 ej)]at this;exact this
  have q2:∀p∈((Rz st).toList.drop s1).take n1,∀q∈((Rz st).toList.drop (s1+n1+c)).take (n2-c),rk p<=rk q:=λp hp q hq=>by obtain⟨i,hi,ei⟩:=jI hp;obtain⟨j,hj,ej⟩:=jI hq;have:=above i hi (c+j) (by lia) (by lia);rw[<-OW,RR (T2 ei),RR (T2 ej)]at this;exact this
  obtain⟨m1,m2,m3⟩:=JY (rk:=rk) (xs:=Rz st) (r:=r) (lo:=s1) (k:=k) (n:=n1) (m:=n2) (c:=c) hk1 hc1 (by omega) o1 o2 q1 q2 hres;rw[show(R8 (setArr ii (wrote (Rz ii) (s1+k) r))).isNone=true by show(R8 ii).isNone=true;rw[hf2];rfl];refine h _ ⟨K.k.trans (k1.trans hk.symm),hf2,?_,?_,λi hi=>?_,?_⟩
  ·show(RO ii).toList=_;rw[K.p];exact p1
  ·show(wrote (Rz ii) (s1+k) r).Perm _;rw[aa];exact m1
  ·show(wrote (Rz ii) (s1+k) r)[i]?=_;rw[aa];exact m2 i (by lia)
  show iV rk (wrote (Rz ii) (s1+k) r) _ _;rw[aa];exact m3
 by_cases v:n1-k<=c
 ·rw[if_pos v];exact RB (JO L H k1 fin hr)
 rw[if_neg v];exact RB (JN L H k1 fin hr)
end
abbrev CS:=Option Unit×Unit
abbrev LS:=Option Unit×Nat
noncomputable def qW(w0:Nat):StateT RD Sem (ForInStep CS):=do
 let g <-get
 match(if(RO g).size > 1 then(RO g)[(RO g).size-2]? else none)with
 |some (_,_,old)=>
  if old<=w0 then pure (RG (none,()))
  else do
   let b <-V2 ((RO g).size-2)
   if(!b)=true then pure (RG (some (),()))else pure (RQ (none,()))
 | _=>pure (RG (none,()))
noncomputable def vc(q0 n:Nat):StateT RD Sem (ForInStep LS):=do
 modify λz=>setPending z ((RO z).push (q0,n,0))
 pure (RQ (none,q0+n))
def tl(sz q0 n:Nat):StateT RD Sem (ForInStep LS):=do
 let g <-get
 match(RO g).back? with
 |some (s1,n1,_)=>do
  let c <-forIn [0:sz] ((none,()):CS) λ_ _=>qW (power' sz (2*s1+n1) (2*s1+n1+n1+n) sz)
  match c.1 with
  |some r=>pure (RG (some r,q0))
  |none=>do
   modify λz=>setPending z ((RO z).modify ((RO z).size-1) λx=>(x.1,x.2.1,power' sz (2*s1+n1) (2*s1+n1+n1+n) sz))
   vc q0 n
 | _=>vc q0 n
def oh(sz q0:Nat):StateT RD Sem (ForInStep LS):=
 if q0>=sz then pure (RG (none,q0))else do
  let f <-Xn q0 (sz-q0)
  match f with
  |some n=>
   if n<Wm sz sz 0 then do
    rule "list.sort.binary-insertion"
    let b <-X4 q0 (min (sz-q0) (Wm sz sz 0)) n
    if(!b)=true then pure (RG (some (),q0))else tl sz q0 (min (sz-q0) (Wm sz sz 0))
   else tl sz q0 n
  | _=>pure (RG (some (),q0))
noncomputable def pick(ps:Array (Nat×Nat×Nat)):Nat:=
 if Rj (λx=>decide (x<ps[ps.size-2+1]?.elim 0 λy=>y.2.1)) (if ps.size-2 > 0 then QX (λy=>y.2.1) ps[ps.size-2-1]? else none)=true then ps.size-2-1 else ps.size-2
def AR:StateT RD Sem (ForInStep CS):=do
 let g <-get
 if(RO g).size<=1 then pure (RG (none,()))
 else do
  let b <-V2 (pick (RO g))
  if(!b)=true then pure (RG (some (),()))else pure (RQ (none,()))
theorem Lr:sortRuns'=(do
 let g <-get
 let c <-forIn [0:(Rz g).size] ((none,0):LS) λ_ c=>oh (Rz g).size c.2
 match c.1 with
 |some r=>pure r
 |none=>do
  let d <-forIn [0:(Rz g).size] ((none,()):CS) λ_ _=>AR
  match d.1 with
  |some r=>pure r
  |none=>pure ()):=by
 rw[sortRuns'_eq];dsimp only;refine congrArg (bind get) (funext λg=>?_);refine congr (congrArg bind ?_) (funext λc=>?_)
 ·refine congrArg (forIn _ _) (funext λ_=>funext λc=>?_);unfold oh;refine ite_congr rfl (λ_=>rfl) (λ_=>?_);refine congrArg (bind _) (funext λf=>?_);cases f with
  |none=>rfl
  |some n=>
   dsimp only;refine ite_congr rfl (λ_=>congrArg (bind _) (funext λ_=>congrArg (bind _) (funext λb=>ite_congr rfl (λ_=>rfl) (λ_=>?_)))) (λ_=>?_)
   all_goals
    unfold tl;refine congrArg (bind _) (funext λg=>?_);generalize (RO g).back?=bk;rcases bk with _|⟨s1,n1,z⟩
    ·rfl
    dsimp only;refine congr (congrArg bind ?_) (funext λc=>?_)
    ·refine congrArg (forIn _ _) (funext λ_=>funext λc=>?_);unfold qW;refine congrArg (bind _) (funext λg=>?_);generalize (if(RO g).size > 1 then(RO g)[(RO g).size-2]? else none)=o;rcases o with _|⟨_,_,_⟩ <;> rfl
    rcases c with⟨_ | _,_⟩ <;> rfl
 rcases c with⟨_ | _,_⟩
 ·dsimp only;refine congr (congrArg bind ?_) (funext λc=>?_)
  ·rfl
  rcases c with⟨_ | _,_⟩ <;> rfl
 rfl
def Pd(rk:Ry->Nat)(xs:Array Ry):List (Nat×Nat×Nat)->Nat->Nat->Prop
 | [],a,b=>a=b
 | (c,n,_)::t,a,b=>c=a/\1<=n/\iV rk xs c n/\Pd rk xs t (a+n) b
section
variable{rk:Ry->Nat}
theorem Pd.le :∀{l:List (Nat×Nat×Nat)}{a b:Nat},Pd rk xs l a b->a+l.length<=b
 | [],_,_,h=>Ng h
 | (c,n,_)::t,a,b,h=>by have:=h.2.2.2.le;have:=h.2.1;rw[j_];lia
theorem Pd.congr :∀{l:List (Nat×Nat×Nat)}{a b:Nat},Pd rk xs l a b->(∀i,a<=i->i<b->R rk ys i=R rk xs i)->Pd rk ys l a b
 | [],_,_,h,_=>h
 | (c,n,_)::t,a,b,h,e=>by have le:=h.2.2.2.le;have ca:=h.1;refine⟨h.1,h.2.1,λi j kw hj=>?_,h.2.2.2.congr λi h1 h2=>e i (by lia) h2⟩;rw[e _ (by lia) (by lia),e _ (by lia) (by lia)];exact h.2.2.1 i j kw hj
theorem kW{xs:Array Ry}:∀{l m:List (Nat×Nat×Nat)}{a b:Nat},Pd rk xs (l++m) a b↔∃c,Pd rk xs l a c/\Pd rk xs m c b
 | [],m,a,b=>⟨λh=>⟨a,rfl,h⟩,λ⟨c,e,h⟩=>by cases (show a=c from e);exact h⟩
 | (c,n,_)::t,m,a,b=>⟨λh=>by obtain⟨d,h1,h2⟩:=kW.mp h.2.2.2;exact⟨d,⟨h.1,h.2.1,h.2.2.1,h1⟩,h2⟩,λ⟨d,h,h2⟩=>⟨h.1,h.2.1,h.2.2.1,kW.mpr ⟨d,h.2.2.2,h2⟩⟩⟩
theorem Pd.modify {w0:Nat}:∀{l:List (Nat×Nat×Nat)}{i a b:Nat},Pd rk xs l a b->Pd rk xs (l.modify i λx=>(x.1,x.2.1,w0)) a b
 | [],i,_,_,h=>by cases i <;> exact h
 | (c,n,_)::t,0,a,b,h=>⟨h.1,h.2.1,h.2.2.1,h.2.2.2⟩
 | (c,n,_)::t,i+1,a,b,h=>⟨h.1,h.2.1,h.2.2.1,h.2.2.2.modify⟩
theorem wo{α:Type}:∀{l:List α}{i:Nat},i+1<l.length->∃pre x y post,l=pre++x::y::post/\pre.length=i
 |x::y::t,0,_=>⟨[],x,y,t,rfl,rfl⟩
 | [_],0,h=>absurd h (by simp)
 |x::t,i+1,h=>by obtain⟨p,a,b,q,e,f⟩:=wo (l:=t) (i:=i) (by rw[j_]at h;lia);exact⟨x::p,a,b,q,by rw[e];rfl,by rw[j_,f]⟩
 | [],_,h=>absurd h (by simp)
end
section
variable{M:Tp}{A:RS}{E:Rq->Ru->Prop}{s:Ru}{kd:SQ}{rk:Ry->Nat}{S:Ry->Prop}{a0:Array Ry}
structure Iv (kd:SQ) (rk:Ry->Nat) (a0:Array Ry) (q0:Nat) (st:RD):Prop where
 k:kindOf st=kd
 f:R8 st=none
 a:(Rz st).Perm a0
 pd:Pd rk (Rz st) (RO st).toList 0 q0
theorem Iv.all (h:Iv kd rk a0 q0 st)(hS:∀p∈a0.toList,S p):pO S st:=λp hp=>hS p ((NO.mp h.a).mem_iff.mp hp)
theorem ym{Q:Bool->RD->Prop}(L:jK M A E s kd rk S)(hS:∀p∈a0.toList,S p)(hr:∀x,RA M A (rule x) (λ_ s'=>s'=s) E s)(I:Iv kd rk a0 q0 st)(hq:q0<=a0.size)(hi:i+1<(RO st).size)
  (h:∀ap,Iv kd rk a0 q0 ap->(RO ap).size+1=(RO st).size->(∀j,q0<=j->(Rz ap)[j]?=(Rz st)[j]?)->Q true ap):wpS M A E s (V2 i) Q st:=by
 obtain⟨pre,⟨s1,n1,pw⟩,⟨s2,n2,p2⟩,post,e,el⟩:=wo (l:=(RO st).toList) (i:=i) (by rw[h_];exact hi);subst el;have P:=I.pd;rw[e]at P;obtain⟨c,P1,e1,k1,o1,e2,k2,o2,P3⟩:=kW.mp P;subst e1;subst e2;have le:=P3.le;have sz:=I.a.size_eq;refine Jc L I.k (I.all hS) I.f hr e k1 k2 (by lia) o1 o2 λap m=>?_
 have same:∀j,(j<s1\/s1+n1+n2<=j)->R rk (Rz ap) j=R rk (Rz st) j:=λj hj=>jX (m.out j (by lia))
 refine h ap ⟨m.k.trans I.k,m.f,m.a.trans I.a,?_⟩ ?_ λj hj=>m.out j (by lia)
 ·rw[m.p];refine kW.mpr ⟨s1,P1.congr λj _ hj=>same j (by lia),rfl,by lia,m.srt,?_⟩;rw[<-OW];exact P3.congr λj hj _=>same j (by lia)
 rw[<-h_,<-h_,m.p,e];simp only[f',j_];lia
theorem yR{w0:Nat}{Q:ForInStep CS->RD->Prop}(L:jK M A E s kd rk S)(hS:∀p∈a0.toList,S p)(hr:∀x,RA M A (rule x) (λ_ s'=>s'=s) E s)(I:Iv kd rk a0 q0 st)(hq:q0<=a0.size)
  (h:∀ap (d:Bool),Iv kd rk a0 q0 ap->(∀j,q0<=j->(Rz ap)[j]?=(Rz st)[j]?)->Q (if d=true then RG (none,())else RQ (none,())) ap):wpS M A E s (qW w0) Q st:=by
 unfold qW;refine RB (TF ?_);generalize ho:(if(RO st).size > 1 then(RO st)[(RO st).size-2]? else none)=o;rcases o with _|⟨x,y,old⟩
 ·exact RH (h st true I λ_ _=>rfl)
 dsimp only;have h1:(RO st).size > 1:=by
  by_cases z:(RO st).size > 1
  ·exact z
  rw[if_neg z]at ho;cases ho
 by_cases w:old<=w0
 ·rw[if_pos w];exact RH (h st true I λ_ _=>rfl)
 rw[if_neg w];refine RB (ym L hS hr I hq (by lia) λap I' _ e=>?_);rw[if_neg (by simp)];exact RH (h ap false I' e)
theorem u9{Q:ForInStep LS->RD->Prop}(I:Iv kd rk a0 q0 st)(hn:1<=n)(o:iV rk (Rz st) q0 n)(h:∀ap,Iv kd rk a0 (q0+n) ap->Q (RQ (none,q0+n)) ap):wpS M A E s (vc q0 n) Q st:=by unfold vc;refine RB (Uu (RH (h _ ⟨I.k,I.f,I.a,?_⟩)));show Pd rk (Rz st) ((RO st).push (q0,n,0)).toList 0 (q0+n);rw[Og];exact kW.mpr ⟨q0,I.pd,rfl,hn,o,rfl⟩
theorem HE{Q:ForInStep LS->RD->Prop}(L:jK M A E s kd rk S)(hS:∀p∈a0.toList,S p)(hr:∀x,RA M A (rule x) (λ_ s'=>s'=s) E s)(I:Iv kd rk a0 q0 st)(hq:q0<=a0.size)(hn:1<=n)(o:iV rk (Rz st) q0 n)
  (h:∀ap,Iv kd rk a0 (q0+n) ap->Q (RQ (none,q0+n)) ap):wpS M A E s (tl a0.size q0 n) Q st:=by
 unfold tl;refine RB (TF ?_);generalize (RO st).back?=bk;rcases bk with _|⟨s1,n1,z⟩
 ·exact u9 I hn o h
 dsimp only;generalize power' a0.size (2*s1+n1) (2*s1+n1+n1+n) a0.size=w0;refine RB (Su (R6 (I:=λ_ c ap=>c=(none,())/\Iv kd rk a0 q0 ap/\∀j,q0<=j->(Rz ap)[j]?=(Rz st)[j]?) (Q:=λc ap=>c=(none,())/\Iv kd rk a0 q0 ap/\∀j,q0<=j->(Rz ap)[j]?=(Rz st)[j]?) ?_ (λ_ _ z=>z) ⟨rfl,I,λ_ _=>rfl⟩) ?_)
 ·rintro x c gl _ _ ⟨rfl,I1,e1⟩;refine yR L hS hr I1 hq λii d I2 e2=>?_;cases d
  ·exact⟨rfl,I2,λj hj=>(e2 j hj).trans (e1 j hj)⟩
  exact⟨rfl,I2,λj hj=>(e2 j hj).trans (e1 j hj)⟩
 rintro c gl ⟨rfl,I1,e1⟩;dsimp only;refine RB (Uu ?_);refine u9 ⟨I1.k,I1.f,I1.a,?_⟩ hn (λi j kw hj=>?_) h
 ·show Pd rk (Rz gl) ((RO gl).modify ((RO gl).size-1) λx=>(x.1,x.2.1,w0)).toList 0 q0;rw[Array.toList_modify];exact I1.pd.modify
 show R rk (Rz gl) (q0+i)<=R rk (Rz gl) (q0+j);rw[jX (rk:=rk) (e1 (q0+i) (by lia)),jX (rk:=rk) (e1 (q0+j) (by lia))];exact o i j kw hj
theorem Iv.within (I:Iv kd rk a0 q0 st)(W:Within st ap q0 n):Iv kd rk a0 q0 ap:=⟨W.kp.k.trans I.k,W.kp.f.trans I.f,W.kp.a.trans I.a,by rw[W.kp.p];exact I.pd.congr λi _ hi=>jX (W.out i (.inl hi))⟩
theorem xn{Q:ForInStep LS->RD->Prop}(L:jK M A E s kd rk S)(hS:∀p∈a0.toList,S p)(hr:∀x,RA M A (rule x) (λ_ s'=>s'=s) E s)(I:Iv kd rk a0 q0 st)(hq:q0<=a0.size)
  (h1:q0=a0.size->Q (RG (none,q0)) st) (h2:∀n ap,1<=n->q0+n<=a0.size->Iv kd rk a0 (q0+n) ap->Q (RQ (none,q0+n)) ap):wpS M A E s (oh a0.size q0) Q st:=by
 unfold oh;by_cases z:q0>=a0.size
 ·rw[if_pos z];exact RH (h1 (by lia))
 rw[if_neg z];have qz:=L' (QP z);have sz:=I.a.size_eq;refine RB (ye L I.k (I.all hS) (by lia) (by lia) hr λn gl g1 g2 W1 o1=>?_);dsimp only;have I1:=I.within W1;by_cases w:n<Wm a0.size a0.size 0
 ·rw[if_pos w];generalize Wm a0.size a0.size 0=mr at w ⊢;refine RB (Vi (RZ (hr _) (λ_ _ z=>⟨z,?_⟩) λ_ _ z=>z));have sz1:=I1.a.size_eq;have f1:n<=min (a0.size-q0) mr:=Nat.le_min.mpr ⟨g2,L' w⟩;have f4:q0+min (a0.size-q0) mr<=a0.size:=p_ (Oz (Nat.min_le_left ..) q0) (Ng (OB qz));have f5:=p_ g1 f1;generalize min (a0.size-q0) mr=fr at f1 f4 f5 ⊢;refine RB (F6 L I1.k (I1.all hS) (by rw[sz1];exact f4) f1 o1 λii W2 o2=>?_);rw[if_neg (by simp)];exact HE L hS hr (I1.within W2) hq f5 o2 λio I3=>h2 _ io f5 f4 I3
 rw[if_neg w];exact HE L hS hr I1 hq g1 o1 λio I3=>h2 _ io g1 (by lia) I3
theorem Gv{ps:Array (Nat×Nat×Nat)}(h:1<ps.size):pick ps+1<ps.size:=by
 unfold pick;generalize Rj (λx=>decide (x<ps[ps.size-2+1]?.elim 0 λy=>y.2.1)) (if ps.size-2 > 0 then QX (λy=>y.2.1) ps[ps.size-2-1]? else none)=b;cases b
 ·rw[if_neg (by simp)];lia
 rw[if_pos rfl];lia
theorem xa{Q:Unit->RD->Prop}(L:jK M A E s kd rk S)(hS:∀p∈(Rz st).toList,S p)(hr:∀x,RA M A (rule x) (λ_ s'=>s'=s) E s)(hk:kindOf st=kd)(hf:R8 st=none)(hp:RO st=#[])
  (h:∀ap,(Rz ap).Perm (Rz st)->R8 ap=none->Srt rk (Rz ap).toList->Q () ap):wpS M A E s sortRuns' Q st:=by
 rw[Lr];refine RB (TF ?_);have I0:Iv kd rk (Rz st) 0 st:=⟨hk,hf,Qd _,by rw[hp];exact rfl⟩;revert I0 hS h;generalize Rz st=a0;intro hS h I0;refine RB (Su (R6 (I:=λx c ap=>∃q0,c=(none,q0)/\x<=q0/\q0<=a0.size/\Iv kd rk a0 q0 ap) (Q:=λc ap=>c=(none,a0.size)/\Iv kd rk a0 a0.size ap) ?_ ?_ ⟨0,rfl,b_ _,A_ _,I0⟩) ?_)
 ·rintro x c gl _ _ ⟨q0,rfl,g1,g2,I⟩;exact xn L hS hr I g2 (λe=>by subst e;exact⟨rfl,I⟩) λn ii k1 k2 I2=>⟨q0+n,rfl,by lia,k2,I2⟩
 ·rintro c gl ⟨q0,rfl,g1,g2,I⟩;have e:q0=a0.size:=by lia
  subst e;exact⟨rfl,I⟩
 rintro c gl ⟨rfl,I1⟩;dsimp only;refine RB (Su (R6 (I:=λx c ap=>c=(none,())/\Iv kd rk a0 a0.size ap/\((RO ap).size<=1\/(RO ap).size+x<=a0.size)) (Q:=λc ap=>c=(none,())/\Iv kd rk a0 a0.size ap/\(RO ap).size<=1) ?_ ?_ ⟨rfl,I1,.inr ?_⟩) ?_)
 ·rintro x c ii _ _ ⟨rfl,I2,g⟩;unfold AR;refine RB (TF ?_);by_cases z:(RO ii).size<=1
  ·rw[if_pos z];exact RH ⟨rfl,I2,z⟩
  rw[if_neg z];refine RB (ym L hS hr I2 (b_ _) (Gv (by lia)) λio I3 e _=>?_);rw[if_neg (by simp)];exact RH ⟨rfl,I3,.inr (by lia)⟩
 ·rintro c ii ⟨rfl,I2,g⟩;exact⟨rfl,I2,by lia⟩
 ·have:=I1.pd.le;rw[h_]at this;lia
 rintro c ii ⟨rfl,I2,g⟩;refine RH (h ii I2.a I2.f ?_);have P:=I2.pd;have sz:=I2.a.size_eq;have lp:(RO ii).toList.length<=1:=by rw[h_];exact g
 have o:iV rk (Rz ii) 0 a0.size:=by
  generalize (RO ii).toList=l at P lp
  match l,P,lp with
  | [],P,_=>
   have e:0=a0.size:=P;intro i j _ hj;lia
  | [(c,n,_)],P,_=>
   obtain⟨e1,_,o,e2⟩:=P;have e2:0+n=a0.size:=e2;subst e1;rw[<-e2,Ol];exact o
  | _::_::_,_,lp=>simp at lp
 have:=mO o;rw[NH,MQ (by rw[h_];lia)]at this;exact this
end
section
variable{κ:Type}{lt:κ->κ->Bool}
noncomputable def rnk(lt:κ->κ->Bool)(ks:List κ)(k:κ):Nat:=ks.countP λy=>lt y k
theorem count_le{p q:κ->Bool}:∀{l:List κ},(∀x∈l,p x=true->q x=true)->l.countP p<=l.countP q
 | [],_=>b_ _
 |x::t,h=>by
  have ih:=count_le (l:=t) λy hy=>h y (.tail _ hy);have hx:=h x (.head _);rw[OZ,OZ];cases e:p x
  ·rw[if_neg (by simp)];lia
  rw[hx e,if_pos rfl];lia
theorem xc{p q:κ->Bool}:∀{l:List κ}{z:κ},(∀x∈l,p x=true->q x=true)->z∈l->p z=false->q z=true->l.countP p<l.countP q
 |x::t,z,h,hz,h1,h2=>by
  have ih:=count_le (l:=t) λy hy=>h y (.tail _ hy);have hx:=h x (.head _);rw[OZ,OZ];rcases n_.mp hz with e|e
  ·subst e;rw[h1,h2,if_neg (by simp),if_pos rfl];lia
  have:=xc (l:=t) (λy hy=>h y (.tail _ hy)) e h1 h2;cases e:p x
  ·rw[if_neg (by simp)];lia
  rw[hx e,if_pos rfl];lia
structure Tot (lt:κ->κ->Bool):Prop where
 irr:∀a,lt a a=false
 tr:∀a b c,lt a b=true->lt b c=true->lt a c=true
 tot:∀a b,lt a b=false->lt b a=false->a=b
theorem Ih(T:Tot lt){ks:List κ}{a b:κ}(h:lt b a=false):rnk lt ks a<=rnk lt ks b:=by
 refine count_le λy _ hy=>?_;cases e:lt a b
 ·rw[<-T.tot a b e h];exact hy
 exact T.tr _ _ _ hy e
theorem zr(T:Tot lt){ks:List κ}{a b:κ}(ha:a∈ks)(h:lt a b=true):rnk lt ks a<rnk lt ks b:=xc (λy _ hy=>T.tr _ _ _ hy h) ha (T.irr a) h
theorem Ax(T:Tot lt){ks:List κ}{a b:κ}(ha:a∈ks):decide (rnk lt ks a<rnk lt ks b)=lt a b:=by
 cases e:lt a b
 ·exact decide_eq_false (QY.mpr (Ih T e))
 exact decide_eq_true (zr T ha e)
end
noncomputable def ltL:List Int->List Int->Bool
 | _,[]=>false
 | [],_::_=>true
 |a::x,b::y=>if a=b then ltL x y else decide (a<b)
theorem vJ:∀x,ltL x x=false
 | []=>rfl
 |a::x=>by rw[ltL,if_pos rfl];exact vJ x
theorem DR:∀a b c,ltL a b=true->ltL b c=true->ltL a c=true
 | _,[],_,h,_=>by simp[ltL]at h
 | _,_::_,[],_,h=>by simp[ltL]at h
 | [],_::_,_::_,_,_=>rfl
 |a::x,b::y,c::z,h,g=>by
  rw[ltL]at h g ⊢;by_cases e1:a=b
  ·subst e1;rw[if_pos rfl]at h;by_cases e2:a=c
   ·subst e2;rw[if_pos rfl]at g ⊢;exact DR x y z h g
   rw[if_neg e2]at g ⊢;exact g
  rw[if_neg e1]at h;have h:=of_decide_eq_true h;by_cases e2:b=c
  ·subst e2;rw[if_neg e1];exact decide_eq_true h
  rw[if_neg e2]at g;have g:=of_decide_eq_true g;rw[if_neg (by lia)];exact decide_eq_true (by lia)
theorem AX:∀a b,ltL a b=false->ltL b a=false->a=b
 | [],[],_,_=>rfl
 | [],_::_,h,_=>by simp[ltL]at h
 | _::_,[],_,h=>by simp[ltL]at h
 |a::x,b::y,h,g=>by
  rw[ltL]at h g;by_cases e:a=b
  ·subst e;rw[if_pos rfl]at h g;rw[AX x y h g]
  rw[if_neg e]at h;rw[if_neg (λz=>e z.symm)]at g;have h:=of_decide_eq_false h;have g:=of_decide_eq_false g;lia
theorem vy:Tot ltL:=⟨vJ,DR,AX⟩
noncomputable def qJ:Rq->Int
 | .int i _=>i
 | _=>0
def oV(h:RM):Rq->List Int
 | .ref a=>match h.get? a with
  |some o=>match o.data with
   | .seq xs _=>xs.toList.map qJ
   | _=>[]
  |none=>[]
 | _=>[]
noncomputable def AllInt(l:List Rq):Prop:=∀v∈l,∃i t,v=.int i t
def FJ(h:RM)(v:Rq):Prop:=∃a o xs n,v=.ref a/\h.get? a=some o/\o.cls=.type "tuple"/\o.data=.seq xs n/\AllInt xs.toList/\0<xs.size
theorem rb{h:RM}{a:Rt}{o:Obj}{xs:Array Rq}(e:h.get? a=some o)(d:o.data=.seq xs n):oV h (.ref a)=xs.toList.map qJ:=by unfold oV;dsimp only;rw[e];dsimp only;rw[d]
variable {S:Ry->Prop}{rk:Ry->Nat}{vs:List Rq}
section
variable{prog:RC}{w:RK}{A:RS}{E:Rq->Ru->Prop}{s:Ru}
theorem Aj{Q:Bool->Ru->Prop}{fin:Bool}:∀(xs ys:List Rq) (i:Nat),AllInt xs->AllInt ys->fin=decide (xs.length<ys.length)->Q (ltL (xs.map qJ) (ys.map qJ)) s->PySem.W.KatLex prog w A true fin Q (xs.zip ys) i s
 | [],[],i,_,_,e,q=>by subst e;exact Uv q
 | [],b::y,i,_,_,e,q=>by subst e;exact Uv q
 |a::x,[],i,_,_,e,q=>by subst e;exact Uv q
 |a::x,b::y,i,ha,hb,e,q=>by
  obtain⟨n,t,rfl⟩:=ha a (.head _);obtain⟨m,u,rfl⟩:=hb b (.head _);rw[e_,e_,ltL]at q;refine Vj (Ua ?_);by_cases z:n=m
  ·have q:Q (ltL (x.map qJ) (y.map qJ)) s:=by rw[if_pos (show qJ (.int n t)=qJ (.int m u)from z)]at q;exact q
   rw[show(n == m)=true by simpa using z];refine Vw (Aj x y (i+1) (λv hv=>ha v (.tail _ hv)) (λv hv=>hb v (.tail _ hv)) ?_ q);rw[e,j_,j_];exact decide_eq_decide.mpr (by lia)
  have q:Q (decide (n<m)) s:=by rw[if_neg (show ¬qJ (.int n t)=qJ (.int m u)from z)]at q;exact q
  rw[show(n == m)=false by simpa using z];refine VN ?_;cases (true&&i == 0)
  ·exact W7 _ _ (lt_int q)
  exact oneLt_int q
theorem D5{h0:RM}{ks:List (List Int)}(hS:∀x,S x->FJ h0 x.1/\oV h0 x.1∈ks)(hk:∀b o,h0.get? b=some o->(∃x n,o.cls=.type "tuple"/\o.data=.seq x n)->s.heap.get? b=some o) :
  jK (RJ prog w) A E s (Wn true) (λx=>rnk ltL ks (oV h0 x.1)) S:=by
 intro x y st Q sx sy kd q;obtain⟨⟨a,oa,xs,na,ea,ga,ca,da,ia,_⟩,ma⟩:=hS x sx;obtain⟨⟨b,ob,ys,nb,eb,gb,cb,db,ib,_⟩,mb⟩:=hS y sy;rw[lt'_eq];refine RB (TF ?_);rw[kd,ea,eb];refine RB (Vi (S6 (Xl (hk _ _ ga ⟨_,_,ca,da⟩) da (hk _ _ gb ⟨_,_,cb,db⟩) db (Aj _ _ 0 ia ib (by rw[h_,h_]) ⟨rfl,?_⟩))));refine RH ?_;dsimp only at q;rw[Ax vy ma,ea,eb,rb ga da,rb gb db]at q;exact q
theorem EI{M:Tp}{h0:RM}{Q:SQ->Ru->Prop}(hv:∀v∈vs,FJ h0 v)(hk:∀b o,h0.get? b=some o->(∃x n,o.cls=.type "tuple"/\o.data=.seq x n)->s.heap.get? b=some o)(jp:vs≠[])(q:Q (Wn true) s):RA M A (XO vs.toArray) Q E s:=by
 have mk:∀(l:List Rq),(∀v∈l,FJ h0 v)->∃fs,W8 s.heap l fs/\AllInt fs/\fs.length=l.length:=by
  intro l;induction l with
  |nil=>exact λ_=>⟨[],Wa,λv hv=>(nomatch hv),rfl⟩
  |cons v r ih=>
   intro hl;obtain⟨fs,k1,k2,k3⟩:=ih λv hv=>hl v (.tail _ hv);obtain⟨a,o,xs,n,rfl,g,c,d,i,z⟩:=hl v (.head _);obtain⟨f,hf⟩:∃f,xs[0]?=some f:=⟨_,v_ z⟩;refine⟨f::fs,V3 (hk _ _ g ⟨_,_,c,d⟩) c d hf k1,λv hv=>?_,by rw[j_,j_,k3]⟩;rcases n_.mp hv with e|e
   ·subst e;rw[<-i_]at hf;exact i _ (B' hf)
   exact k2 v e
 obtain⟨fs,k1,k2,k3⟩:=mk vs hv;refine WR (T:=.type "int") k1 ?_ (λv hv=>?_) rfl q
 ·rw[k3];exact N2.mpr jp
 obtain⟨i,t,rfl⟩:=k2 v hv;exact .now
theorem rY(vs:List Rq):(vs.toArray.zip vs.toArray).toList=vs.map λv=>(v,v):=by
 rw[Array.toList_zip];induction vs with
 |nil=>rfl
 |cons v r ih=>exact congrArg ((v,v)::·) ih
theorem Bq{a:Rt}{kd:SQ}{P:PySem.Fin->Ru->Prop}(ho:s.heap.get? a=some (Sx "list" vs.toArray n))(hz:vs.length<=sizeLine)(hS:∀v∈vs,S (v,v))
  (kind:∀h',(∀b o,b≠a->s.heap.get? b=some o->h'.get? b=some o)->∀{Q:SQ->Ru->Prop},vs≠[]->Q kd {s with heap:=h'}->RA (RJ prog w) A (XO vs.toArray) Q E {s with heap:=h'})
  (lt:∀h',(∀b o,b≠a->s.heap.get? b=some o->h'.get? b=some o)->jK (RJ prog w) A E {s with heap:=h'} kd rk S)
  (h:∀(o:List Rq) c h',o.Perm vs->o.Pairwise (λx y=>rk (x,x)<=rk (y,y))->(∀b u,b≠a->s.heap.get? b=some u->h'.get? b=some u)->h'.get? a=some (Sx "list" o.toArray c)->P (.done (.ret .none)) {s with heap:=h'}) :
  RA (RJ prog w) A (S4.«list.sort» ⟨[.ref a],[]⟩) P E s:=by
 rw[list_sort_plain];have ha:a<s.heap.objs.size:=RE ho;refine Ro (listItems_at ho rfl ?_);refine Ro (Xx ho rfl ?_ (by rw[g_];exact hz) (A_ _));obtain⟨e1,ho1⟩:∃e1,(s.heap.update a (R3 λ_=>(#[]:Array Rq))).get? a=some (Sx "list" #[] e1):=⟨_,W9 ho λ_=>#[]⟩;refine Ro (X5 ho1 rfl ?_);refine Ro (Xf ?_ hz);refine Ro (U0 ?_ (A_ _));refine R1 ?_;have k2:∀b u,(s.heap.update a (R3 λ_=>(#[]:Array Rq))).get? b=some u->(((s.heap.update a (R3 λ_=>(#[]:Array Rq))).push (Sx "tuple" vs.toArray 0)).push (Sx "list" #[] 0)).get? b=some u:=λb u e=>Rx _ (Rx _ e);have k3:∀b u,b≠a->s.heap.get? b=some u->(((s.heap.update a (R3 λ_=>(#[]:Array Rq))).push (Sx "tuple" vs.toArray 0)).push (Sx "list" #[] 0)).get? b=some u:=λb u hb e=>k2 b u (by rw[TH _ _ _ _ hb];exact e)
 have ho6:=k2 _ _ ho1;show RA (RJ prog w) A _ P E {s with heap:=((s.heap.update a (R3 λ_=>(#[]:Array Rq))).push (Sx "tuple" vs.toArray 0)).push (Sx "list" #[] 0) };generalize ((s.heap.update a (R3 λ_=>(#[]:Array Rq))).push (Sx "tuple" vs.toArray 0)).push (Sx "list" #[] 0)=h1 at k3 ho6 ⊢;dsimp only;have fin:∀ap:RD,(Rz ap).Perm (vs.toArray.zip vs.toArray)->Srt rk (Rz ap).toList->R8 ap=none->RA (RJ prog w) A (do
   let touched:=(<-seqEpoch a) != e1
   XT (.ref a) λ_=>(Rz ap).map (·.2)
   if let some e:=R8 ap then rule "list.sort.comparison-raised";throw e
   if touched then rule "list.sort.modified";raiseError "ValueError" "list modified during sort"
   ret .none) P E {s with heap:=h1}:=λap hp hs hf=>by
  have lp:(Rz ap).toList.Perm (vs.map λv=>(v,v)):=by have:=NO.mp hp;rw[rY]at this;exact this
  have op:((Rz ap).toList.map (·.2)).Perm vs:=by have:=lp.map (·.2);rw[z_,show((λx:Ry=>x.2) ∘ λv:Rq=>(v,v))=id from rfl,QM]at this;exact this
  have tw:∀p∈(Rz ap).toList,p=(p.2,p.2):=λp hp=>by obtain⟨v,_,e⟩:=o_.mp (lp.mem_iff.mp hp);rw[<-e]
  have osr:((Rz ap).toList.map (·.2)).Pairwise (λx y=>rk (x,x)<=rk (y,y)):=by rw[Nc];refine OI (λ{p q} hp hq hr=>?_) hs;rw[<-tw p hp,<-tw q hq];exact hr
  have os:((Rz ap).map (·.2)).size<=sizeLine+1:=by rw[<-h_,QQ,op.length_eq];lia
  refine Ro (X5 ho6 rfl ?_);refine Ro (Xx ho6 rfl ?_ (A_ _) os);rw[hf];simp only[bne_self_eq_false,C',if_false];obtain⟨c,hc⟩:∃c,(h1.update a (R3 λ_=>(Rz ap).map (·.2))).get? a=some (Sx "list" ((Rz ap).toList.map (·.2)).toArray c):=by have:=W9 ho6 λ_=>(Rz ap).map (·.2);rw[show((Rz ap).toList.map (·.2)).toArray=(Rz ap).map (·.2) by rw[<-QQ]];exact⟨_,this⟩
  refine Rv (h _ c _ op osr (λb u hb e=>?_) hc);rw[TH _ _ _ _ hb];exact k3 b u hb e
 by_cases h2:vs.toArray.size<2
 ·rw[if_pos h2,if_pos h2];refine Ro (Rv ?_);rw[StateT.run_pure];refine Ro (Rv ?_);refine fin (S9 general' (vs.toArray.zip vs.toArray) #[] 7 none) (Qd _) ?_ rfl;show Srt rk (vs.toArray.zip vs.toArray).toList;rw[rY];have h3:vs.length<2:=h2;clear fin h lt kind hS ho
  match vs,h3 with
  | [],_=>exact .nil
  | [v],_=>exact OP _ _
  | _::_::_,h3=>exact absurd h3 (by rw[j_,j_];lia)
 rw[if_neg h2,if_neg h2];refine Ro (kind h1 k3 (λz=>by rw[z]at h2;simp at h2) ?_);refine Ro (RZ (xa (st:=S9 kd (vs.toArray.zip vs.toArray) #[] 7 none) (Q:=λ_ ap=>(Rz ap).Perm (vs.toArray.zip vs.toArray)/\R8 ap=none/\Srt rk (Rz ap).toList) (lt h1 k3) (λp hp=>?_) (λx=>S7 rfl) rfl rfl rfl λap a1 a2 a3=>⟨a1,a2,a3⟩) ?_ λ_ _ e=>e)
 ·rw[show(Rz (S9 kd (vs.toArray.zip vs.toArray) #[] 7 none))=vs.toArray.zip vs.toArray from rfl,rY]at hp;obtain⟨v,hv,e⟩:=o_.mp hp;rw[<-e];exact hS v hv
 rintro⟨⟨⟩,ap⟩ s' ⟨rfl,hp,hf,hs⟩;exact fin ap hp hs hf
theorem su{l:Rt}{kd:SQ}{Q:Rq->Ru->Prop}(hl:s.heap.IsList l vs.toArray)(hz:vs.length<=sizeLine)(hS:∀v∈vs,S (v,v))
  (kind:∀h',(∀b o,s.heap.get? b=some o->h'.get? b=some o)->∀{Q:SQ->Ru->Prop}{E:Rq->Ru->Prop},vs≠[]->Q kd {s with heap:=h'}->RA (RJ prog w) A.in1.in1 (XO vs.toArray) Q E {s with heap:=h'})
  (lt:∀h' E,(∀b o,s.heap.get? b=some o->h'.get? b=some o)->jK (RJ prog w) A.in1.in1 E {s with heap:=h'} kd rk S)
  (h:∀(o:List Rq) a c h',o.Perm vs->o.Pairwise (λx y=>rk (x,x)<=rk (y,y))->s.heap.objs.size<=a->(∀b u,s.heap.get? b=some u->h'.get? b=some u)->h'.get? a=some (Sx "list" o.toArray c)->Q (.ref a) {s with heap:=h'}) :
  RA (RJ prog w) A (call (.builtin "sorted") [.ref l]) Q E s:=by
 refine U7 kind_sorted plain_sorted entry_sorted (args_sorted1 _) ?_;unfold S4.«sorted»;refine Ro (m:=checkCount "sorted" 1 1 _) (Rv ?_);refine Ro (collect_list hl ?_ hz);refine Ro (U0 ?_ hz);have hsz:((s.heap.push (Sx "list" #[] 0)).update s.heap.objs.size (R3 (·++vs.toArray))).objs.size=s.heap.objs.size+1:=by rw[Heap.size_update,size_push']
 have hoL:(((s.heap.push (Sx "list" #[] 0)).update s.heap.objs.size (R3 (·++vs.toArray))).push (Sx "list" vs.toArray 0)).get? (s.heap.objs.size+1)=some (Sx "list" vs.toArray 0):=by rw[<-hsz];exact RF _ rfl
 have keep:∀b o,s.heap.get? b=some o->(((s.heap.push (Sx "list" #[] 0)).update s.heap.objs.size (R3 (·++vs.toArray))).push (Sx "list" vs.toArray 0)).get? b=some o:=λb o q=>by have li:b<s.heap.objs.size:=RE q;rw[Wx _ _ _ (by rw[hsz];exact s_ (PH li)),TH _ _ _ _ (s_ li),Wx _ _ _ (s_ li)];exact q
 show RA _ _ _ _ _ {s with heap:=((s.heap.push (Sx "list" #[] 0)).update s.heap.objs.size (R3 (·++vs.toArray))).push (Sx "list" vs.toArray 0) };rw[hsz];generalize ((s.heap.push (Sx "list" #[] 0)).update s.heap.objs.size (R3 (·++vs.toArray))).push (Sx "list" vs.toArray 0)=h1 at hoL keep ⊢;have ne:∀b o,s.heap.get? b=some o->b≠s.heap.objs.size+1:=λb o e=>s_ (PH (RE e));refine Ro (R1 (Sm slot_list_sort ⟨_,hoL,rfl⟩ entry_list_sort ?body (args_list_sort _)))
 case body=>
  refine Bq (s:={s with heap:=h1}) (kd:=kd) (rk:=rk) (S:=S) hoL hz hS (λh' k {Q} jp q=>kind h' (λb o e=>k b o (ne b o e) (keep b o e)) jp q) (λh' k=>lt h' _ λb o e=>k b o (ne b o e) (keep b o e)) λo c h' g1 g2 g3 g4=>?_;exact⟨_,rfl,Rv ⟨_,rfl,h o _ c h' g1 g2 (QL _) (λb u e=>g3 b u (ne b u e) (keep b u e)) g4⟩⟩
end
end ZS
namespace L2
open PySem PySem.Spec PyProof.Rows
mutual
noncomputable def toPy:Dt->PyData
 | .int i=>.int i
 | .bl b=>.bool b
 | .str x=>.str x
 | .non=>.none
 | .lst ds=>.list (iY ds)
 | .tup ds=>.tuple (iY ds)
noncomputable def iY:List Dt->List PyData
 | []=>[]
 |d::r=>toPy d::iY r
end
mutual
noncomputable def shD:Dt->Bool
 | .int i=>decide (i.natAbs<10 ^ 12)
 | .str x=>x.cps.toList.all λc=>decide (c<16 ^ 8)
 | .bl _=>true
 | .non=>true
 | .lst ds=>shL ds
 | .tup ds=>shL ds
noncomputable def shL:List Dt->Bool
 | []=>true
 |d::r=>shD d&&shL r
end
mutual
theorem qC:∀d:Dt,shD d=true->(toPy d).showable=true
 | .int i,h=>by
  have h:i.natAbs<10 ^ 12:=by simpa[shD]using h
  rw[toPy,Tn.eq_def];refine decide_eq_true ?_;by_cases z:i.natAbs=0
  ·rw[z];decide
  ·exact(Nat.log2_lt z).mpr (u_ (O2 h (by decide:10 ^ 12<2 ^ 40)) (Nat.pow_le_pow_right (by decide) (by decide)))
 | .str _,_=>by rw[toPy,Tn.eq_def]
 | .bl b,_=>by rw[toPy,Tn.eq_def]
 | .non,_=>by rw[toPy,Tn.eq_def]
 | .lst ds,h=>by rw[shD]at h;rw[toPy,Tn.eq_def];exact lL ds h
 | .tup ds,h=>by rw[shD]at h;rw[toPy,Tn.eq_def];exact lL ds h
theorem lL:∀ds:List Dt,shL ds=true->UP (iY ds)=true
 | [],_=>by rw[iY,UP.eq_def]
 |d::r,h=>by
  rw[shL,J']at h;rw[iY,UP.eq_def];show(_&&_)=true;rw[qC d h.1,lL r h.2]
  rfl
end
mutual
theorem xV:∀d:Dt,shD d=true->SJ 13 (toPy d)=true
 | .int i,h=>by
  have h:i.natAbs<10 ^ 12:=by simpa[shD]using h
  rw[toPy,SJ.eq_def];exact decide_eq_true (PyData.shown_int_le h)
 | .str _,h=>by rw[shD]at h;rw[toPy,SJ.eq_def];exact h
 | .bl b,_=>by rw[toPy,SJ.eq_def]
 | .non,_=>by rw[toPy,SJ.eq_def]
 | .lst ds,h=>by rw[shD]at h;rw[toPy,SJ.eq_def];exact qh ds h
 | .tup ds,h=>by rw[shD]at h;rw[toPy,SJ.eq_def];exact qh ds h
theorem qh:∀ds:List Dt,shL ds=true->Uh 13 (iY ds)=true
 | [],_=>by rw[iY,Uh.eq_def]
 |d::r,h=>by
  rw[shL,J']at h;rw[iY,Uh.eq_def];show(_&&_)=true;rw[xV d h.1,qh r h.2]
  rfl
end
mutual
theorem uO:∀d:Dt,(toPy d).hasDict=false
 | .int i=>by rw[toPy,Tr.eq_def]
 | .str _=>by rw[toPy,Tr.eq_def]
 | .bl b=>by rw[toPy,Tr.eq_def]
 | .non=>by rw[toPy,Tr.eq_def]
 | .lst ds=>by rw[toPy,Tr.eq_def];exact nN ds
 | .tup ds=>by rw[toPy,Tr.eq_def];exact nN ds
theorem nN:∀ds:List Dt,U4 (iY ds)=false
 | []=>by rw[iY,U4.eq_def]
 |d::r=>by
  rw[iY,U4.eq_def];show(_ || _)=false;rw[uO d,nN r]
  rfl
end
mutual
theorem xg:∀d:Dt,(toPy d).depth<=dpt d
 | .int i=>by rw[toPy,T1.eq_def];exact A_ _
 | .str _=>by rw[toPy,T1.eq_def];exact A_ _
 | .bl b=>by rw[toPy,T1.eq_def];exact A_ _
 | .non=>by rw[toPy,T1.eq_def];exact A_ _
 | .lst ds=>by rw[toPy,T1.eq_def,dpt];exact Qs (qo ds) 1
 | .tup ds=>by rw[toPy,T1.eq_def,dpt];exact Qs (qo ds) 1
theorem qo:∀ds:List Dt,Vx (iY ds)<=wH ds
 | []=>by rw[iY,Vx.eq_def];exact A_ _
 |d::r=>by rw[iY,Vx.eq_def,wH];have h1:=xg d;have h2:=qo r;show max _ _<=_;omega
end
section
variable{X:Cx}
mutual
theorem xm{ad:List (Rt×Obj)}{σ:St}{H:Hp}{s:Ru}(I:Inv X ad σ H s):∀(d:Dt) {x:V}{u:Rq},Has X.K H d x->RelV x u->∃as,Reads s.heap u (toPy d) as
 | .int i,x,u,h,r=>by rw[Has]at h;subst h;obtain⟨t,rfl⟩:=r;rw[toPy];exact⟨[],.int i t⟩
 | .bl b,x,u,h,r=>by rw[Has]at h;subst h;have e:u=VR b:=r;subst e;rw[toPy];exact⟨[],.bool b⟩
 | .str z,x,u,h,r=>by rw[Has]at h;subst h;obtain⟨t,rfl⟩:=r;rw[toPy];exact⟨[],.str z t⟩
 | .non,x,u,h,r=>by rw[Has]at h;subst h;have e:u=R4:=r;subst e;rw[toPy];exact⟨[],.none⟩
 | .lst ds,x,u,h,r=>by rw[Has]at h;obtain⟨a,xs,rfl,hs,hl⟩:=h;have e:u=RV a:=r;subst e;obtain⟨be,rv,⟨o,n,e,c1,c2,c3⟩,_⟩:=I.list hs;obtain⟨as,ha⟩:=pK I ds hl rv;rw[toPy];exact⟨_,.list e (by assumption) (by assumption) (by simpa using ha)⟩
 | .tup ds,x,u,h,r=>by rw[Has]at h;obtain⟨a,xs,rfl,hs,hl⟩:=h;have e:u=RV a:=r;subst e;obtain⟨be,rv,⟨o,e,c1,n,c2⟩,_⟩:=I.tuple hs;obtain⟨as,ha⟩:=pK I ds hl rv;rw[toPy];exact⟨_,.tuple e (by assumption) (by assumption) (by simpa using ha)⟩
theorem pK{ad:List (Rt×Obj)}{σ:St}{H:Hp}{s:Ru}(I:Inv X ad σ H s):∀(ds:List Dt) {xs:List V}{us:List Rq},qc X.K H ds xs->Vals xs us->∃as,ReadsAll s.heap us (iY ds) as
 | [],xs,us,h,r=>by rw[qc]at h;subst h;cases r;rw[iY];exact⟨[],.nil⟩
 |d::ds,xs,us,h,r=>by
  rw[qc]at h;obtain⟨x,t,rfl,h1,h2⟩:=h;cases r with
  |cons r1 r2=>
   obtain⟨a1,q1⟩:=xm I d h1 r1;obtain⟨a2,q2⟩:=pK I ds h2 r2;rw[iY];exact⟨_,.cons q1 q2⟩
end
theorem tQ(hg:X.A.guards=some []):dJ X (.type "str") (λxs H Q=>∃a d,xs=[.ref a]/\Has X.K H d (.ref a)/\shD d=true/\X.A.units+(dpt d+3)<cLine/\(toPy d).bulk<=2 ^ 20/\Q (.str (toPy d).shown) H):=by intro ad s σ H xs us Q I r h;obtain⟨a,d,rfl,hd,hs,hu,hb,q⟩:=h;obtain⟨u,rfl,ru⟩:=vals1 r;cases ru;obtain⟨as,ha⟩:=xm I d hd rfl;have:=xg d;refine str_of_reads ha (qC d hs) (λz=>by rw[uO]at z;cases z) hg (by omega) (λb o e=>e) (λh' u tk kp=>?_) (PyData.shown_fits_bulk (B:=13) (by decide) (by decide) (xV d hs) hb);exact⟨.str _,H,I.kept (t':=tk) kp,⟨u,rfl⟩,q⟩
end
variable {us:List Rq}{xs:List V}
section
variable{X:Cx}
theorem C0(h:Vals xs us):∀n,Vals (xs.take n) (us.take n):=by
 induction h with
 |nil=>intro n;rw[Qv,Qv];exact .nil
 |cons r _ ih=>
  intro n;cases n with
  |zero=>exact .nil
  |succ n=>exact .cons r (ih n)
theorem BZ(h:Vals xs us):∀n,Vals (xs.drop n) (us.drop n):=by
 induction h with
 |nil=>intro n;rw[Q_,Q_];exact .nil
 |cons r t ih=>
  intro n;cases n with
  |zero=>exact .cons r t
  |succ n=>exact ih n
theorem Dl{a:List V}{b:List Rq}{c:List V}{d:List Rq}(p:Vals a b)(q:Vals c d):Vals (a++c) (b++d):=by
 induction p with
 |nil=>exact q
 |cons r _ ih=>exact .cons r ih
theorem yV:MtM X "list.insert" (λx vs H Q=>∃l xs i y,x=.ref l/\vs=[.int i,y]/\H l=some (.lst xs)/\0<=i/\i<=(xs.length:Int)/\xs.length<2 ^ 20/\∀H',Put H l (.lst (xs.take i.toNat++y::xs.drop i.toNat)) H'->Q .non H'):=by
 intro ad s σ H x vs v us Q I rx rv h;obtain⟨l,xs,i,y,rfl,rfl,hH,h0,h1,hz,q⟩:=h;cases rx;cases rv with
 |cons r1 rr=>
  cases rr with
  |cons r2 rr=>
   cases rr;obtain⟨t,rfl⟩:=r1;rename_i uy;obtain⟨z,be,n,r,hl,e⟩:=I.EG hH;have hlen:=r.length;refine VX F.slot_list_insert ⟨_,e,rfl⟩ F.entry_list_insert (F.args_list_insert_3 _ _ _) (Wo l be.toArray n i t uy ?_ (by rw[g_];lia)) ⟨e,?_⟩
   ·unfold Xy;simp;lia
   refine⟨.non,_,I.Fb (its':=be.take i.toNat++uy::be.drop i.toNat) hH e ?_ (Dl (C0 r _) (.cons r2 (BZ r _))) ?_,rfl,q _ Put.up⟩
   ·have ek:(if i<0 then(i+(be.toArray.size:Int)).toNat else min i.toNat be.toArray.size)=i.toNat:=by rw[if_neg (by lia),g_];lia
    show((be.toArray.extract 0 (if i<0 then(i+(be.toArray.size:Int)).toNat else min i.toNat be.toArray.size)).push uy++be.toArray.extract (if i<0 then(i+(be.toArray.size:Int)).toNat else min i.toNat be.toArray.size))=_;rw[ek];apply Array.ext';simp[Ny,MQ]
   rw[f',j_,y_,F'];show _<=2 ^ 24;lia
end
end L2
namespace PL
open PySem L2
inductive T where
 |any|hole (w:V)|bare|kp (G:Hp)
 |non|bl (b:Bool)|int (i:Int)|str (x:Str)|ty (n:String)
 |tup (ts:List T)|cst (ts:List T)
 |lst (o:Bool) (ts:List T)
 |dK (o:Bool) (am:List (Key×T))
 |dT (o:Bool) (am:List (List Key×T))
mutual
noncomputable def er:T->T
 | .tup ts=>.tup (erL ts)
 | .cst ts=>.cst (erL ts)
 | .lst _ ts=>.lst false (erL ts)
 | .dK _ am=>.dK false (erK am)
 | .dT _ am=>.dT false (erT am)
 | .bare=>.any
 |t=>t
noncomputable def erL:List T->List T
 | []=>[]
 |t::r=>er t::erL r
noncomputable def erK:List (Key×T)->List (Key×T)
 | []=>[]
 | (k,t)::r=>(k,er t)::erK r
noncomputable def erT:List (List Key×T)->List (List Key×T)
 | []=>[]
 | (k,t)::r=>(k,er t)::erT r
end
mutual
noncomputable def aT:T->Bool
 | .tup ts=>bB ts
 | .cst ts=>bB ts
 | .lst o ts=>!o&&bB ts
 | .dK o am=>!o&&vn am
 | .dT o am=>!o&&pG am
 | .bare=>false
 | _=>true
noncomputable def bB:List T->Bool
 | []=>true
 |t::r=>aT t&&bB r
noncomputable def vn:List (Key×T)->Bool
 | []=>true
 | (_,t)::r=>aT t&&vn r
noncomputable def pG:List (List Key×T)->Bool
 | []=>true
 | (_,t)::r=>aT t&&pG r
end
mutual
noncomputable def dO:T->Bool
 | .tup ts=>dN ts
 | .cst ts=>dN ts
 | .lst o ts=>o&&dN ts
 | .dK o am=>o&&rX am
 | .dT o am=>o&&qv am
 | .kp _=>false
 | _=>true
noncomputable def dN:List T->Bool
 | []=>true
 |t::r=>dO t&&dN r
noncomputable def rX:List (Key×T)->Bool
 | []=>true
 | (_,t)::r=>dO t&&rX r
noncomputable def qv:List (List Key×T)->Bool
 | []=>true
 | (_,t)::r=>dO t&&qv r
end
theorem bf{α:Type}(g:α->T):∀l:List α,erL (l.map g)=l.map λx=>er (g x)
 | []=>rfl
 |x::r=>by rw[e_,erL,bf g r,e_]
theorem lI:∀l:List T,erL l=l.map er
 | []=>rfl
 |x::r=>by rw[erL,lI r,e_]
theorem jc(l:List T):(erL l).length=l.length:=by rw[lI,a_]
theorem eQ(l m:List T):erL (l++m)=erL l++erL m:=by rw[lI,lI,lI,l_]
theorem nO:∀l:List T,bB l=l.all aT
 | []=>rfl
 |x::r=>by rw[bB,nO r,Qw]
theorem kO:∀l:List T,dN l=l.all dO
 | []=>rfl
 |x::r=>by rw[dN,kO r,Qw]
mutual
theorem aK:∀t:T,aT (er t)=true
 | .tup ts=>by rw[er,aT,mZ ts]
 | .cst ts=>by rw[er,aT,mZ ts]
 | .lst _ ts=>by rw[er,aT,mZ ts];rfl
 | .dK _ ts=>by rw[er,aT,uS ts];rfl
 | .dT _ ts=>by rw[er,aT,uu ts];rfl
 | .bare=>rfl
 | .any=>rfl
 | .hole _=>rfl
 | .kp _=>rfl
 | .non=>rfl
 | .bl _=>rfl
 | .int _=>rfl
 | .str _=>rfl
 | .ty _=>rfl
theorem mZ:∀t:List T,bB (erL t)=true
 | []=>rfl
 |t::r=>by rw[erL,bB,aK t,mZ r];rfl
theorem uS:∀t:List (Key×T),vn (erK t)=true
 | []=>rfl
 | (_,t)::r=>by rw[erK,vn,aK t,uS r];rfl
theorem uu:∀t:List (List Key×T),pG (erT t)=true
 | []=>rfl
 | (_,t)::r=>by rw[erT,pG,aK t,uu r];rfl
end
def Gr(G H:Hp):Prop:=∀b u,Rd G b u->Rd H b u
variable {H:Hp}
theorem Gr.iW :Gr H H:=λ_ _ h=>h
variable {G:Hp}
theorem Gr.trans {J:Hp}(a:Gr G H)(b:Gr H J):Gr G J:=λc u h=>b c u (a c u h)
theorem Gr.of (h:gB G H):Gr G H:=λb u r=>by
 rcases r with r|⟨o,r⟩
 ·exact .inl (h _ _ r)
 exact .inr ⟨o,h _ _ r⟩
theorem Rd.some {H:Hp}{a:Rt}{u:HO}(h:Rd H a u):∃w,H a=some w:=by
 rcases h with h|⟨o,h⟩
 ·exact⟨_,h⟩
 exact⟨_,h⟩
theorem Gr.none {G H:Hp}(h:Gr G H){a:Rt}(e:H a=none):G a=none:=by
 cases q:G a with
 |none=>rfl
 |some u=>
  obtain⟨w,z⟩:=Rd.some (h a u (.inl q));rw[e]at z;cases z
noncomputable def TK(H H':Hp):Prop:=∀b xs,H b=some (.tup xs)->H' b=some (.tup xs)
theorem gB.tk (h:gB G H):TK G H:=λb xs r=>h _ _ r
variable {H':Hp}{a:Rt}
theorem Put.tk {o:HO}(p:Put H a o H')(ht:∀xs,H a≠some (.tup xs)):TK H H':=λb xs r=>by have hb:b≠a:=λz=>ht xs (z▸r);rw[p.else_ b hb];exact r
section
variable(K:Rr)(Hz H:Hp)
mutual
inductive RepT:T->V->List Rt->Prop
 |any {v:V}:RepT .any v []
 |hole {w:V}:RepT (.hole w) w []
 |bare {a:Rt}{u:HO} (h:H a=some u) (ht:∀xs,H a≠some (.tup xs)):RepT .bare (.ref a) [a]
 |kp {G:Hp}{v:V} (h:Gr G Hz):RepT (.kp G) v []
 |non:RepT .non .non []
 |bl {b:Bool}:RepT (.bl b) (.bl b) []
 |int {i:Int}:RepT (.int i) (.int i) []
 |str {x:Str}:RepT (.str x) (.str x) []
 |ty {n:String}:RepT (.ty n) (.ty n) []
 |tup {a:Rt}{ts:List T}{vs:List V}{L:List Rt} (h:H a=some (.tup vs)) (c:RepTs ts vs L):RepT (.tup ts) (.ref a) L
 |cst {a:Rt}{ts:List T}{vs:List V} (h:SqT K (λ_=>none) a vs) (c:RepTs ts vs []):RepT (.cst ts) (.ref a) []
 |lstO {a:Rt}{ts:List T}{vs:List V}{L:List Rt} (h:H a=some (.lst vs)) (c:RepTs ts vs L):RepT (.lst true ts) (.ref a) (a::L)
 |lstZ {a:Rt}{ts:List T}{vs:List V} (h:Rd Hz a (.lst vs)) (c:RepTs ts vs []):RepT (.lst false ts) (.ref a) []
 |dKO {a:Rt}{ts:List (Key×T)}{vs:List (Key×V)}{L:List Rt} (h:H a=some (.dK vs)) (c:RepKs ts vs L):RepT (.dK true ts) (.ref a) (a::L)
 |dKZ {a:Rt}{ts:List (Key×T)}{vs:List (Key×V)} (h:Rd Hz a (.dK vs)) (c:RepKs ts vs []):RepT (.dK false ts) (.ref a) []
 |dTO {a:Rt}{ts:List (List Key×T)}{vs:List (List Key×V)}{L:List Rt} (h:H a=some (.dT vs)) (c:RepXs ts vs L):RepT (.dT true ts) (.ref a) (a::L)
 |dTZ {a:Rt}{ts:List (List Key×T)}{vs:List (List Key×V)} (h:Rd Hz a (.dT vs)) (c:RepXs ts vs []):RepT (.dT false ts) (.ref a) []
inductive RepTs:List T->List V->List Rt->Prop
 |nil:RepTs [] [] []
 |cons {t:T}{v:V}{L M N:List Rt}{ts:List T}{vs:List V} (e:N=L++M) (h:RepT t v L) (c:RepTs ts vs M):RepTs (t::ts) (v::vs) N
inductive RepKs:List (Key×T)->List (Key×V)->List Rt->Prop
 |nil:RepKs [] [] []
 |cons {k:Key}{t:T}{v:V}{L M N:List Rt}{ts:List (Key×T)}{vs:List (Key×V)} (e:N=L++M) (h:RepT t v L) (c:RepKs ts vs M):RepKs ((k,t)::ts) ((k,v)::vs) N
inductive RepXs:List (List Key×T)->List (List Key×V)->List Rt->Prop
 |nil:RepXs [] [] []
 |cons {k:List Key}{t:T}{v:V}{L M N:List Rt}{ts:List (List Key×T)}{vs:List (List Key×V)} (e:N=L++M) (h:RepT t v L) (c:RepXs ts vs M):RepXs ((k,t)::ts) ((k,v)::vs) N
end
end
variable {Hz Hz' Z:Hp}{L M:List Rt}{p:Rt}{t:T}{ts:List T}{v:V}{vs xs:List V}{x:Option V}{α:Type}
section
variable{K:Rr}
theorem nz{P:T->V->List Rt->Prop}{Ps:List T->List V->List Rt->Prop}{Pk:List (Key×T)->List (Key×V)->List Rt->Prop}{Px:List (List Key×T)->List (List Key×V)->List Rt->Prop}
  (c1:∀{v},P .any v []) (c2:∀{w},P (.hole w) w []) (c3:∀{a u},H a=some u->(∀xs,H a≠some (.tup xs))->P .bare (.ref a) [a]) (c4:∀{G v},Gr G Hz->P (.kp G) v [])
  (c5:P .non .non []) (c6:∀{b},P (.bl b) (.bl b) []) (c7:∀{i},P (.int i) (.int i) []) (c8:∀{x},P (.str x) (.str x) []) (c9:∀{n},P (.ty n) (.ty n) [])
  (c10:∀{a ts vs L},H a=some (.tup vs)->Ps ts vs L->P (.tup ts) (.ref a) L) (c11:∀{a ts vs},SqT K (λ_=>none) a vs->Ps ts vs []->P (.cst ts) (.ref a) [])
  (c12:∀{a ts vs L},H a=some (.lst vs)->Ps ts vs L->P (.lst true ts) (.ref a) (a::L)) (c13:∀{a ts vs},Rd Hz a (.lst vs)->Ps ts vs []->P (.lst false ts) (.ref a) [])
  (c14:∀{a ts vs L},H a=some (.dK vs)->Pk ts vs L->P (.dK true ts) (.ref a) (a::L)) (c15:∀{a ts vs},Rd Hz a (.dK vs)->Pk ts vs []->P (.dK false ts) (.ref a) [])
  (c16:∀{a ts vs L},H a=some (.dT vs)->Px ts vs L->P (.dT true ts) (.ref a) (a::L)) (c17:∀{a ts vs},Rd Hz a (.dT vs)->Px ts vs []->P (.dT false ts) (.ref a) [])
  (s0:Ps [] [] []) (s1:∀{t v L M ts vs},P t v L->Ps ts vs M->Ps (t::ts) (v::vs) (L++M))
  (k0:Pk [] [] []) (k1:∀{k t v L M ts vs},P t v L->Pk ts vs M->Pk ((k,t)::ts) ((k,v)::vs) (L++M))
  (x0:Px [] [] []) (x1:∀{k t v L M ts vs},P t v L->Px ts vs M->Px ((k,t)::ts) ((k,v)::vs) (L++M)) :
  (∀{t v L},RepT K Hz H t v L->P t v L)/\(∀{t v L},RepTs K Hz H t v L->Ps t v L)/\(∀{t v L},RepKs K Hz H t v L->Pk t v L)/\(∀{t v L},RepXs K Hz H t v L->Px t v L):=by
 have m1:∀{t v L},RepT K Hz H t v L->P t v L:=λh=>RepT.rec (motive_1:=λt v L _=>P t v L) (motive_2:=λt v L _=>Ps t v L) (motive_3:=λt v L _=>Pk t v L) (motive_4:=λt v L _=>Px t v L)
  c1 c2 c3 c4 c5 c6 c7 c8 c9 (λh _ i=>c10 h i) (λh _ i=>c11 h i) (λh _ i=>c12 h i) (λh _ i=>c13 h i) (λh _ i=>c14 h i) (λh _ i=>c15 h i) (λh _ i=>c16 h i) (λh _ i=>c17 h i)
  s0 (λe _ _ i j=>e▸s1 i j) k0 (λe _ _ i j=>e▸k1 i j) x0 (λe _ _ i j=>e▸x1 i j) h
 refine⟨m1,λh=>?_,λh=>?_,λh=>?_⟩
 ·exact RepTs.rec (motive_1:=λt v L _=>True) (motive_2:=λt v L _=>Ps t v L) (motive_3:=λt v L _=>True) (motive_4:=λt v L _=>True)
   trivial trivial (λ_ _=>trivial) (λ_=>trivial) trivial trivial trivial trivial trivial (λ_ _ _=>trivial) (λ_ _ _=>trivial) (λ_ _ _=>trivial) (λ_ _ _=>trivial) (λ_ _ _=>trivial) (λ_ _ _=>trivial) (λ_ _ _=>trivial) (λ_ _ _=>trivial)
   s0 (λe h _ _ j=>e▸s1 (m1 h) j) trivial (λ_ _ _ _ _=>trivial) trivial (λ_ _ _ _ _=>trivial) h
 ·exact RepKs.rec (motive_1:=λt v L _=>True) (motive_2:=λt v L _=>True) (motive_3:=λt v L _=>Pk t v L) (motive_4:=λt v L _=>True)
   trivial trivial (λ_ _=>trivial) (λ_=>trivial) trivial trivial trivial trivial trivial (λ_ _ _=>trivial) (λ_ _ _=>trivial) (λ_ _ _=>trivial) (λ_ _ _=>trivial) (λ_ _ _=>trivial) (λ_ _ _=>trivial) (λ_ _ _=>trivial) (λ_ _ _=>trivial)
   trivial (λ_ _ _ _ _=>trivial) k0 (λe h _ _ j=>e▸k1 (m1 h) j) trivial (λ_ _ _ _ _=>trivial) h
 exact RepXs.rec (motive_1:=λt v L _=>True) (motive_2:=λt v L _=>True) (motive_3:=λt v L _=>True) (motive_4:=λt v L _=>Px t v L)
  trivial trivial (λ_ _=>trivial) (λ_=>trivial) trivial trivial trivial trivial trivial (λ_ _ _=>trivial) (λ_ _ _=>trivial) (λ_ _ _=>trivial) (λ_ _ _=>trivial) (λ_ _ _=>trivial) (λ_ _ _=>trivial) (λ_ _ _=>trivial) (λ_ _ _=>trivial)
  trivial (λ_ _ _ _ _=>trivial) trivial (λ_ _ _ _ _=>trivial) x0 (λe h _ _ j=>e▸x1 (m1 h) j) h
noncomputable def Kps(H H':Hp)(L:List Rt):Prop:=∀a∈L,∀u,H a=some u->H' a=some u/\((∀xs,H a≠some (.tup xs))->∀xs,H' a≠some (.tup xs))
theorem Kps.hd (h:Kps H H' (a::L)){u:HO}(e:H a=some u):H' a=some u/\((∀xs,H a≠some (.tup xs))->∀xs,H' a≠some (.tup xs)):=h _ x_ _ e
theorem Kps.tl (h:Kps H H' (a::L)):Kps H H' L:=λa m=>h a (q_ _ m)
theorem Kps.l (h:Kps H H' (L++M)):Kps H H' L:=λa m=>h a (G' _ m)
theorem Kps.r (h:Kps H H' (L++M)):Kps H H' M:=λa m=>h a (r_ _ m)
theorem Cu(ht:TK H H')(hz:Gr Hz Hz'):(∀{t v L},RepT K Hz H t v L->Kps H H' L->RepT K Hz' H' t v L)/\(∀{t v L},RepTs K Hz H t v L->Kps H H' L->RepTs K Hz' H' t v L)/\(∀{t v L},RepKs K Hz H t v L->Kps H H' L->RepKs K Hz' H' t v L)/\(∀{t v L},RepXs K Hz H t v L->Kps H H' L->RepXs K Hz' H' t v L):=
 nz (P:=λt v L=>Kps H H' L->RepT K Hz' H' t v L) (Ps:=λt v L=>Kps H H' L->RepTs K Hz' H' t v L) (Pk:=λt v L=>Kps H H' L->RepKs K Hz' H' t v L) (Px:=λt v L=>Kps H H' L->RepXs K Hz' H' t v L)
  (λ_=>.any) (λ_=>.hole) (λh t o=>.bare (o.hd h).1 ((o.hd h).2 t)) (λh _=>.kp (h.trans hz)) (λ_=>.non) (λ_=>.bl) (λ_=>.int) (λ_=>.str) (λ_=>.ty)
  (λh c o=>.tup (ht _ _ h) (c o)) (λh c o=>.cst h (c o)) (λh c o=>.lstO (o.hd h).1 (c o.tl)) (λh c o=>.lstZ (hz _ _ h) (c o)) (λh c o=>.dKO (o.hd h).1 (c o.tl)) (λh c o=>.dKZ (hz _ _ h) (c o)) (λh c o=>.dTO (o.hd h).1 (c o.tl)) (λh c o=>.dTZ (hz _ _ h) (c o))
  (λ_=>.nil) (λi j o=>.cons rfl (i o.l) (j o.r)) (λ_=>.nil) (λi j o=>.cons rfl (i o.l) (j o.r)) (λ_=>.nil) (λi j o=>.cons rfl (i o.l) (j o.r))
theorem RepT.move (ht:TK H H')(hz:Gr Hz Hz')(o:Kps H H' L)(h:RepT K Hz H t v L):RepT K Hz' H' t v L:=(Cu ht hz).1 h o
noncomputable def Thr(H:Hp)(L:List Rt):Prop:=∀a∈L,(∃u,H a=some u)/\∀xs,H a≠some (.tup xs)
theorem Thr.nil :Thr H []:=λa m=>nomatch m
theorem Thr.cons {H:Hp}{a:Rt}{u:HO}{L:List Rt}(h:H a=some u)(t:∀xs,H a≠some (.tup xs))(c:Thr H L):Thr H (a::L):=λb m=>by
 rcases n_.mp m with rfl|m
 ·exact⟨⟨_,h⟩,t⟩
 exact c b m
theorem Thr.app (c:Thr H L)(d:Thr H M):Thr H (L++M):=λb m=>(B_.mp m).elim (c b) (d b)
theorem Bi:(∀{t v L},RepT K Hz H t v L->Thr H L)/\(∀{t v L},RepTs K Hz H t v L->Thr H L)/\(∀{t v L},RepKs K Hz H t v L->Thr H L)/\(∀{t v L},RepXs K Hz H t v L->Thr H L):=
 nz (P:=λt v L=>Thr H L) (Ps:=λt v L=>Thr H L) (Pk:=λt v L=>Thr H L) (Px:=λt v L=>Thr H L)
  .nil .nil (λh t=>.cons h t .nil) (λ_=>.nil) .nil .nil .nil .nil .nil (λ_ c=>c) (λ_ c=>c) (λh c=>.cons h (λxs r=>by rw[h]at r;cases r) c) (λ_ c=>c) (λh c=>.cons h (λxs r=>by rw[h]at r;cases r) c) (λ_ c=>c) (λh c=>.cons h (λxs r=>by rw[h]at r;cases r) c) (λ_ c=>c)
  .nil (λc d=>c.app d) .nil (λc d=>c.app d) .nil (λc d=>c.app d)
theorem RepT.there (h:RepT K Hz H t v L):Thr H L:=Bi.1 h
noncomputable def Fzn(H Z:Hp)(L:List Rt):Prop:=∀a∈L,Z a=H a
theorem Fzn.hd (h:Fzn H Z (a::L)){u:HO}(e:H a=some u):Rd Z a u:=.inl (by rw[h _ x_];exact e)
theorem Fzn.tl (h:Fzn H Z (a::L)):Fzn H Z L:=λa m=>h a (q_ _ m)
theorem Fzn.l (h:Fzn H Z (L++M)):Fzn H Z L:=λa m=>h a (G' _ m)
theorem Fzn.r (h:Fzn H Z (L++M)):Fzn H Z M:=λa m=>h a (r_ _ m)
theorem FA(hz:Gr Hz Z):(∀{t v L},RepT K Hz H t v L->Fzn H Z L->RepT K Z H (er t) v [])/\(∀{t v L},RepTs K Hz H t v L->Fzn H Z L->RepTs K Z H (erL t) v [])/\(∀{t v L},RepKs K Hz H t v L->Fzn H Z L->RepKs K Z H (erK t) v [])/\(∀{t v L},RepXs K Hz H t v L->Fzn H Z L->RepXs K Z H (erT t) v []):=
 nz (P:=λt v L=>Fzn H Z L->RepT K Z H (er t) v []) (Ps:=λt v L=>Fzn H Z L->RepTs K Z H (erL t) v []) (Pk:=λt v L=>Fzn H Z L->RepKs K Z H (erK t) v []) (Px:=λt v L=>Fzn H Z L->RepXs K Z H (erT t) v [])
  (λ_=>.any) (λ_=>.hole) (λ_ _ _=>.any) (λh _=>.kp (h.trans hz)) (λ_=>.non) (λ_=>.bl) (λ_=>.int) (λ_=>.str) (λ_=>.ty)
  (λh c o=>.tup h (c o)) (λh c o=>.cst h (c o)) (λh c o=>.lstZ (o.hd h) (c o.tl)) (λh c o=>.lstZ (hz _ _ h) (c o)) (λh c o=>.dKZ (o.hd h) (c o.tl)) (λh c o=>.dKZ (hz _ _ h) (c o)) (λh c o=>.dTZ (o.hd h) (c o.tl)) (λh c o=>.dTZ (hz _ _ h) (c o))
  (λ_=>.nil) (λi j o=>.cons rfl (i o.l) (j o.r)) (λ_=>.nil) (λi j o=>.cons rfl (i o.l) (j o.r)) (λ_=>.nil) (λi j o=>.cons rfl (i o.l) (j o.r))
theorem RepT.frz (hz:Gr Hz Z)(o:Fzn H Z L)(h:RepT K Hz H t v L):RepT K Z H (er t) v []:=(FA hz).1 h o
theorem G1:(∀{t v L},RepT K Hz H t v L->aT t=true->L=[])/\(∀{t v L},RepTs K Hz H t v L->bB t=true->L=[])/\(∀{t v L},RepKs K Hz H t v L->True)/\(∀{t v L},RepXs K Hz H t v L->True):=
 nz (P:=λt v L=>aT t=true->L=[]) (Ps:=λt v L=>bB t=true->L=[]) (Pk:=λt v L=>True) (Px:=λt v L=>True)
  (λ_=>rfl) (λ_=>rfl) (λ_ _ n=>nomatch n) (λ_ _=>rfl) (λ_=>rfl) (λ_=>rfl) (λ_=>rfl) (λ_=>rfl) (λ_=>rfl)
  (λ_ c n=>c (by rw[aT]at n;exact n)) (λ_ _ _=>rfl) (λ_ _ n=>nomatch n) (λ_ _ _=>rfl) (λ_ _ n=>nomatch n) (λ_ _ _=>rfl) (λ_ _ n=>nomatch n) (λ_ _ _=>rfl)
  (λ_=>rfl) (λi j n=>by
   rw[bB,J']at n;rw[i n.1,j n.2]
   rfl) trivial (λ_ _=>trivial) trivial (λ_ _=>trivial)
theorem RepT.nil_of (n:aT t=true)(h:RepT K Hz H t v L):L=[]:=G1.1 h n
theorem ER(ht:TK H H'):(∀{t v L},RepT K Hz H t v L->dO t=true->Kps H H' L->RepT K Z H' t v L)/\(∀{t v L},RepTs K Hz H t v L->dN t=true->Kps H H' L->RepTs K Z H' t v L)/\(∀{t v L},RepKs K Hz H t v L->rX t=true->Kps H H' L->RepKs K Z H' t v L)/\(∀{t v L},RepXs K Hz H t v L->qv t=true->Kps H H' L->RepXs K Z H' t v L):=
 nz (P:=λt v L=>dO t=true->Kps H H' L->RepT K Z H' t v L) (Ps:=λt v L=>dN t=true->Kps H H' L->RepTs K Z H' t v L) (Pk:=λt v L=>rX t=true->Kps H H' L->RepKs K Z H' t v L) (Px:=λt v L=>qv t=true->Kps H H' L->RepXs K Z H' t v L)
  (λ_ _=>.any) (λ_ _=>.hole) (λh t _ o=>.bare (o.hd h).1 ((o.hd h).2 t)) (λ_ n=>nomatch n) (λ_ _=>.non) (λ_ _=>.bl) (λ_ _=>.int) (λ_ _=>.str) (λ_ _=>.ty)
  (λh c n o=>.tup (ht _ _ h) (c (by rw[dO]at n;exact n) o)) (λh c n o=>.cst h (c (by rw[dO]at n;exact n) o)) (λh c n o=>.lstO (o.hd h).1 (c (by rw[dO,Nu]at n;exact n) o.tl)) (λ_ _ n=>nomatch n) (λh c n o=>.dKO (o.hd h).1 (c (by rw[dO,Nu]at n;exact n) o.tl)) (λ_ _ n=>nomatch n) (λh c n o=>.dTO (o.hd h).1 (c (by rw[dO,Nu]at n;exact n) o.tl)) (λ_ _ n=>nomatch n)
  (λ_ _=>.nil) (λi j n o=>.cons rfl (i (by rw[dN,J']at n;exact n.1) o.l) (j (by rw[dN,J']at n;exact n.2) o.r)) (λ_ _=>.nil) (λi j n o=>.cons rfl (i (by rw[rX,J']at n;exact n.1) o.l) (j (by rw[rX,J']at n;exact n.2) o.r)) (λ_ _=>.nil) (λi j n o=>.cons rfl (i (by rw[qv,J']at n;exact n.1) o.l) (j (by rw[qv,J']at n;exact n.2) o.r))
theorem RepT.Mw (ht:TK H H')(n:dO t=true)(o:Kps H H' L)(h:RepT K Hz H t v L):RepT K Z H' t v L:=(ER ht).1 h n o
abbrev Ev:=List T
abbrev Fm:=List (T×Option V)
noncomputable def tG(K:Rr)(Hz H:Hp)(t:T)(x:Option V)(L:List Rt):Prop:=(t=.any/\L=[])\/∃v,x=some v/\RepT K Hz H t v L
inductive RepL (K:Rr) (Hz H:Hp):Fm->List Rt->Prop
 |nil:RepL K Hz H [] []
 |cons {t:T}{x:Option V}{L M N:List Rt}{r:Fm} (e:N=L++M) (h:tG K Hz H t x L) (c:RepL K Hz H r M):RepL K Hz H ((t,x)::r) N
def Rp(K:Rr)(H:Hp)(Γ:Fm):Prop:=∃Hz L,RepL K Hz H Γ L/\L.Nodup/\Gr Hz H/\∀b∈L,Hz b=none
theorem tG.move (ht:TK H H')(hz:Gr Hz Hz')(ho:∀a∈L,∀u,H a=some u->H' a=some u/\((∀xs,H a≠some (.tup xs))->∀xs,H' a≠some (.tup xs)))(h:tG K Hz H t x L):tG K Hz' H' t x L:=by
 rcases h with⟨rfl,rfl⟩|⟨v,rfl,h⟩
 ·exact .inl ⟨rfl,rfl⟩
 exact .inr ⟨v,rfl,h.move ht hz ho⟩
theorem tG.there (h:tG K Hz H t x L):∀a∈L,(∃u,H a=some u)/\∀xs,H a≠some (.tup xs):=by
 rcases h with⟨rfl,rfl⟩|⟨v,rfl,h⟩
 ·intro a m;cases m
 exact h.there
theorem RepL.move (ht:TK H H')(hz:Gr Hz Hz'):∀{Γ:Fm}{L:List Rt},(∀a∈L,∀u,H a=some u->H' a=some u/\((∀xs,H a≠some (.tup xs))->∀xs,H' a≠some (.tup xs)))->RepL K Hz H Γ L->RepL K Hz' H' Γ L:=by
 intro Γ L ho x;induction x with
 |nil=>exact .nil
 |cons e h c ih=>exact .cons e (h.move ht hz λa m=>ho a (by rw[e];exact G' _ m)) (ih λa m=>ho a (by rw[e];exact r_ _ m))
theorem RepL.there :∀{Γ:Fm}{L:List Rt},RepL K Hz H Γ L->∀a∈L,(∃u,H a=some u)/\∀xs,H a≠some (.tup xs):=by
 intro Γ L x;induction x with
 |nil=>intro a m;cases m
 |cons e h c ih=>
  intro a m;rw[e]at m;rcases B_.mp m with m|m
  ·exact h.there a m
  exact ih a m
theorem RepL.app :∀{Γ Δ:Fm}{L M:List Rt},RepL K Hz H Γ L->RepL K Hz H Δ M->RepL K Hz H (Γ++Δ) (L++M):=by
 intro Γ Δ L M x d;induction x with
 |nil=>exact d
 |cons e h c ih=>exact .cons (by rw[e,gV]) h ih
theorem RepL.split :∀{Γ Δ:Fm}{N:List Rt},RepL K Hz H (Γ++Δ) N->∃L M,N=L++M/\RepL K Hz H Γ L/\RepL K Hz H Δ M
 | [],_,N,h=>⟨[],N,rfl,.nil,h⟩
 | (t,x)::r,_,N,.cons e h c=>by obtain⟨L,M,rfl,h1,h2⟩:=c.split;exact⟨_,M,by rw[e,gV],.cons rfl h h1,h2⟩
theorem RepL.perm {Γ Δ:Fm}(p:Γ.Perm Δ):∀{L:List Rt},RepL K Hz H Γ L->∃M,L.Perm M/\RepL K Hz H Δ M:=by
 induction p with
 |nil=>intro L h;exact⟨L,.refl _,h⟩
 |cons x q ih=>
  intro L h;cases h with
  |cons e h c=>
   obtain⟨M,p1,h1⟩:=ih c;exact⟨_,by rw[e];exact p1.append_left _,.cons rfl h h1⟩
 |swap x y l=>
  intro L h;cases h with
  |cons e h c=>
   cases c with
   |cons e' h' c'=>
    refine⟨_,?_,.cons rfl h' (.cons rfl h c')⟩;rw[e,e',<-gV,<-gV];exact Na.append_right _
 |trans p q ih1 ih2=>
  intro L h;obtain⟨M,p1,h1⟩:=ih1 h;obtain⟨N,p2,h2⟩:=ih2 h1;exact⟨N,p1.trans p2,h2⟩
theorem Rp.perm {Γ Δ:Fm}(h:Rp K H Γ)(p:Γ.Perm Δ):Rp K H Δ:=by obtain⟨Hz,L,h,nd,g,d⟩:=h;obtain⟨M,q,h'⟩:=h.perm p;exact⟨Hz,M,h',q.nodup_iff.mp nd,g,λb m=>d b (q.mem_iff.mpr m)⟩
theorem Rp.part {Γ Δ:Fm}(h:Rp K H (Γ++Δ)):Rp K H Δ:=by obtain⟨Hz,L,h,nd,g,d⟩:=h;obtain⟨L1,L2,rfl,_,h2⟩:=h.split;exact⟨Hz,L2,h2,(Oh.mp nd).2.1,g,λb m=>d b (r_ _ m)⟩
theorem Rp.tail {x:T×Option V}{Γ:Fm}(h:Rp K H (x::Γ)):Rp K H Γ:=Rp.part (Γ:=[x]) h
theorem ny(s:gB H H')(a:Rt)(u:HO)(e:H a=some u):H' a=some u/\((∀xs,H a≠some (.tup xs))->∀xs,H' a≠some (.tup xs)):=
 ⟨s _ _ e,λn xs r=>n xs (by rw[s _ _ e]at r;exact e.trans r)⟩
theorem Rp.same {Γ:Fm}(h:Rp K H Γ)(s:gB H H'):Rp K H' Γ:=by obtain⟨Hz,L,h,nd,g,d⟩:=h;exact⟨Hz,L,h.move (gB.tk s) .iW (λa m u e=>ny s a u e),nd,g.trans (.of s),d⟩
theorem wW{o:HO}(s:Put H p o H')(a:Rt)(n:a≠p)(u:HO)(e:H a=some u):H' a=some u/\((∀xs,H a≠some (.tup xs))->∀xs,H' a≠some (.tup xs)):=
 ⟨by rw[s.else_ a n];exact e,λm xs r=>m xs (by rw[s.else_ a n]at r;exact r)⟩
theorem RepTs.len :∀{ts:List T}{vs:List V}{L:List Rt},RepTs K Hz H ts vs L->ts.length=vs.length:=λ{ts}=>by
 induction ts with
 |nil=>intro vs L h;cases h;rfl
 |cons t ts ih=>
  intro vs L h;cases h with
  |cons _ _ c=>rw[j_,j_,ih c]
abbrev zz(ts:List T)(vs:List V):Fm:=ts.zip (vs.map some)
theorem RepTs.toL :∀{ts:List T}{vs:List V}{L:List Rt},RepTs K Hz H ts vs L->RepL K Hz H (zz ts vs) L:=λ{ts}=>by
 induction ts with
 |nil=>intro vs L h;cases h;exact .nil
 |cons t ts ih=>
  intro vs L h;cases h with
  |cons e h c=>exact .cons e (.inr ⟨_,rfl,h⟩) (ih c)
theorem RepL.B8 :∀{ts:List T}{vs:List V}{L:List Rt},ts.length=vs.length->RepL K Hz H (zz ts vs) L->RepTs K Hz H ts vs L
 | [],[],_,_,.nil=>.nil
 | [],v::vs,_,l,_=>by simp at l
 |t::ts,[],_,l,_=>by simp at l
 |t::ts,v::vs,L,l,h=>by
  have h:RepL K Hz H ((t,some v)::zz ts vs) L:=h;cases h with
  |cons e h c=>
   refine .cons e ?_ (c.B8 (by simpa using l));rcases h with⟨rfl,rfl⟩|⟨w,e2,h⟩
   ·exact .any
   cases e2;exact h
theorem RepKs.toL :∀{ts:List (Key×T)}{vs:List (Key×V)}{L:List Rt},RepKs K Hz H ts vs L->ts.map (·.1)=vs.map (·.1)/\RepTs K Hz H (ts.map (·.2)) (vs.map (·.2)) L:=λ{ts}=>by
 induction ts with
 |nil=>intro vs L h;cases h;exact⟨rfl,.nil⟩
 |cons t ts ih=>
  intro vs L h;cases h with
  |cons e h c=>exact⟨by rw[e_,e_,(ih c).1],.cons e h (ih c).2⟩
theorem RepKs.ofL :∀{ts:List (Key×T)}{vs:List (Key×V)}{L:List Rt},ts.map (·.1)=vs.map (·.1)->RepTs K Hz H (ts.map (·.2)) (vs.map (·.2)) L->RepKs K Hz H ts vs L:=λ{ts}=>by
 induction ts with
 |nil=>
  intro vs L e h;cases vs with
  |nil=>cases h;exact .nil
  |cons v vs=>cases e
 |cons t ts ih=>
  intro vs L e h;cases vs with
  |nil=>cases e
  |cons v vs=>
   obtain⟨k,t⟩:=t;obtain⟨k',v⟩:=v;cases h with
   |cons e2 h c=>
    rw[e_,e_,Nn]at e;have e0:k=k':=e.1;subst e0;exact .cons e2 h (ih e.2 c)
theorem RepXs.toL :∀{ts:List (List Key×T)}{vs:List (List Key×V)}{L:List Rt},RepXs K Hz H ts vs L->ts.map (·.1)=vs.map (·.1)/\RepTs K Hz H (ts.map (·.2)) (vs.map (·.2)) L:=λ{ts}=>by
 induction ts with
 |nil=>intro vs L h;cases h;exact⟨rfl,.nil⟩
 |cons t ts ih=>
  intro vs L h;cases h with
  |cons e h c=>exact⟨by rw[e_,e_,(ih c).1],.cons e h (ih c).2⟩
theorem RepXs.ofL :∀{ts:List (List Key×T)}{vs:List (List Key×V)}{L:List Rt},ts.map (·.1)=vs.map (·.1)->RepTs K Hz H (ts.map (·.2)) (vs.map (·.2)) L->RepXs K Hz H ts vs L:=λ{ts}=>by
 induction ts with
 |nil=>
  intro vs L e h;cases vs with
  |nil=>cases h;exact .nil
  |cons v vs=>cases e
 |cons t ts ih=>
  intro vs L e h;cases vs with
  |nil=>cases e
  |cons v vs=>
   obtain⟨k,t⟩:=t;obtain⟨k',v⟩:=v;cases h with
   |cons e2 h c=>
    rw[e_,e_,Nn]at e;have e0:k=k':=e.1;subst e0;exact .cons e2 h (ih e.2 c)
theorem Ed{o:HO}{Γ Δ:Fm}(h:Rp K H (Γ++Δ))(hp:H p=none)(s:gB H H')(hn:H' p=some o)
  (mk:∀Hz L,RepL K Hz H' Γ L->RepT K Hz H' t (.ref p) (p::L)):Rp K H' ((t,some (.ref p))::Δ):=by
 obtain⟨Hz,N,h,nd,g,d⟩:=h;obtain⟨L,M,rfl,h1,h2⟩:=h.split;have mv:∀a∈L++M,∀u,H a=some u->H' a=some u/\((∀xs,H a≠some (.tup xs))->∀xs,H' a≠some (.tup xs)):=λa _ u e=>ny s a u e;have h1':=h1.move (gB.tk s) .iW λa m=>mv a (G' _ m);have h2':=h2.move (gB.tk s) .iW λa m=>mv a (r_ _ m);refine⟨Hz,(p::L)++M,.cons rfl (.inr ⟨_,rfl,mk Hz L h1'⟩) h2',?_,g.trans (.of s),?_⟩
 ·rw[MV,J_];refine⟨λm=>?_,nd⟩;obtain⟨⟨u,e⟩,_⟩:=h.there p m;rw[hp]at e;cases e
 intro b m;rcases n_.mp m with rfl|m
 ·exact g.none hp
 exact d b m
theorem kc{Δ:Fm}(h:Rp K H (zz ts vs++Δ))(l:ts.length=vs.length)(hp:H p=none)(s:gB H H')(hn:H' p=some (.lst vs)):Rp K H' ((.lst true ts,some (.ref p))::Δ):=
 Ed h hp s hn λ_ _ q=>.lstO hn (q.B8 l)
theorem kG{Δ:Fm}(h:Rp K H (zz ts vs++Δ))(l:ts.length=vs.length)(s:gB H H')(hn:H' p=some (.tup vs)):Rp K H' ((.tup ts,some (.ref p))::Δ):=by obtain⟨Hz,N,h,nd,g,d⟩:=h.same s;obtain⟨L,M,rfl,h1,h2⟩:=h.split;exact⟨Hz,L++M,.cons rfl (.inr ⟨_,rfl,.tup hn (h1.B8 l)⟩) h2,nd,g,d⟩
theorem kB{Γ:Fm}(h:Rp K H ((.lst true ts,x)::Γ)):∃a vs,x=some (.ref a)/\H a=some (.lst vs)/\ts.length=vs.length/\Rp K H ((.bare,some (.ref a))::(zz ts vs++Γ)):=by
 obtain⟨Hz,N,h,nd,g,d⟩:=h;cases h with
 |cons e h c=>
  rcases h with⟨h,_⟩|⟨v,rfl,h⟩
  ·cases h
  cases h with
  |lstO h1 c1=>
   refine⟨_,_,rfl,h1,c1.len,Hz,N,.cons (L:=[_]) (M:=_++_) (by rw[e];rfl) (.inr ⟨_,rfl,.bare h1 λxs r=>?_⟩) (c1.toL.app c),nd,g,d⟩;rw[h1]at r;cases r
theorem vA{o:HO}{Γ Δ:Fm}(h:Rp K H ((.bare,some (.ref a))::(Γ++Δ)))(p:Put H a o H')
  (mk:∀Hz L,RepL K Hz H' Γ L->RepT K Hz H' t (.ref a) (a::L)):Rp K H' ((t,some (.ref a))::Δ):=by
 obtain⟨Hz,N,h,nd,g,d⟩:=h;cases h with
 |cons e h c=>
  rcases h with⟨h,_⟩|⟨v,ev,h⟩
  ·cases h
  cases ev;cases h with
  |bare h1 nt=>
   obtain⟨L,M,e2,h2,h3⟩:=c.split;subst e;subst e2;rw[Qo,J_]at nd;have tk:TK H H':=Put.tk p nt;have ne:∀b∈L++M,b≠a:=λb m z=>nd.1 (z▸m);have g':Gr Hz H':=λb u r=>by
    have hb:b≠a:=λz=>by obtain⟨w,q⟩:=Rd.some r;rw[z,d a (by rw[Qo];exact x_)]at q;cases q
    rcases g b u r with r|⟨o,r⟩
    ·exact .inl (by rw[p.else_ b hb];exact r)
    exact .inr ⟨o,by rw[p.else_ b hb];exact r⟩
   refine⟨Hz,(a::L)++M,.cons rfl (.inr ⟨_,rfl,mk Hz L ?_⟩) ?_,?_,g',?_⟩
   ·exact h2.move tk .iW λb m=>wW p b (ne b (G' _ m))
   ·exact h3.move tk .iW λb m=>wW p b (ne b (r_ _ m))
   ·rw[MV,J_];exact nd
   exact d
theorem kj{Γ:Fm}(h:Rp K H ((.bare,some (.ref a))::(zz ts vs++Γ)))(l:ts.length=vs.length)(p:Put H a (.lst vs) H'):Rp K H' ((.lst true ts,some (.ref a))::Γ):=
 vA h p λ_ _ q=>.lstO p.at_ (q.B8 l)
theorem t6{ts:List (Key×T)}{Γ:Fm}(h:Rp K H ((.dK true ts,x)::Γ)):∃a vs,x=some (.ref a)/\H a=some (.dK vs)/\ts.map (·.1)=vs.map (·.1)/\Rp K H ((.bare,some (.ref a))::(zz (ts.map (·.2)) (vs.map (·.2))++Γ)):=by
 obtain⟨Hz,N,h,nd,g,d⟩:=h;cases h with
 |cons e h c=>
  rcases h with⟨h,_⟩|⟨v,rfl,h⟩
  ·cases h
  cases h with
  |dKO h1 c1=>
   obtain⟨e1,c2⟩:=c1.toL;refine⟨_,_,rfl,h1,e1,Hz,N,.cons (L:=[_]) (M:=_++_) (by rw[e];rfl) (.inr ⟨_,rfl,.bare h1 λxs r=>?_⟩) (c2.toL.app c),nd,g,d⟩;rw[h1]at r;cases r
theorem rB{ts:List (List Key×T)}{Γ:Fm}(h:Rp K H ((.dT true ts,x)::Γ)):∃a vs,x=some (.ref a)/\H a=some (.dT vs)/\ts.map (·.1)=vs.map (·.1)/\Rp K H ((.bare,some (.ref a))::(zz (ts.map (·.2)) (vs.map (·.2))++Γ)):=by
 obtain⟨Hz,N,h,nd,g,d⟩:=h;cases h with
 |cons e h c=>
  rcases h with⟨h,_⟩|⟨v,rfl,h⟩
  ·cases h
  cases h with
  |dTO h1 c1=>
   obtain⟨e1,c2⟩:=c1.toL;refine⟨_,_,rfl,h1,e1,Hz,N,.cons (L:=[_]) (M:=_++_) (by rw[e];rfl) (.inr ⟨_,rfl,.bare h1 λxs r=>?_⟩) (c2.toL.app c),nd,g,d⟩;rw[h1]at r;cases r
theorem i9{κ β:Type}{ts:List (κ×α)}{vs:List (κ×β)}(e:ts.map (·.1)=vs.map (·.1)):ts.length=vs.length:=by have:=congrArg Pf e;rwa[a_,a_]at this
theorem tZ{ts:List (Key×T)}{vs:List (Key×V)}{Γ:Fm}(h:Rp K H ((.bare,some (.ref a))::(zz (ts.map (·.2)) (vs.map (·.2))++Γ)))(l:ts.map (·.1)=vs.map (·.1))(p:Put H a (.dK vs) H'):Rp K H' ((.dK true ts,some (.ref a))::Γ):=
 vA h p λ_ _ q=>.dKO p.at_ (RepKs.ofL l (q.B8 (by rw[a_,a_];exact i9 l)))
theorem uv{ts:List (List Key×T)}{vs:List (List Key×V)}{Γ:Fm}(h:Rp K H ((.bare,some (.ref a))::(zz (ts.map (·.2)) (vs.map (·.2))++Γ)))(l:ts.map (·.1)=vs.map (·.1))(p:Put H a (.dT vs) H'):Rp K H' ((.dT true ts,some (.ref a))::Γ):=
 vA h p λ_ _ q=>.dTO p.at_ (RepXs.ofL l (q.B8 (by rw[a_,a_];exact i9 l)))
theorem FI{Δ:Fm}(h:Rp K H Δ)(hp:H p=none)(s:gB H H')(hn:H' p=some (.dT [])):Rp K H' ((.dT true [],some (.ref p))::Δ):=
 Ed (Γ:=[]) h hp s hn λ_ _ q=>by cases q;exact .dTO hn .nil
theorem mG{Γ:Fm}(h:Rp K H ((t,x)::Γ)):Rp K H ((er t,x)::Γ):=by
 obtain⟨Hz,N,h,nd,g,d⟩:=h;cases h with
 | @cons _ _ L M _ _ e h c=>
  rcases h with⟨rfl,rfl⟩|⟨v,rfl,h⟩
  ·exact⟨Hz,N,.cons e (.inl ⟨rfl,rfl⟩) c,nd,g,d⟩
  subst e;have dz:∀b∈L,Hz b=none:=λb m=>d b (G' _ m)
  let Z:Hp:=λb=>if b∈L then H b else Hz b
  have hz:Gr Hz Z:=λb u r=>by
   have nb:b ∉ L:=λm=>by obtain⟨w,q⟩:=Rd.some r;rw[dz b m]at q;cases q
   rcases r with r|⟨o,r⟩
   ·exact .inl (by show(if b∈L then H b else Hz b)=_;rw[if_neg nb];exact r)
   exact .inr ⟨o,by show(if b∈L then H b else Hz b)=_;rw[if_neg nb];exact r⟩
  have zh:Gr Z H:=λb u r=>by
   by_cases nb:b∈L
   ·rcases r with r|⟨o,r⟩
    ·exact .inl (by have r:(if b∈L then H b else Hz b)=_:=r;rw[if_pos nb]at r;exact r)
    exact .inr ⟨o,by have r:(if b∈L then H b else Hz b)=_:=r;rw[if_pos nb]at r;exact r⟩
   refine g b u ?_;rcases r with r|⟨o,r⟩
   ·exact .inl (by have r:(if b∈L then H b else Hz b)=_:=r;rw[if_neg nb]at r;exact r)
   exact .inr ⟨o,by have r:(if b∈L then H b else Hz b)=_:=r;rw[if_neg nb]at r;exact r⟩
  have nd2:=Oh.mp nd;refine⟨Z,[]++M,.cons rfl (.inr ⟨v,rfl,h.frz hz λb m=>?_⟩) (c.move (λ_ _ r=>r) hz λb m u e=>⟨e,λn=>n⟩),nd2.2.1,zh,λb m=>?_⟩
  ·show(if b∈L then H b else Hz b)=_;rw[if_pos m]
  show(if b∈L then H b else Hz b)=_;rw[if_neg (λz=>nd2.2.2 b z b m rfl)];exact d b (r_ _ m)
theorem mF{Γ:Fm}(h:Rp K H ((t,x)::Γ))(n:aT t=true):Rp K H ((t,x)::(t,x)::Γ):=by
 obtain⟨Hz,N,h,nd,g,d⟩:=h;cases h with
 | @cons _ _ L M _ _ e h c=>
  have hL:L=[]:=by
   rcases h with⟨_,rfl⟩|⟨v,_,h⟩
   ·rfl
   exact h.nil_of n
  subst hL;exact⟨Hz,N,.cons (L:=[]) (M:=N) rfl h (.cons e h c),nd,g,d⟩
theorem tG.view (g:Gr Hz H)(h:tG K Hz H t x L):tG K H H (er t) x []:=by
 rcases h with⟨rfl,rfl⟩|⟨v,rfl,h⟩
 ·exact .inl ⟨rfl,rfl⟩
 exact .inr ⟨v,rfl,h.frz g λ_ _=>rfl⟩
theorem RepL.view (g:Gr Hz H):∀{Γ:Fm}{L:List Rt},RepL K Hz H Γ L->RepL K H H (Γ.map λp=>(er p.1,p.2)) []:=by
 intro Γ L x;induction x with
 |nil=>exact .nil
 |cons e h c ih=>exact .cons rfl (h.view g) ih
theorem v7{Γ:Fm}(h:Rp K H Γ):Rp K H ((Γ.map λp=>(er p.1,p.2))++[(.kp H,some .non)]):=by obtain⟨Hz,N,h,nd,g,d⟩:=h;refine⟨H,[]++[],(h.view g).app (.cons rfl (.inr ⟨_,rfl,.kp .iW⟩) .nil),Qn,.iW,λb m=>by cases m⟩
noncomputable def over(H H':Hp):Hp:=λb=>match H b with
 |some u=>some u
 |none=>H' b
theorem kY{b:Rt}{u:HO}(e:H b=some u):over H H' b=some u:=by unfold over;rw[e]
theorem qd{b:Rt}(e:H b=none):over H H' b=H' b:=by unfold over;rw[e]
theorem B3(H H':Hp):gB H (over H H'):=λb u e=>kY e
theorem uV(g:Gr H H'){b:Rt}:over H H' b=H' b\/∃o u,H' b=some (.frz o u)/\over H H' b=some u:=by
 cases q:H b with
 |none=>exact .inl (qd q)
 |some u=>
  rw[kY q];rcases g b u (.inl q)with r|⟨o,r⟩
  ·exact .inl r.symm
  exact .inr ⟨o,u,r,rfl⟩
theorem yj(g:Gr H H'){b:Rt}(r:H' b=some (.tup xs)):over H H' b=some (.tup xs):=by
 rcases uV g (b:=b)with e|⟨o,u,e,_⟩
 ·rw[e];exact r
 rw[r]at e;cases e
theorem v5{Γ Δ:Fm}(h:Rp K H Γ)(q:Rp K H' ((t,x)::(Δ++[(.kp H,some .non)])))(n:dO t=true):Gr H H'/\Rp K (over H H') ((t,x)::Γ):=by
 obtain⟨Hy,N',q,nd',g',d'⟩:=q;cases q with
 | @cons _ _ L M _ _ e h1 c=>
  have hkp:Gr H Hy:=by
   obtain⟨_,_,_,_,c2⟩:=c.split;cases c2 with
   |cons _ h2 _=>
    rcases h2 with⟨z,_⟩|⟨_,_,h2⟩
    ·cases z
    cases h2 with
    |kp z=>exact z
  have gr:=hkp.trans g';refine⟨gr,?_⟩;subst e;have nd2:=Oh.mp nd';have hL:∀b∈L,H b=none:=λb m=>hkp.none (d' b (G' _ m));obtain⟨Hz,N,h,nd,g,d⟩:=h;have so:=B3 H H';have tk:TK H' (over H H'):=λb xs r=>yj gr r;have h1':tG K Hz (over H H') t x L:=by
   rcases h1 with⟨rfl,rfl⟩|⟨v,rfl,h1⟩
   ·exact .inl ⟨rfl,rfl⟩
   refine .inr ⟨v,rfl,h1.Mw tk n λb m u e=>?_⟩;have eo:=qd (H':=H') (hL b m);exact⟨eo.trans e,λnt xs r=>nt xs (by rw[<-eo];exact r)⟩
  refine⟨Hz,L++N,.cons rfl h1' (h.move (gB.tk so) .iW λb m u e=>ny so b u e),?_,g.trans (.of so),?_⟩
  ·rw[Oh];refine⟨nd2.1,nd,λb m b' m' z=>?_⟩;subst z;obtain⟨⟨u,e⟩,_⟩:=h.there b m';rw[hL b m]at e;cases e
  intro b m;rcases B_.mp m with m|m
  ·exact g.none (hL b m)
  exact d b m
theorem se:∀{ts:List T}{vs:List V}{i:Nat}{t:T},ts.length=vs.length->ts[i]?=some t->∃w,vs[i]?=some w
 |ts,vs,i,t,l,e=>by have h:i<ts.length:=(c_.mp e).1;exact⟨vs[i]'(by omega),d_ (by omega)⟩
theorem sk{α:Type}:∀{l:List α}{i:Nat}{x y:α},l[i]?=some y->(l.set i x).set i y=l
 | [],i,x,y,e=>by simp at e
 |a::l,0,x,y,e=>by simp at e;subst e;rfl
 |a::l,i+1,x,y,e=>by simp only[NF]at e;rw[Ph,Ph,sk e]
end
theorem qY{α β:Type}:∀{l:List α}{m:List β}{i:Nat}{a:α}{b:β} (t:α) (y:β),l[i]?=some a->m[i]?=some b->((a,b)::(l.set i t).zip (m.set i y)).Perm ((t,y)::l.zip m)
 | [],m,i,a,b,t,y,h,_=>by simp at h
 |x::l,[],i,a,b,t,y,_,h=>by simp at h
 |x::l,z::m,0,a,b,t,y,h,g=>by simp only[N4,Oe]at h g;subst h;subst g;exact .swap _ _ _
 |x::l,z::m,i+1,a,b,t,y,h,g=>by simp only[NF]at h g;have p:=qY t y h g;show Qe ((a,b)::(x,z)::(l.set i t).zip (m.set i y)) ((t,y)::(x,z)::l.zip m);exact(NT _ _ _).trans ((p.cons _).trans (.swap _ _ _))
variable {i:Nat}
theorem set_same{l:List α}{x:α}(h:l[i]?=some x):l.set i x=l:=by have:=sk (x:=x) h;rw[OJ]at this;exact this
variable {Fr Γ:Fm}{env:Ev}{σ:St}
section
variable{K:Rr}
def Rs(K:Rr)(H:Hp)(env:Ev)(σ:St)(Fr:Fm):Prop:=env.length=σ.length/\Rp K H (env.zip σ++Fr)
theorem m8(h:Rp K H Γ):Rp K H ((.any,x)::Γ):=by obtain⟨Hz,N,h,nd,g,d⟩:=h;exact⟨Hz,N,.cons (L:=[]) rfl (.inl ⟨rfl,rfl⟩) h,nd,g,d⟩
theorem Rs.perm {Gr:Fm}(h:Rs K H env σ Fr)(p:Fr.Perm Gr):Rs K H env σ Gr:=⟨h.1,h.2.perm (p.append_left _)⟩
theorem Rs.drop {x:T×Option V}(h:Rs K H env σ (x::Fr)):Rs K H env σ Fr:=⟨h.1,(h.2.perm f_).tail⟩
theorem Rs.head {x:T×Option V}(h:Rs K H env σ (x::Fr)):Rp K H (x::(env.zip σ++Fr)):=h.2.perm f_
theorem Rs.of {x:T×Option V}(l:env.length=σ.length)(h:Rp K H (x::(env.zip σ++Fr))):Rs K H env σ (x::Fr):=⟨l,h.perm f_.symm⟩
theorem Rs.chg {Δ Δ':Fm}(h:Rs K H env σ (Δ++Fr))(f:∀ Γ,Rp K H (Δ++Γ)->Rp K H' (Δ'++Γ)):Rs K H' env σ (Δ'++Fr):=by
 refine⟨h.1,?_⟩;have p:∀A:Fm,(A++(env.zip σ++Fr)).Perm (env.zip σ++(A++Fr)):=λA=>by rw[<-gV,<-gV];exact Na.append_right _
 exact(f _ (h.2.perm (p Δ).symm)).perm (p Δ')
theorem Rs.slot (h:Rs K H env σ Fr)(e:env[i]?=some t):∃x,σ[i]?=some x/\Rs K H (env.set i .any) σ ((t,x)::Fr):=by
 have hi:i<env.length:=(c_.mp e).1;have hs:i<σ.length:=by rw[<-h.1];exact hi
 have ex:σ[i]?=some σ[i]:=d_ hs;refine⟨σ[i],ex,by rw[K_];exact h.1,?_⟩;have p:=qY (T.any) σ[i] e ex;rw[set_same ex]at p;refine(m8 (x:=σ[i]) h.2).perm ?_;refine t_ ?_ f_.symm;exact(p.symm.append_right Fr)
theorem Rs.nQ (h:Rs K H env σ ((t,x)::Fr))(hi:i<env.length)(ex:σ[i]?=some x):Rs K H (env.set i t) σ Fr:=by have e:env[i]?=some env[i]:=d_ hi;refine⟨by rw[K_];exact h.1,?_⟩;have p:=qY t x e ex;rw[set_same ex]at p;refine Rp.tail (x:=(env[i],x)) (h.2.perm ?_);refine f_.trans ?_;exact(p.symm.append_right Fr)
theorem Rs.store (h:Rs K H env σ ((t,some v)::Fr))(hi:i<env.length):Rs K H (env.set i t) (σ.set i (some v)) Fr:=by
 have e:env[i]?=some env[i]:=d_ hi;have hs:i<σ.length:=by rw[<-h.1];exact hi
 have ex:σ[i]?=some σ[i]:=d_ hs;refine⟨by rw[K_,K_];exact h.1,?_⟩;have p:=qY t (some v) e ex;refine Rp.tail (x:=(env[i],σ[i])) (h.2.perm ?_);refine f_.trans ?_;exact(p.symm.append_right Fr)
end
variable {X:Cx}{ad:List (Rt×Obj)}{s:Ru}
theorem rV{cr:St}{s':Ru}(I:Inv X ad σ H s)(J:Inv X ad cr H' s')(g:Gr H H'):Inv X ad cr (over H H') s':=by
 have nn:∀b,H' b=none->over H H' b=none:=λb e=>by rw[qd (g.none e)];exact e
 refine⟨J.ok,J.os,J.bare,⟨J.base.keep,J.base.slot,?_,J.base.there,?_,?_,?_⟩,J.loc,J.cell,nn _ J.free,λx c e=>nn _ (J.freeC x c e),λp hp=>?_,?_,J.len⟩
 ·exact λb o e1 e2 e3=>nn _ (J.base.free b o e1 e2 e3)
 ·exact λb xs e=>kY (I.base.tups b xs e)
 ·exact λb o u e=>kY (I.base.frzs b o u e)
 ·exact λb ps e=>by obtain⟨m,em⟩:=I.base.tbls b ps e;exact⟨m,kY em⟩
 ·obtain⟨h1,h2,h3⟩:=J.pin p hp;exact⟨h1,nn _ h2,h3⟩
 intro b u e;have ho:∀c y,H' c=some (.own y)->over H H' c=some (.own y):=λc y q=>by
  rcases uV g (b:=c)with z|⟨o,w,z,_⟩
  ·rw[z];exact q
  rw[q]at z;cases z
 have ht:∀c xs,H' c=some (.tup xs)->over H H' c=some (.tup xs):=λc xs q=>yj g q;have key:cV X.prog X.w H' s'.heap b u:=by
  rcases uV g (b:=b)with z|⟨o,w,z,zw⟩
  ·rw[z]at e;exact J.hok b u e
  rw[zw]at e;cases e;exact(J.hok b _ z).2
 exact key.pD (λc v _ q=>q) (λc=>ho c b) ht
variable {e:RI}
theorem FL{t:TE}(h:PE X e t):PE X e (λσ H Q=>t σ H λv H'=>Gr H H'/\Q v (over H H')):=λad s σ H Q I q=>
 thn (h ad s σ H _ I q) λu s' ⟨v,H',I',r,g,q'⟩=>⟨v,over H H',rV I I' g,r,q'⟩
theorem G6{t:TT}(h:PT X e t):PT X e (λσ H Q=>t σ H λb H'=>Gr H H'/\Q b (over H H')):=λad s σ H Q I q=>
 thn (h ad s σ H _ I q) λb s' ⟨H',I',g,q'⟩=>⟨over H H',rV I I' g,q'⟩
abbrev PF:=Ev->(T->Ev->Prop)->Prop
abbrev PB:=Ev->(Bool->Ev->Prop)->Prop
abbrev PFs:=Ev->(List T->Ev->Prop)->Prop
def wE(K:Rr)(f:PF):TE:=λσ H Q=>∃env Fr k,Rs K H env σ Fr/\f env k/\∀t bm v H',k t bm->Rs K H' bm σ ((t,some v)::Fr)->Q v H'
def wB(K:Rr)(f:PB):TT:=λσ H Q=>∃env Fr k,Rs K H env σ Fr/\f env k/\∀b bm H',k b bm->Rs K H' bm σ Fr->Q b H'
def wA(K:Rr)(f:PFs):TA:=λσ H Q=>∃env Fr k,Rs K H env σ Fr/\f env k/\∀ts bm vs H',k ts bm->ts.length=vs.length->Rs K H' bm σ (zz ts vs++Fr)->Q vs H'
def GE(X:Cx)(e:RI)(f:PF):Prop:=PE X e (wE X.K f)
def GT(X:Cx)(e:RI)(f:PB):Prop:=PT X e (wB X.K f)
def GW(X:Cx)(e:RI)(f:PB):Prop:=PW X e (wB X.K f)
def GA(X:Cx)(es:List RI)(f:PFs):Prop:=PA X es (wA X.K f)
theorem PE.imp {t t':TE}(h:PE X e t)(k:∀ σ H Q,t' σ H Q->t σ H Q):PE X e t':=λad s σ H Q I q=>h ad s σ H Q I (k _ _ _ q)
theorem PT.imp {t t':TT}(h:PT X e t)(k:∀ σ H Q,t' σ H Q->t σ H Q):PT X e t':=λad s σ H Q I q=>h ad s σ H Q I (k _ _ _ q)
theorem PW.imp {t t':TT}(h:PW X e t)(k:∀ σ H Q,t' σ H Q->t σ H Q):PW X e t':=λwh ad s σ H Q I q=>h wh ad s σ H Q I (k _ _ _ q)
variable {es:List RI}
theorem PA.imp {t t':TA}(h:PA X es t)(k:∀ σ H Q,t' σ H Q->t σ H Q):PA X es t':=λpos ad s σ H Q I q=>h pos ad s σ H Q I (k _ _ _ q)
def fQ(f:PF):PF:=λenv k=>f (erL env) λt _=>dO t=true/\k t env
def fQT(f:PB):PB:=λenv k=>f (erL env) λb _=>k b env
theorem qV:∀(env:Ev) (σ:St),(env.zip σ).map (λp=>(er p.1,p.2))=(erL env).zip σ
 | [],σ=>by simp[erL]
 |t::env,[]=>by simp
 |t::env,x::σ=>by rw[erL,Pg,e_,Pg,qV env σ]
theorem aD{X:Cx}{e:RI}{f:PF}(h:GE X e f):GE X e (fQ f):=by
 refine PE.imp (FL h) ?_;rintro σ H Q ⟨env,Fr,k,rs,q,c⟩;have rv:Rs X.K H (erL env) σ ((Fr.map λp=>(er p.1,p.2))++[(.kp H,some .non)]):=by refine⟨by rw[jc];exact rs.1,?_⟩;have:=v7 rs.2;rw[l_,qV,gV]at this;exact this
 refine⟨erL env,_,_,rv,q,?_⟩;rintro t bm v H' ⟨n,kt⟩ rs';obtain⟨g,r2⟩:=v5 rs.2 (Δ:=bm.zip σ++(Fr.map λp=>(er p.1,p.2))) (by rw[gV];exact rs'.head) n;exact⟨g,c t env v _ kt (.of rs.1 r2)⟩
variable {K:Rr}
theorem EB{Δ:Fm}(h:Rp K H Γ)(q:Rp K H' (Δ++[(.kp H,some .non)])):Gr H H'/\Rp K (over H H') Γ:=by obtain⟨g,r⟩:=v5 (t:=.any) (x:=none) h (m8 q) rfl;exact⟨g,r.tail⟩
theorem jh{f:PB}(h:GT X e f):GT X e (fQT f):=by
 refine PT.imp (G6 h) ?_;rintro σ H Q ⟨env,Fr,k,rs,q,c⟩;have rv:Rs X.K H (erL env) σ ((Fr.map λp=>(er p.1,p.2))++[(.kp H,some .non)]):=by refine⟨by rw[jc];exact rs.1,?_⟩;have:=v7 rs.2;rw[l_,qV,gV]at this;exact this
 refine⟨erL env,_,_,rv,q,?_⟩;rintro b bm H' kt rs';obtain⟨g,r2⟩:=EB rs.2 (Δ:=bm.zip σ++(Fr.map λp=>(er p.1,p.2))) (by rw[gV];exact rs'.2);exact⟨g,c b env _ kt ⟨rs.1,r2⟩⟩
noncomputable def fK(t:T):PF:=λenv k=>k t env
variable {b:Bool}{j:Nat}
section
variable{X:Cx}{pos:Pos}
theorem kN(h:Rs K H env σ Fr)(r:∀Hz,RepT K Hz H t v []):Rs K H env σ ((t,some v)::Fr):=by refine .of h.1 ?_;obtain⟨Hz,N,q,nd,g,d⟩:=h.2;exact⟨Hz,N,.cons (L:=[]) rfl (.inr ⟨v,rfl,r Hz⟩) q,nd,g,d⟩
theorem ge_int{i:Int}{j:Nat}:GE X (.Constant (.int i) j pos) (fK (.int i)):=PE.imp iF (by rintro σ H Q ⟨env,Fr,k,rs,q,c⟩;exact c _ _ _ _ q (kN rs λ_=>.int))
theorem jf:GE X (.Constant (.bool b) j pos) (fK (.bl b)):=PE.imp KA (by rintro σ H Q ⟨env,Fr,k,rs,q,c⟩;exact c _ _ _ _ q (kN rs λ_=>.bl))
theorem lA:GE X (.Constant .none j pos) (fK .non):=PE.imp Jq (by rintro σ H Q ⟨env,Fr,k,rs,q,c⟩;exact c _ _ _ _ q (kN rs λ_=>.non))
theorem Gi{x:Str}{u:Rq}(hg:Gl X x)(hm:X.mg x=some u)(r:RelV v u)(ht:∀Hz H,RepT X.K Hz H t v [])(hd:(x ==("__debug__":Str))=false:=by decide):GE X (.Name x pos) (fK t):=
 PE.imp (GL hg hm r hd) λσ H Q ⟨env,Fr,k,rs,q,c⟩=>c _ _ _ _ q (kN rs λHz=>ht Hz H)
noncomputable def isAny:T->Bool
 | .any=>true
 | _=>false
def Hl(i:Nat):PF:=λenv k=>match env[i]? with
 |some t=>isAny t=false/\aT t=true/\k t env
 |none=>False
def fFz(i:Nat):PF:=λenv k=>match env[i]? with
 |some t=>isAny t=false/\k (er t) (env.set i (er t))
 |none=>False
def fMv(i:Nat):PF:=λenv k=>match env[i]? with
 |some t=>isAny t=false/\k t (env.set i .any)
 |none=>False
theorem jw(h:Rs K H env σ ((t,x)::Fr))(n:isAny t=false):∃v,x=some v:=by
 obtain⟨Hz,N,q,_⟩:=h.head;cases q with
 |cons e h c=>
  rcases h with⟨rfl,_⟩|⟨v,e,_⟩
  ·cases n
  exact⟨v,e⟩
theorem af(i:Nat){x:Str}(hN:X.N[i]?=some x:=by rfl)(hv:Vis X.env.scope x:=by first|exact bt rfl|exact i' (bt rfl)|exact i' (i' rfl))(hd:(x ==("__debug__":Str))=false:=by decide)(hcd:(x ==("__classdict__":Str))=false:=by decide):GE X (.Name x pos) (Hl i):=by
 refine PE.imp (kL hN hv hd hcd) ?_;rintro σ H Q ⟨env,Fr,k,rs,q,c⟩;unfold Hl at q;split at q
 ·rename_i t e;obtain⟨na,no,q⟩:=q;obtain⟨y,ey,rs2⟩:=rs.slot e;obtain⟨v,rfl⟩:=jw rs2 na;refine⟨v,ey,c _ _ _ _ q ?_⟩;have hi:i<env.length:=(c_.mp e).1;have r3:Rs X.K H (env.set i .any) σ ((t,some v)::(t,some v)::Fr):=.of rs2.1 ((mF rs2.head no).perm (by refine Pe _ ?_;exact f_.symm))
  have r4:=Rs.nQ (i:=i) r3 (by rw[K_];exact hi) ey;rw[sk e]at r4;exact r4
 exact q.elim
theorem cR(i:Nat){x:Str}(hN:X.N[i]?=some x:=by rfl)(hv:Vis X.env.scope x:=by first|exact bt rfl|exact i' (bt rfl)|exact i' (i' rfl))(hd:(x ==("__debug__":Str))=false:=by decide)(hcd:(x ==("__classdict__":Str))=false:=by decide):GE X (.Name x pos) (fFz i):=by
 refine PE.imp (kL hN hv hd hcd) ?_;rintro σ H Q ⟨env,Fr,k,rs,q,c⟩;unfold fFz at q;split at q
 ·rename_i t e;obtain⟨na,q⟩:=q;obtain⟨y,ey,rs2⟩:=rs.slot e;obtain⟨v,rfl⟩:=jw rs2 na;refine⟨v,ey,c _ _ _ _ q ?_⟩;have hi:i<env.length:=(c_.mp e).1;have no:aT (er t)=true:=aK t;have r3:Rs X.K H (env.set i .any) σ ((er t,some v)::(er t,some v)::Fr):=.of rs2.1 ((mF (mG rs2.head) no).perm (by refine Pe _ ?_;exact f_.symm))
  have r4:=Rs.nQ (i:=i) r3 (by rw[K_];exact hi) ey;rw[OJ]at r4;exact r4
 exact q.elim
theorem lR(i:Nat){x:Str}(hN:X.N[i]?=some x:=by rfl)(hv:Vis X.env.scope x:=by first|exact bt rfl|exact i' (bt rfl)|exact i' (i' rfl))(hd:(x ==("__debug__":Str))=false:=by decide)(hcd:(x ==("__classdict__":Str))=false:=by decide):GE X (.Name x pos) (fMv i):=by
 refine PE.imp (kL hN hv hd hcd) ?_;rintro σ H Q ⟨env,Fr,k,rs,q,c⟩;unfold fMv at q;split at q
 ·rename_i t e;obtain⟨na,q⟩:=q;obtain⟨y,ey,rs2⟩:=rs.slot e;obtain⟨v,rfl⟩:=jw rs2 na;exact⟨v,ey,c _ _ _ _ q rs2⟩
 exact q.elim
end
variable {y:V}
section
variable{K:Rr}{H:Hp}{Γ:Fm}
theorem kK(h:Rp K H ((t,some y)::Γ))(n:isAny t=false):∃Hz L,RepT K Hz H t y L/\Gr Hz H:=by
 obtain⟨Hz,N,h,nd,g,d⟩:=h;cases h with
 |cons e h c=>
  rcases h with⟨rfl,_⟩|⟨v,e2,h⟩
  ·cases n
  cases e2;exact⟨Hz,_,h,g⟩
theorem b6{i:Int}(h:Rp K H ((.int i,some y)::Γ)):y=.int i:=by obtain⟨_,_,r,_⟩:=kK h rfl;cases r;rfl
theorem jU{i:Bool}(h:Rp K H ((.bl i,some y)::Γ)):y=.bl i:=by obtain⟨_,_,r,_⟩:=kK h rfl;cases r;rfl
theorem kZ{i:Str}(h:Rp K H ((.str i,some y)::Γ)):y=.str i:=by obtain⟨_,_,r,_⟩:=kK h rfl;cases r;rfl
theorem vm(h:Rp K H ((.non,some y)::Γ)):y=.non:=by obtain⟨_,_,r,_⟩:=kK h rfl;cases r;rfl
theorem dH(h:Rp K H Γ)(r:∀Hz,RepT K Hz H t v []):Rp K H ((t,some v)::Γ):=by obtain⟨Hz,N,q,nd,g,d⟩:=h;exact⟨Hz,N,.cons (L:=[]) rfl (.inr ⟨v,rfl,r Hz⟩) q,nd,g,d⟩
noncomputable def items:T->Option (List T)
 | .tup ts=>some ts
 | .cst ts=>some ts
 | .lst _ ts=>some ts
 | _=>none
noncomputable def lJ:T->Bool
 | .tup _=>true
 | .cst _=>true
 | _=>false
theorem AO(h:SqT K (λ_=>none) a vs)(H:Hp):SqT K H a vs:=by
 rcases h with (h|⟨_,h⟩)|h
 ·cases h
 ·cases h
 exact .inr h
theorem aG(e:items t=some ts)(h:Rp K H ((t,some y)::Γ)):∃a vs,y=.ref a/\SqG (lJ t) K H a vs/\ts.length=vs.length/\Rp K H (zz ts vs++Γ):=by
 obtain⟨Hz,N,h,nd,g,d⟩:=h;cases h with
 |cons e1 h c=>
  rcases h with⟨rfl,_⟩|⟨v,e2,h⟩
  ·cases e
  cases e2;cases h <;> cases e
  ·rename_i a vs h c1;exact⟨a,vs,rfl,SqT.of h,c1.len,Hz,_,c1.toL.app c,by rw[<-e1];exact nd,g,λb m=>d b (by rw[e1];exact m)⟩
  ·rename_i a vs h c1;exact⟨a,vs,rfl,AO h H,c1.len,Hz,_,c1.toL.app c,by rw[<-e1];exact nd,g,λb m=>d b (by rw[e1];exact m)⟩
  ·rename_i a vs L h c1;rw[e1,MV,J_]at nd;exact⟨a,vs,rfl,SqL.of h,c1.len,Hz,_,c1.toL.app c,nd.2,g,λb m=>d b (by rw[e1,MV];exact q_ _ m)⟩
  rename_i a vs h c1;exact⟨a,vs,rfl,.inl (g _ _ h),c1.len,Hz,_,c1.toL.app c,by rw[<-e1];exact nd,g,λb m=>d b (by rw[e1];exact m)⟩
theorem wb:∀{ts:List T}{vs:List V}{i:Nat}{t:T}{w:V},ts[i]?=some t->vs[i]?=some w->∃r,(zz ts vs).Perm ((t,some w)::r)
 | [],vs,i,t,w,e,f=>by simp at e
 |t::ts,[],i,_,w,e,f=>by simp at f
 |t::ts,v::vs,0,u,w,e,f=>by simp only[N4,Oe]at e f;subst e;subst f;exact⟨_,.refl _⟩
 |t::ts,v::vs,i+1,u,w,e,f=>by simp only[NF]at e f;obtain⟨r,h⟩:=wb (ts:=ts) (vs:=vs) e f;exact⟨(t,some v)::r,(h.cons _).trans (.swap _ _ _)⟩
theorem lE{w:V}(h:Rp K H (zz ts vs++Γ))(e:ts[i]?=some t)(f:vs[i]?=some w):Rp K H ((t,some w)::Γ):=by obtain⟨r,p⟩:=wb e f;refine Rp.part (Γ:=r) (h.perm ?_);refine(p.append_right Γ).trans ?_;exact f_.symm
theorem CC{i:Int}(l:ts.length=vs.length)(e:atI ts i=some t)(h:Rp K H (zz ts vs++Γ)):∃w,atI vs i=some w/\Rp K H ((t,some w)::Γ):=by
 unfold atI at e ⊢;rw[l]at e;cases q:ixN vs.length i with
 |none=>rw[q]at e;cases e
 |some j=>
  rw[q]at e;have e:ts[j]?=some t:=e;obtain⟨w,f⟩:=se l e;exact⟨w,f,lE h e f⟩
end
noncomputable def got(o:Option α)(k:α->Prop):Prop:=match o with
 |some u=>k u
 |none=>False
theorem Kc{o:Option α}{u:α}{k:α->Prop}(e:o=some u)(h:k u):got o k:=by rw[e];exact h
theorem aJ{o:Option α}{k:α->Prop}(h:got o k):∃u,o=some u/\k u:=by
 cases o with
 |none=>exact h.elim
 |some u=>exact⟨u,rfl,h⟩
noncomputable def cnd(b:Bool)(A B:Prop):Prop:=(b=true->A)/\(b=false->B)
theorem Hs{A B:Prop}(h:A):cnd true A B:=⟨λ_=>h,λe=>by cases e⟩
theorem Ia{A B:Prop}(h:B):cnd false A B:=⟨λe=>(by cases e),λ_=>h⟩
theorem lD{A B:Prop}(h:cnd b A B):if b=true then A else B:=by
 cases b with
 |true=>rw[if_pos rfl];exact h.1 rfl
 |false=>rw[if_neg (by decide)];exact h.2 rfl
abbrev P2:=T->T->(T->Prop)->Prop
def w2(K:Rr)(g:P2):R2:=λx y H Q=>∃tx ty Γ k,Rp K H ((ty,some y)::(tx,some x)::Γ)/\g tx ty k/\∀t v H',k t->Rp K H' ((t,some v)::Γ)->Q v H'
def OpP(X:Cx)(f:Rq->Rq->Sem Rq)(g:P2):Prop:=OpR X f (w2 X.K g)
variable {f:Rq->Rq->Sem Rq}
theorem OpP.of {g:P2}{r:R2}(h:OpR X f r)(k:∀tx ty x y H Γ (k:T->Prop) (Q:VK),Rp X.K H ((ty,some y)::(tx,some x)::Γ)->g tx ty k->(∀t v H',k t->Rp X.K H' ((t,some v)::Γ)->Q v H')->r x y H Q):OpP X f g:=
 λad s σ H x y v u Q I rx ry ⟨tx,ty,Γ,kk,rp,g,c⟩=>h ad s σ H x y v u Q I rx ry (k tx ty x y H Γ kk Q rp g c)
noncomputable def Br(g:P2)(a b:PF):PF:=λenv k=>a env λx al=>b al λy bn=>g x y λt=>k t bn
variable {fa:PF}
theorem A4{g:P2}{fb:PF}:∀ σ H Q,wE X.K (Br g fa fb) σ H Q->tOp (w2 X.K g) (wE X.K fa) (wE X.K fb) σ H Q:=by rintro σ H Q ⟨env,Fr,k,rs,q,c⟩;refine⟨env,Fr,_,rs,q,λtx al x H1 q1 ge=>⟨al,_,_,ge,q1,λty bn y H2 q2 rs2=>?_⟩⟩;refine⟨tx,ty,bn.zip σ++Fr,_,?_,q2,λt v H' kt rp=>c _ _ _ _ kt (.of rs2.1 rp)⟩;exact rs2.head.perm (.cons _ f_)
variable {g':P2}{op:Vt}
section
variable{X:Cx}{a b c d:RI}{fa fb fc fd:PF}{pos:Pos}
theorem aj{op:Operator}{g:P2}(ho:OpP X (Ss op) g)(ha:GE X a fa)(hb:GE X b fb):GE X (.BinOp a op b pos) (Br g fa fb):=PE.imp (jd ho ha hb) A4
theorem iR{op:Vt}{g:P2}(ho:OpP X (RT op) g)(ha:GE X a fa)(hb:GE X b fb)(hm:Tw op b=false):GE X (.Compare a [op] [b] pos) (Br g fa fb):=PE.imp (GD ho ha hb hm) A4
noncomputable def GV(f:PF):PB:=λenv k=>f env λt bm=>match t with
 | .bl b=>k b bm
 | _=>False
theorem Eu{f:PF}:∀ σ H Q,wB K (GV f) σ H Q->El (wE K f) σ H Q:=by
 rintro σ H Q ⟨env,Fr,k,rs,q,c⟩;refine⟨env,Fr,_,rs,q,λt bm v H' q1 ge=>?_⟩;cases t <;> first|exact q1.elim|skip
 rename_i b;exact⟨b,jU ge.head,c _ _ _ q1 ge.drop⟩
theorem br{g:P2}(ho:OpP X (RT op) g)(ha:GE X a fa)(hb:GE X b fb)(hm:Tw op b=false):GT X (.Compare a [op] [b] pos) (GV (Br g fa fb)):=by refine PT.imp (vP ho ha hb hm) λσ H Q h=>?_;obtain⟨env,Fr,k,rs,q,c⟩:=Eu σ H Q h;exact A4 σ H _ ⟨env,Fr,k,rs,q,c⟩
def wa(g g':P2)(fa fb fc:PF):PF:=λenv k=>fa env λx al=>fb al λy bn=>aT y=true/\g x y λz=>match z with
 | .bl b=>cnd b (fc bn λu cl=>g' y u λt=>k t cl) (k (.bl false) bn)
 | _=>False
theorem xM{X:Cx}{g:P2}{fa fb fc:PF}:∀ σ H Q,wE X.K (wa g g' fa fb fc) σ H Q->zk (w2 X.K g) (w2 X.K g') (wE X.K fa) (wE X.K fb) (wE X.K fc) σ H Q:=by
 rintro σ H Q ⟨env,Fr,k,rs,q,c⟩;refine⟨env,Fr,_,rs,q,λtx al x H1 q1 ge=>⟨al,_,_,ge,q1,λty bn y H2 ⟨no,q2⟩ rs2=>?_⟩⟩;have rd:=mF rs2.head no;refine⟨tx,ty,(ty,some y)::(bn.zip σ++Fr),_,?_,q2,λt v H' kt rp=>?_⟩
 ·refine rd.perm (.cons _ ?_);refine t_ (.cons _ f_) (.swap _ _ _)
 cases t <;> first|exact kt.elim|skip
 rename_i bb;refine⟨bb,jU rp,lD ⟨λhb=>?_,λhb=>?_⟩⟩
 ·refine⟨bn,(ty,some y)::Fr,_,.of rs2.1 rp.tail,kt.1 hb,λtu cl u H3 q3 rs3=>?_⟩;refine⟨ty,tu,cl.zip σ++Fr,_,?_,q3,λt v H' kt rp=>c _ _ _ _ kt (.of rs3.1 rp)⟩;exact rs3.head.perm (.cons _ f_)
 exact c _ _ _ _ (kt.2 hb) (kN ⟨rs2.1,rp.tail.tail⟩ λ_=>.bl)
theorem oN{op':Vt}{g:P2}(ho:OpP X (RT op) g)(ho':OpP X (RT op') g')(ha:GE X a fa)(hb:GE X b fb)(hc:GE X c fc)(hm:Wg [op,op'] [b,c]=false:=by with_unfolding_all rfl) :
  GE X (.Compare a [op,op'] [b,c] pos) (wa g g' fa fb fc):=PE.imp (EX ho ho' ha hb hc hm) xM
theorem CU{op':Vt}{g:P2}(ho:OpP X (RT op) g)(ho':OpP X (RT op') g')(ha:GE X a fa)(hb:GE X b fb)(hc:GE X c fc)(hm:Wg [op,op'] [b,c]=false:=by with_unfolding_all rfl) :
  GT X (.Compare a [op,op'] [b,c] pos) (GV (wa g g' fa fb fc)):=by
 refine PT.imp (DW ho ho' ha hb hc hm) λσ H Q h=>?_;obtain⟨env,Fr,k,rs,q,c⟩:=Eu σ H Q h;exact xM σ H _ ⟨env,Fr,k,rs,q,c⟩
noncomputable def IH:T->(Bool->Prop)->Prop
 | .non,k=>k false
 | .bl b,k=>k b
 | .int i,k=>k (i != 0)
 | .str x,k=>x.length<=sizeLine/\k ((x.length:Int) != 0)
 | .tup ts,k=>k (!ts.isEmpty)
 | .cst ts,k=>k (!ts.isEmpty)
 | .lst _ ts,k=>k (!ts.isEmpty)
 | _,_=>False
def KL(f:PF):PB:=λenv k=>f env λt bm=>IH t λb=>k b bm
theorem xZ{β:Type}{l:List α}{m:List β}(h:l.length=m.length):l.isEmpty=m.isEmpty:=by cases l <;> cases m <;> first|rfl|simp at h
theorem pQ(ha:GE X a fa)(he:∀whole,We a X.env whole=(do let v <-whole;W' a.pos;Uy [v] (truthy v)):=by intro _;rfl):GT X a (KL fa):=by
 refine PT.imp (EN ha he) ?_;rintro σ H Q ⟨env,Fr,k,rs,q,c⟩;refine⟨env,Fr,_,rs,q,λt bm v H' q1 ge=>?_⟩;have fin:∀b,k b bm->Q b H':=λb kb=>c _ _ _ kb ge.drop;have sq:∀ts b,items t=some ts->b=(!ts.isEmpty)->k b bm->∃b,JA X.K v H' b/\Q b H':=λts b e eb kb=>by
  obtain⟨a,vs,rfl,hq,l,_⟩:=aG e ge.head;refine⟨b,?_,fin b kb⟩;rw[xZ l]at eb;revert hq;cases lJ t with
  |true=>exact λhq=>.inr (.inl ⟨vs,hq,eb⟩)
  |false=>exact λhq=>.inl ⟨vs,hq,eb⟩
 cases t with
 |non=>rw[vm ge.head];exact⟨_,rfl,fin _ q1⟩
 |bl b=>rw[jU ge.head];exact⟨_,rfl,fin _ q1⟩
 |int i=>rw[b6 ge.head];exact⟨_,rfl,fin _ q1⟩
 |str x=>rw[kZ ge.head];exact⟨_,⟨q1.1,rfl⟩,fin _ q1.2⟩
 |tup ts=>exact sq _ _ rfl rfl q1
 |cst ts=>exact sq _ _ rfl rfl q1
 |lst o ts=>exact sq _ _ rfl rfl q1
 | _=>exact q1.elim
def HF(ta tb:PB):PB:=λenv k=>ta env λb al=>cnd b (tb al k) (k false al)
def Kw(ta tb:PB):PB:=λenv k=>ta env λb al=>cnd b (k true al) (tb al k)
noncomputable def HK(ta:PB):PB:=λenv k=>ta env λb al=>k (!b) al
variable{ta tb:PB}{rest:List RI}
theorem Ar(ha:GT X a ta):GW X (.BoolOp .And [a] pos) ta:=FE ha
theorem yo(ha:GT X a ta):GW X (.BoolOp .Or [a] pos) ta:=JM ha
theorem EM(ha:GT X a ta)(hb:GW X (.BoolOp .And (b::rest) pos) tb):GW X (.BoolOp .And (a::b::rest) pos) (HF ta tb):=by
 refine PW.imp (Ja ha hb) ?_;rintro σ H Q ⟨env,Fr,k,rs,q,c⟩;refine⟨env,Fr,_,rs,q,λb bm H' q1 ge=>lD ⟨λe=>?_,λe=>?_⟩⟩
 ·exact⟨bm,Fr,k,ge,q1.1 e,c⟩
 exact c _ _ _ (q1.2 e) ge
theorem Dc(ha:GT X a ta)(hb:GW X (.BoolOp .Or (b::rest) pos) tb):GW X (.BoolOp .Or (a::b::rest) pos) (Kw ta tb):=by
 refine PW.imp (Lu ha hb) ?_;rintro σ H Q ⟨env,Fr,k,rs,q,c⟩;refine⟨env,Fr,_,rs,q,λb bm H' q1 ge=>lD ⟨λe=>?_,λe=>?_⟩⟩
 ·exact c _ _ _ (q1.1 e) ge
 exact⟨bm,Fr,k,ge,q1.2 e,c⟩
theorem Cs{f:PB}(h:GW X a f):GT X a f:=PW.pt h
theorem DE(ha:GT X a ta):GT X (.UnaryOp .Not a pos) (HK ta):=by refine PT.imp (Ke ha) ?_;rintro σ H Q ⟨env,Fr,k,rs,q,c⟩;exact⟨env,Fr,_,rs,q,λb bm H' q1 ge=>c _ _ _ q1 ge⟩
def Kj(fa fb:PF):PF:=λenv k=>fa env λt al=>match t with
 | .bl b=>cnd b (fb al k) (k (.bl false) al)
 | _=>False
def fOr(fa fb:PF):PF:=λenv k=>fa env λt al=>match t with
 | .bl b=>cnd b (k (.bl true) al) (fb al k)
 | _=>False
noncomputable def LA(fa:PF):PF:=λenv k=>fa env λt al=>match t with
 | .bl b=>k (.bl (!b)) al
 | _=>False
theorem pH{op}(h:GE X a fa):GE X (.BoolOp op [a] pos) fa:=Jy h
theorem kg(ha:GE X a fa)(hb:GE X (.BoolOp .And (b::rest) pos) fb):GE X (.BoolOp .And (a::b::rest) pos) (Kj fa fb):=by
 refine PE.imp (Kb ha hb) ?_;rintro σ H Q ⟨env,Fr,k,rs,q,c⟩;refine⟨env,Fr,_,rs,q,λt bm v H' q1 ge=>?_⟩;cases t <;> first|exact q1.elim|skip
 rename_i bb;refine⟨bb,jU ge.head,lD ⟨λe=>?_,λe=>?_⟩⟩
 ·exact⟨bm,Fr,k,ge.drop,q1.1 e,c⟩
 exact c _ _ _ _ (q1.2 e) (kN ge.drop λ_=>.bl)
theorem Dm(ha:GE X a fa)(hb:GE X (.BoolOp .Or (b::rest) pos) fb):GE X (.BoolOp .Or (a::b::rest) pos) (fOr fa fb):=by
 refine PE.imp (Km ha hb) ?_;rintro σ H Q ⟨env,Fr,k,rs,q,c⟩;refine⟨env,Fr,_,rs,q,λt bm v H' q1 ge=>?_⟩;cases t <;> first|exact q1.elim|skip
 rename_i bb;refine⟨bb,jU ge.head,lD ⟨λe=>?_,λe=>?_⟩⟩
 ·exact c _ _ _ _ (q1.1 e) (kN ge.drop λ_=>.bl)
 exact⟨bm,Fr,k,ge.drop,q1.2 e,c⟩
theorem IC(ha:GE X a fa):GE X (.UnaryOp .Not a pos) (LA fa):=by
 refine PE.imp (Jk ha) ?_;rintro σ H Q ⟨env,Fr,k,rs,q,c⟩;refine⟨env,Fr,_,rs,q,λt bm v H' q1 ge=>?_⟩;cases t <;> first|exact q1.elim|skip
 rename_i bb;exact⟨bb,jU ge.head,c _ _ _ _ q1 (kN ge.drop λ_=>.bl)⟩
noncomputable def IS:PFs:=λenv k=>k [] env
noncomputable def HP(f:PF)(r:PFs):PFs:=λenv k=>f env λt al=>r al λts bn=>k (t::ts) bn
variable{es:List RI}{fr:PFs}
theorem ag:GA X [] IS:=PA.imp nL (by rintro σ H Q ⟨env,Fr,k,rs,q,c⟩;exact c [] env [] H q rfl rs)
theorem ae(ha:GE X a fa)(hr:GA X es fr)(hs:RN (a::es) X.env=(false,RY a X.env)::RN es X.env:=by rfl):GA X (a::es) (HP fa fr):=by refine PA.imp (kq ha hr hs) ?_;rintro σ H Q ⟨env,Fr,k,rs,q,c⟩;refine⟨env,Fr,_,rs,q,λt al v H1 q1 ge=>⟨al,_,_,ge,q1,λts bn vs H2 q2 l rs2=>c _ _ _ _ q2 (by rw[j_,j_,l]) ?_⟩⟩;exact rs2.perm f_
noncomputable def KW(fr:PFs):PF:=λenv k=>fr env λts al=>ts.length<=sizeLine/\k (.tup ts) al
noncomputable def LH(fr:PFs):PF:=λenv k=>fr env λts al=>ts.length<=sizeLine/\k (.lst true ts) al
theorem aB{x1}(h:GA X es fr):GE X (.Tuple es x1 pos) (KW fr):=by refine PE.imp (G9 h) ?_;rintro σ H Q ⟨env,Fr,k,rs,q,c⟩;refine⟨env,Fr,_,rs,q,λts al vs H1 ⟨z,q1⟩ l ge=>⟨by rw[<-l];exact z,λp H2 hp g e=>c _ _ _ _ q1 ?_⟩⟩;exact Rs.chg (Δ:=zz ts vs) (Δ':=[(.tup ts,some (.ref p))]) ge λΓ r=>kG r l g e
theorem aP(h:GA X es fr):GE X (.List es pos) (LH fr):=by refine PE.imp (FU h) ?_;rintro σ H Q ⟨env,Fr,k,rs,q,c⟩;refine⟨env,Fr,_,rs,q,λts al vs H1 ⟨z,q1⟩ l ge=>⟨by rw[<-l];exact z,λp H2 hp g e=>c _ _ _ _ q1 ?_⟩⟩;exact Rs.chg (Δ:=zz ts vs) (Δ':=[(.lst true ts,some (.ref p))]) ge λΓ r=>kc r l hp g e
end
open PySem PySem.Spec PyProof.Rows L2
mutual
noncomputable def dt:T->Dt
 | .int i=>.int i
 | .bl b=>.bl b
 | .str x=>.str x
 | .tup ts=>.tup (dtL ts)
 | .cst ts=>.tup (dtL ts)
 | .lst _ ts=>.lst (dtL ts)
 | _=>.non
noncomputable def dtL:List T->List Dt
 | []=>[]
 |t::r=>dt t::dtL r
end
mutual
noncomputable def isD:T->Bool
 | .tup ts=>vZ ts
 | .cst ts=>vZ ts
 | .lst _ ts=>vZ ts
 | .int _=>true
 | .bl _=>true
 | .str _=>true
 | .non=>true
 | _=>false
noncomputable def vZ:List T->Bool
 | []=>true
 |t::r=>isD t&&vZ r
end
section
variable{K:Rr}
theorem GY(g:Gr Hz H):(∀{t v L},RepT K Hz H t v L->isD t=true->Has K H (dt t) v)/\(∀{t v L},RepTs K Hz H t v L->vZ t=true->qc K H (dtL t) v)/\(∀{t v L},RepKs K Hz H t v L->True)/\(∀{t v L},RepXs K Hz H t v L->True):=
 nz (P:=λt v L=>isD t=true->Has K H (dt t) v) (Ps:=λt v L=>vZ t=true->qc K H (dtL t) v) (Pk:=λt v L=>True) (Px:=λt v L=>True)
  (λn=>nomatch n) (λn=>nomatch n) (λ_ _ n=>nomatch n) (λ_ n=>nomatch n) (λ_=>by show Has K H .non .non;rw[Has]) (λ_=>by rw[dt,Has]) (λ_=>by rw[dt,Has]) (λ_=>by rw[dt,Has]) (λn=>nomatch n)
  (λh c n=>by rw[dt,Has];exact⟨_,_,rfl,SqT.of h,c (by rw[isD]at n;exact n)⟩) (λh c n=>by rw[dt,Has];exact⟨_,_,rfl,AO h H,c (by rw[isD]at n;exact n)⟩)
  (λh c n=>by rw[dt,Has];exact⟨_,_,rfl,SqL.of h,c (by rw[isD]at n;exact n)⟩) (λh c n=>by rw[dt,Has];exact⟨_,_,rfl,.inl (g _ _ h),c (by rw[isD]at n;exact n)⟩)
  (λ_ _ n=>nomatch n) (λ_ _ n=>nomatch n) (λ_ _ n=>nomatch n) (λ_ _ n=>nomatch n)
  (λ_=>by rw[dtL];exact D8) (λi j n=>by rw[vZ,J']at n;rw[dtL];exact BE (i n.1) (j n.2)) trivial (λ_ _=>trivial) trivial (λ_ _=>trivial)
theorem RepT.has (g:Gr Hz H)(n:isD t=true)(h:RepT K Hz H t v L):Has K H (dt t) v:=(GY g).1 h n
theorem FY(h:isD t=true):isAny t=false:=by cases t <;> first|rfl|cases h
theorem Ce(h:Rp K H ((t,some y)::Γ))(n:isD t=true):Has K H (dt t) y:=by obtain⟨Hz,L,r,g⟩:=kK h (FY n);exact r.has g n
end
noncomputable def Jh:P2
 | .int i,.int j,k=>k (.int (i+j))
 | .str x,.str y,k=>x.length+y.length<=sizeLine/\k (.str (x++y))
 | .lst _ ts,.lst _ us,k=>ts.length+us.length<=sizeLine/\k (.lst true (ts++us))
 | .tup ts,.tup us,k=>ts.length+us.length<=sizeLine/\k (.tup (ts++us))
 | _,_,_=>False
noncomputable def Lc:P2
 | .int i,.int j,k=>k (.int (i-j))
 | _,_,_=>False
def Ku:P2
 | .int i,.int j,k=>yO i j/\k (.int (i*j))
 | _,_,_=>False
def M3:P2
 | .int i,.int j,k=>Hd i j/\k (.int (i/j))
 | _,_,_=>False
noncomputable def LR:P2
 | .int i,.int j,k=>0<j/\k (.int (i%j))
 | _,_,_=>False
noncomputable def J4(p:Int->Int->Bool):P2
 | .int i,.int j,k=>k (.bl (p i j))
 | _,_,_=>False
def ltT:P2:=J4 λi j=>decide (i<j)
def leT:P2:=J4 λi j=>decide (i<=j)
def gtT:P2:=J4 λi j=>decide (j<i)
noncomputable def isV:T->Bool
 | .any=>false
 | .hole _=>false
 | .bare=>false
 | .kp _=>false
 | _=>true
noncomputable def uD:T->Bool
 | .non=>true
 | _=>false
def Lo:P2
 |t,.non,k=>isV t=true/\k (.bl (uD t))
 | _,_,_=>False
variable {o:Bool}{r':Int->Int->V}
section
variable{X:Cx}
theorem v9{C:Int->Int->Prop}{r:Int->Int->T}(h:OpR X f (rI C r'))(hr:∀i j K Hz H,RepT K Hz H (r i j) (r' i j) []):OpP X f (λt u k=>match t,u with | .int i,.int j=>C i j/\k (r i j) | _,_=>False):=by
 refine .of h ?_;intro tx ty x y H Γ k Q rp g c;cases tx <;> cases ty <;> first|exact g.elim|skip
 rename_i i j;rw[b6 rp,b6 rp.tail];exact⟨i,j,rfl,rfl,g.1,c _ _ _ g.2 (dH rp.tail.tail λHz=>hr i j _ _ _)⟩
theorem oF{r:Int->Int->T}(h:OpR X f (rI0 r'))(hr:∀i j K Hz H,RepT K Hz H (r i j) (r' i j) []):OpP X f (λt u k=>match t,u with | .int i,.int j=>k (r i j) | _,_=>False):=by
 refine .of h ?_;intro tx ty x y H Γ k Q rp g c;cases tx <;> cases ty <;> first|exact g.elim|skip
 rename_i i j;rw[b6 rp,b6 rp.tail];exact⟨i,j,rfl,rfl,c _ _ _ g (dH rp.tail.tail λHz=>hr i j _ _ _)⟩
theorem OpP.imp {g:P2}(h:OpP X f g)(k:∀tx ty k,g' tx ty k->g tx ty k):OpP X f g':=OpR.imp h (by rintro x y H Q ⟨tx,ty,Γ,kk,rp,gg,c⟩;exact⟨tx,ty,Γ,kk,rp,k _ _ _ gg,c⟩)
theorem Inv.Kx {σ:L2.St}{l:Rt}(I:Inv X ad σ H s)(hH:Rd H l (.lst xs)):xs.length<=sizeLine/\∃(be:List Rq) (n:Nat),Vals xs be/\xs.length=be.length/\s.heap.get? l=some { cls:=.type "list",data:=.seq be.toArray n}:=by obtain⟨z,be,n,r,e⟩:=hH.ok I.hok;exact⟨z,be,n,r,r.length,e⟩
theorem Fz:OpR X (Ss .Add) (λx y H Q=>∃l b xs zs,x=.ref l/\y=.ref b/\Rd H l (.lst xs)/\Rd H b (.lst zs)/\xs.length+zs.length<=sizeLine/\New (.lst (xs++zs)) H Q):=by
 intro ad s σ H x y v u Q I rx ry h;obtain⟨l,b,xs,zs,rfl,rfl,hH,hB,hz,q⟩:=h;cases rx;cases ry;obtain⟨z,be,n,r,hl,e⟩:=Inv.Kx I hH;obtain⟨z2,its2,n2,r2,hl2,e2⟩:=Inv.Kx I hB;refine PySem.P.add_list e e2 ?_ (by rw[g_,g_];lia);have ea:be.toArray++its2.toArray=(be++its2).toArray:=by simp
 rw[ea];exact⟨.ref _,_,I.Ma (t':=s.toks) (r.append r2) (by rw[f'];omega),rfl,q.at I.fresh⟩
theorem lj(h:Rp K H ((.lst o ts,some y)::Γ)):∃a vs,y=.ref a/\Rd H a (.lst vs)/\ts.length=vs.length/\Rp K H (zz ts vs++Γ):=by
 obtain⟨Hz,N,h,nd,g,d⟩:=h;cases h with
 |cons e1 h c=>
  rcases h with⟨z,_⟩|⟨v,e2,h⟩
  ·cases z
  cases e2;cases h
  ·rename_i a vs L h c1;rw[e1,MV,J_]at nd;exact⟨a,vs,rfl,.inl h,c1.len,Hz,_,c1.toL.app c,nd.2,g,λb m=>d b (by rw[e1,MV];exact q_ _ m)⟩
  rename_i a vs h c1;exact⟨a,vs,rfl,g _ _ h,c1.len,Hz,_,c1.toL.app c,by rw[<-e1];exact nd,g,λb m=>d b (by rw[e1];exact m)⟩
theorem nA(h:Rp K H ((.tup ts,some y)::Γ)):∃a vs,y=.ref a/\H a=some (.tup vs)/\ts.length=vs.length/\Rp K H (zz ts vs++Γ):=by
 obtain⟨Hz,N,h,nd,g,d⟩:=h;cases h with
 |cons e1 h c=>
  rcases h with⟨z,_⟩|⟨v,e2,h⟩
  ·cases z
  cases e2;cases h with
  |tup h c1=>exact⟨_,_,rfl,h,c1.len,Hz,_,c1.toL.app c,by rw[<-e1];exact nd,g,λb m=>d b (by rw[e1];exact m)⟩
theorem mC{us:List T}{ws:List V}(l:ts.length=vs.length):zz (ts++us) (vs++ws)=zz ts vs++zz us ws:=by show(ts++us).zip ((vs++ws).map some)=_;rw[l_,QZ (by rw[a_];exact l)]
theorem GQ:OpR X (Ss .Add) (λx y H Q=>∃a b ys,x=.ref a/\y=.ref b/\SqT X.K H a []/\SqT X.K H b ys/\Q (.ref b) H):=by
 intro ad s σ H x y v u Q I rx ry h;obtain⟨a,b,ys,rfl,rfl,ha,hb,q⟩:=h;cases rx;cases ry;obtain⟨be,r1,p1,_⟩:=I.tuple ha;obtain⟨its2,r2,p2,_⟩:=I.tuple hb;cases r1;obtain⟨⟨cls,dd,data,sl⟩,ho,hc,n,hd⟩:=id p1;obtain⟨⟨cls2,dd2,data2,sl2⟩,ho2,hc2,n2,hd2⟩:=id p2;simp only at hc hd hc2 hd2;subst hc hd hc2 hd2;exact Wi ⟨_,ho,rfl⟩ ⟨_,ho2,rfl⟩ Vc V7 T8 T6 (TR _ _)
  (tuple_addW0 a b _ its2.toArray n n2 dd dd2 sl sl2 (by simp)) ⟨ho,ho2,⟨.ref b,H,I,rfl,q⟩⟩
theorem ay:OpP X (Ss .Add) Jh:=by
 rintro ad s σ H x y v u Q I rx ry ⟨tx,ty,Γ,k,rp,g,c⟩;cases tx <;> cases ty <;> first|exact RL g|skip
 ·rename_i i j;rw[b6 rp]at ry;rw[b6 rp.tail]at rx;exact rT ad s σ H _ _ v u Q I rx ry ⟨i,j,rfl,rfl,c _ _ _ g (dH rp.tail.tail λ_=>.int)⟩
 ·rename_i i j;rw[kZ rp]at ry;rw[kZ rp.tail]at rx;exact zq ad s σ H _ _ v u Q I rx ry ⟨i,j,rfl,rfl,g.1,c _ _ _ g.2 (dH rp.tail.tail λ_=>.str)⟩
 ·rename_i ts us;obtain⟨b,ws,rfl,hb,lb,dL⟩:=nA rp;obtain⟨a,vs,rfl,ha,la,f8⟩:=nA (dL.perm f_);have lz:vs.length+ws.length<=sizeLine:=by rw[<-la,<-lb];exact g.1
  have rp4:Rp X.K H (zz (ts++us) (vs++ws)++Γ):=by rw[mC la,gV];exact f8
  by_cases hx:vs=[]
  ·subst hx;refine GQ ad s σ H _ _ v u Q I rx ry ⟨a,b,ws,rfl,rfl,SqT.of ha,SqT.of hb,?_⟩;refine c _ _ _ g.2 (kG rp4 (by rw[f',f',la,lb]) .iW ?_);rw[O6];exact hb
  refine Fd ad s σ H _ _ v u Q I rx ry ⟨a,b,vs,ws,rfl,rfl,SqT.of ha,SqT.of hb,hx,lz,λe=>?_,λ_ p hp=>c _ _ _ g.2 (kG rp4 (by rw[f',f',la,lb]) (fO hp _) ba)⟩;refine c _ _ _ g.2 (kG rp4 (by rw[f',f',la,lb]) .iW ?_);rw[e,H_];exact ha
 rename_i o ts o' us;obtain⟨b,ws,rfl,hb,lb,dL⟩:=lj rp;obtain⟨a,vs,rfl,ha,la,f8⟩:=lj (dL.perm f_);have lz:vs.length+ws.length<=sizeLine:=by rw[<-la,<-lb];exact g.1
 have rp4:Rp X.K H (zz (ts++us) (vs++ws)++Γ):=by rw[mC la,gV];exact f8
 exact Fz ad s σ H _ _ v u Q I rx ry ⟨a,b,vs,ws,rfl,rfl,ha,hb,lz,λp H' hp g' e=>c _ _ _ g.2 (kc rp4 (by rw[f',f',la,lb]) hp g' e)⟩
theorem aV:OpP X (Ss .Sub) Lc:=(oF (r:=λi j=>.int (i-j)) J3 λ_ _ _ _ _=>.int).imp λtx ty k g=>by cases tx <;> cases ty <;> exact g
theorem cW:OpP X (Ss .Mult) Ku:=(v9 (r:=λi j=>.int (i*j)) nX λ_ _ _ _ _=>.int).imp λtx ty k g=>by cases tx <;> cases ty <;> exact g
theorem nj:OpP X (Ss .FloorDiv) M3:=(v9 (r:=λi j=>.int (i/j)) AG λ_ _ _ _ _=>.int).imp λtx ty k g=>by cases tx <;> cases ty <;> exact g
theorem FO:OpP X (Ss .Mod) LR:=(v9 (r:=λi j=>.int (i%j)) nM λ_ _ _ _ _=>.int).imp λtx ty k g=>by cases tx <;> cases ty <;> exact g
theorem jP:OpP X (RT .Lt) ltT:=(oF (r:=λi j=>.bl (decide (i<j))) LY λ_ _ _ _ _=>.bl).imp λtx ty k g=>by cases tx <;> cases ty <;> exact g
theorem Cb:OpP X (RT .LtE) leT:=(oF (r:=λi j=>.bl (decide (i<=j))) KJ λ_ _ _ _ _=>.bl).imp λtx ty k g=>by cases tx <;> cases ty <;> exact g
theorem zj:OpP X (RT .Gt) gtT:=(oF (r:=λi j=>.bl (decide (j<i))) LB λ_ _ _ _ _=>.bl).imp λtx ty k g=>by cases tx <;> cases ty <;> exact g
theorem wC{k:Nat}{A:RS}(r:Room k A){n:Nat}(h:n<190):A.units+n<cLine:=by have:=r.un;lia
theorem Fv{x:V}(rp:Rp K H ((t,some x)::Γ))(n:isV t=true):decide (x=.non)=uD t:=by obtain⟨Hz,L,r,g⟩:=kK rp (by cases t <;> first|rfl|cases n);cases r <;> first|rfl|cases n
theorem vB:OpP X (RT .Is) Lo:=.of Ka λtx ty x y H Γ k Q rp g c=>by
 cases ty <;> first|exact RL g|skip
 refine⟨vm rp,?_⟩;rw[Fv rp.tail g.1];exact c _ _ _ g.2 (dH rp.tail.tail λ_=>.bl)
end
open PySem PySem.Spec PyProof.Rows L2
noncomputable def zf:T->Option Key
 | .int i=>some (.inl i)
 | .str x=>some (.inr x)
 | .non=>some (.inr none)
 | _=>none
def j7:List T->Option (List Key)
 | []=>some []
 |t::r=>match zf t,j7 r with
  |some k,some ks=>some (k::ks)
  | _,_=>none
section
variable{κ:Type}[DecidableEq κ]
noncomputable def kJ(am:List (κ×T))(k:κ):Option T:=(am.find? λkv=>decide (kv.1=k)).map (·.2)
noncomputable def oM(am:List (κ×T))(k:κ)(v:T):List (κ×T):=
 if(am.any λkv=>decide (kv.1=k))=true then am.map (λkv=>if kv.1=k then(kv.1,v)else kv)else am++[(k,v)]
theorem pI:∀{ts:List (κ×T)}{vs:List (κ×V)}{q:κ}{u:T},ts.map (·.1)=vs.map (·.1)->kJ ts q=some u->∃(w:V) (i:Nat),jL vs q=some w/\(ts.map (·.2))[i]?=some u/\(vs.map (·.2))[i]?=some w
 | [],vs,q,u,e,h=>by cases h
 | (k,t)::ts,[],q,u,e,h=>by cases e
 | (k,t)::ts,(k',v)::vs,q,u,e,h=>by
  rw[e_,e_,Nn]at e;have e0:k=k':=e.1;subst e0;unfold kJ at h;rw[MT]at h;unfold jL;rw[MT];by_cases hk:k=q
  ·have hk':decide (k=q)=true:=decide_eq_true hk;rw[show decide ((k,t).1=q)=true from hk']at h;rw[show decide ((k,v).1=q)=true from hk'];cases h;exact⟨v,0,rfl,rfl,rfl⟩
  have hk':decide (k=q)=false:=decide_eq_false hk;rw[show decide ((k,t).1=q)=false from hk']at h;rw[show decide ((k,v).1=q)=false from hk'];obtain⟨w,i,h1,h2,h3⟩:=pI (ts:=ts) (vs:=vs) e.2 h;exact⟨w,i+1,h1,by simpa using h2,by simpa using h3⟩
theorem pR:∀{ts:List (κ×T)}{vs:List (κ×V)} (q:κ),ts.map (·.1)=vs.map (·.1)->(kJ ts q).isSome=(jL vs q).isSome
 | [],[],q,e=>rfl
 | [],_::_,q,e=>by cases e
 | (k,t)::ts,[],q,e=>by cases e
 | (k,t)::ts,(k',v)::vs,q,e=>by
  rw[e_,e_,Nn]at e;have e0:k=k':=e.1;subst e0;have ih:=pR (ts:=ts) (vs:=vs) q e.2;unfold kJ jL at ih ⊢;rw[MT,MT];by_cases hk:k=q
  ·have hk':decide (k=q)=true:=decide_eq_true hk;rw[show decide ((k,t).1=q)=true from hk']
   rfl
  have hk':decide (k=q)=false:=decide_eq_false hk;rw[show decide ((k,t).1=q)=false from hk'];exact ih
end
section
variable{K:Rr}{H:Hp}{Γ:Fm}
theorem yF{ts:List (Key×T)}(h:Rp K H ((.dK o ts,some y)::Γ)):∃a vs,y=.ref a/\Rd H a (.dK vs)/\ts.map (·.1)=vs.map (·.1)/\Rp K H (zz (ts.map (·.2)) (vs.map (·.2))++Γ):=by
 obtain⟨Hz,N,h,nd,g,d⟩:=h;cases h with
 |cons e1 h c=>
  rcases h with⟨z,_⟩|⟨v,e2,h⟩
  ·cases z
  cases e2;cases h
  ·rename_i a vs L h c1;obtain⟨ek,c2⟩:=c1.toL;rw[e1,MV,J_]at nd;exact⟨a,vs,rfl,.inl h,ek,Hz,_,c2.toL.app c,nd.2,g,λb m=>d b (by rw[e1,MV];exact q_ _ m)⟩
  rename_i a vs h c1;obtain⟨ek,c2⟩:=c1.toL;exact⟨a,vs,rfl,g _ _ h,ek,Hz,_,c2.toL.app c,by rw[<-e1];exact nd,g,λb m=>d b (by rw[e1];exact m)⟩
theorem kC{ts:List (List Key×T)}(h:Rp K H ((.dT o ts,some y)::Γ)):∃a vs,y=.ref a/\Rd H a (.dT vs)/\ts.map (·.1)=vs.map (·.1)/\Rp K H (zz (ts.map (·.2)) (vs.map (·.2))++Γ):=by
 obtain⟨Hz,N,h,nd,g,d⟩:=h;cases h with
 |cons e1 h c=>
  rcases h with⟨z,_⟩|⟨v,e2,h⟩
  ·cases z
  cases e2;cases h
  ·rename_i a vs L h c1;obtain⟨ek,c2⟩:=c1.toL;rw[e1,MV,J_]at nd;exact⟨a,vs,rfl,.inl h,ek,Hz,_,c2.toL.app c,nd.2,g,λb m=>d b (by rw[e1,MV];exact q_ _ m)⟩
  rename_i a vs h c1;obtain⟨ek,c2⟩:=c1.toL;exact⟨a,vs,rfl,g _ _ h,ek,Hz,_,c2.toL.app c,by rw[<-e1];exact nd,g,λb m=>d b (by rw[e1];exact m)⟩
theorem AF{k:Key}(e:zf t=some k)(h:Rp K H ((t,some y)::Γ)):y=kV k:=by
 cases t <;> cases e
 ·rw[vm h];rfl
 ·rw[b6 h];rfl
 rw[kZ h];rfl
theorem EH{k:Key}(e:zf t=some k)(h:RepT K Hz H t v L):v=kV k:=by
 cases t <;> cases e
 ·cases h;rfl
 ·cases h;rfl
 cases h;rfl
theorem ue{Hz:Hp}:∀{ts:List T}{ks:List Key}{vs:List V}{L:List Rt},j7 ts=some ks->RepTs K Hz H ts vs L->vs=ks.map kV
 | [],ks,_,_,e,r=>by cases r;cases e;rfl
 |t::ts,ks,_,_,e,r=>by
  cases r with
  |cons _ h c=>
   rw[j7]at e;split at e
   ·rename_i k r e1 e2;cases e;rw[EH e1 h,ue e2 c]
    rfl
   cases e
theorem ni{ks:List Key}(e:j7 ts=some ks)(h:Rp K H ((.tup ts,some y)::Γ)):∃b,y=.ref b/\H b=some (.tup (ks.map kV)):=by
 obtain⟨Hz,L,r,g⟩:=kK h rfl;cases r with
 |tup h1 c1=>exact⟨_,rfl,by rw[h1,ue e c1]⟩
end
def ixT:P2
 | .tup ts,.int i,k=>got (atI ts i) k
 | .cst ts,.int i,k=>got (atI ts i) k
 | .lst _ ts,.int i,k=>got (atI ts i) k
 | .str x,.int i,k=>x.length<=sizeLine/\got (atI x.cps.toList i) λc=>k (.str ⟨#[c]⟩)
 | .dK _ am,y,k=>got (zf y) λq=>got (kJ am q) k
 | .dT _ am,.tup ts,k=>got (j7 ts) λq=>got (kJ am q) k
 | _,_,_=>False
variable {kr:Nat}{pos:Pos}
section
variable{X:Cx}
theorem Al(hu:X.A.units+1<cLine):IxR X (λx y H Q=>∃a v,x=.ref a/\pB H a y (some v)/\Q v H):=by
 intro value slice ad s σ H x y v u Q I rx ry h hs;obtain⟨a,z,rfl,g,q⟩:=h;cases rx;have hT:=qH I g;unfold Tg;refine Ro ?_;rw[VH hT.not_modules];refine Ro (Up hT U6.lookup ?_);have fin:RA (RJ X.prog X.w) X.A (UH slice false (.ref a) u) (λr s₃=>RA (RJ X.prog X.w) X.A (Xe value (.ref a) r >>= λ_=>pure r) (EP X ad σ Q) X.xe s₃) X.xe s:=by rw[hs];refine WX (uF hu I g ry λw' s' I' r'=>Ro (VY (Rv ⟨z,H,I',r',q⟩)))
 first
  |exact Rv (Ro fin)
  |exact Ro (Rv (Ro fin))
  |exact Ro fin
theorem M8(hr:Room kr X.A):IxR X (w2 X.K ixT):=by
 rintro value slice ad s σ H x y v u Q I rx ry ⟨tx,ty,Γ,k,rp,g,c⟩ hs;have sq:∀ts i,items tx=some ts->ty=.int i->got (atI ts i) k->RA (RJ X.prog X.w) X.A (Tg value slice v u) (EP X ad σ Q) X.xe s:=λts i e1 e2 g=>by obtain⟨t,et,kt⟩:=aJ g;subst e2;rw[b6 rp]at ry;obtain⟨a,vs,rfl,hq,l,dL⟩:=aG e1 rp.tail;obtain⟨w,ew,f8⟩:=CC l et dL;exact MN value slice ad s σ H _ _ v u Q I rx ry ⟨_,a,vs,i,w,rfl,rfl,hq,ew,c _ _ _ kt f8⟩ hs
 cases tx with
 |tup ts=>cases ty <;> first|exact RL g|exact sq _ _ rfl rfl g
 |cst ts=>cases ty <;> first|exact RL g|exact sq _ _ rfl rfl g
 |lst o ts=>cases ty <;> first|exact RL g|exact sq _ _ rfl rfl g
 |str z=>
  cases ty <;> first|exact RL g|skip
  rename_i i;obtain⟨hz,g⟩:=g;obtain⟨t,et,kt⟩:=aJ g;rw[b6 rp]at ry;rw[kZ rp.tail]at rx;exact CJ value slice ad s σ H _ _ v u Q I rx ry ⟨z,i,t,rfl,rfl,hz,et,c _ _ _ kt (dH rp.tail.tail λ_=>.str)⟩ hs
 |dK o am=>
  have g:got (zf ty) λq=>got (kJ am q) k:=by cases ty <;> exact g
  obtain⟨q,eq,g⟩:=aJ g;obtain⟨t,et,kt⟩:=aJ g;rw[AF eq rp]at ry;obtain⟨a,vs,rfl,hq,ek,dL⟩:=yF rp.tail;obtain⟨w,i,ew,e1,e2⟩:=pI ek et;exact Al (mD hr) value slice ad s σ H _ _ v u Q I rx ry ⟨a,w,rfl,.inl ⟨vs,q,hq,rfl,ew.symm⟩,c _ _ _ kt (lE dL e1 e2)⟩ hs
 |dT o am=>
  cases ty <;> first|exact RL g|skip
  rename_i ts;obtain⟨q,eq,g⟩:=aJ g;obtain⟨t,et,kt⟩:=aJ g;obtain⟨b,rfl,hb⟩:=ni eq rp;obtain⟨a,vs,rfl,hq,ek,dL⟩:=kC rp.tail;obtain⟨w,i,ew,e1,e2⟩:=pI ek et;exact Al (mD hr) value slice ad s σ H _ _ v u Q I rx ry ⟨a,w,rfl,.inr ⟨vs,q,b,hq,rfl,hb,ew.symm⟩,c _ _ _ kt (lE dL e1 e2)⟩ hs
 | _=>cases ty <;> exact RL g
theorem az{kr:Nat}{a b:RI}{fa fb:PF}{pos:Pos}(hr:Room kr X.A)(ha:GE X a fa)(hb:GE X b fb)(hs:AA b:=by intro _ _;rfl):GE X (.Subscript a b pos) (Br ixT fa fb):=PE.imp (HB (M8 hr) ha hb hs) A4
noncomputable def fUn(g:T->(T->Prop)->Prop)(fa:PF):PF:=λenv k=>fa env λt al=>g t λu=>k u al
noncomputable def KU:T->(T->Prop)->Prop
 | .int i,k=>k (.int (-i))
 | _,_=>False
theorem kF{a:RI}(ha:GE X a fa):GE X (.UnaryOp .USub a pos) (fUn KU fa):=by
 refine PE.imp (Ki K4 ha) ?_;rintro σ H Q ⟨env,Fr,k,rs,q,c⟩;refine⟨env,Fr,_,rs,q,λt al v H1 q1 ge=>?_⟩;cases t <;> first|exact RL q1|skip
 rename_i i;exact⟨i,b6 ge.head,c _ _ _ _ q1 (kN ge.drop λ_=>.int)⟩
end
open PySem PySem.Spec PyProof.Rows L2
abbrev P1s:=List T->(T->Prop)->Prop
def w1s(K:Rr)(g:P1s):List V->Hp->VK->Prop:=λxs H Q=>∃ts Γ k,ts.length=xs.length/\Rp K H (zz ts xs++Γ)/\g ts k/\∀t v H',k t->Rp K H' ((t,some v)::Γ)->Q v H'
def jV(X:Cx)(f:Rq)(g:P1s):Prop:=dJ X f (w1s X.K g)
noncomputable def fCl(g:P1s)(fr:PFs):PF:=λenv k=>fr env λts al=>g ts λt=>k t al
section
variable{X:Cx}{e:RI}{es:List RI}{fr:PFs}{pos p:Pos}{x:Str}{g:P1s}
theorem Ht:∀ σ H Q,wE X.K (fCl g fr) σ H Q->tCB (w1s X.K g) (wA X.K fr) σ H Q:=by rintro σ H Q ⟨env,Fr,k,rs,q,c⟩;refine⟨env,Fr,_,rs,q,λts al vs H1 q1 l ge=>?_⟩;refine⟨ts,al.zip σ++Fr,_,l,?_,q1,λt v H' kt rp=>c _ _ _ _ kt (.of ge.1 rp)⟩;refine ge.2.perm ?_;rw[<-gV,<-gV];exact Na.append_right _
theorem aF{id:String}(hc:jV X (.builtin id) g)(hg:Gl X x)(hm:X.mg x=none)(hv:SR x=some (.builtin id))(ha:GA X (e::es) fr)(hn:x≠"__name__":=by decide)(hdb:(x ==("__debug__":Str))=false:=by decide)
  (he:RN (e::es) X.env=(false,RY e X.env)::RN es X.env:=by rfl) (hpl:(SS pos (RN es X.env)).any (·.1)=false:=by rfl):GE X (.Call (.Name x p) (e::es) [] pos) (fCl g fr):=PE.imp (sV hc hg hm hv ha hn hdb he hpl) Ht
theorem aL{id:String}(hc:jV X (.type id) g)(hg:Gl X x)(hm:X.mg x=none)(hv:SR x=some (.type id))(ha:GA X (e::es) fr)(hn:x≠"__name__":=by decide)(hdb:(x ==("__debug__":Str))=false:=by decide)
  (he:RN (e::es) X.env=(false,RY e X.env)::RN es X.env:=by rfl) (hpl:(SS pos (RN es X.env)).any (·.1)=false:=by rfl):GE X (.Call (.Name x p) (e::es) [] pos) (fCl g fr):=PE.imp (uN hc hg hm hv ha hn hdb he hpl) Ht
end
variable {E Q:Rq->Ru->Prop}{u:T}{w:RK}
section
variable{X:Cx}
theorem zz1(l:ts.length=xs.length)(e:ts=[t]):∃x,xs=[x]:=by
 subst e;rcases xs with _|⟨x,_|⟨y,xs⟩⟩
 ·cases l
 ·exact⟨x,rfl⟩
 cases l
theorem zz2(l:ts.length=xs.length)(e:ts=[t,u]):∃x y,xs=[x,y]:=by
 subst e;rcases xs with _|⟨x,xs⟩
 ·cases l
 obtain⟨y,rfl⟩:=zz1 (ts:=[u]) (NZ l) rfl;exact⟨x,y,rfl⟩
theorem zz3{w:T}(l:ts.length=xs.length)(e:ts=[t,u,w]):∃x y z,xs=[x,y,z]:=by
 subst e;rcases xs with _|⟨x,xs⟩
 ·cases l
 obtain⟨y,z,rfl⟩:=zz2 (ts:=[u,w]) (NZ l) rfl;exact⟨x,y,z,rfl⟩
theorem yI{prog:RC}(d:Rt)(nd:(d == R5)=false) :
  X9 prog w (S4.«dict.__len__» ⟨[.ref d],[]⟩) (λ_ R s=>∃o es ep,s.heap.get? d=some o/\o.data=.dict es ep/\R (.ok (.ret (.int es.size s.toks))) {s with toks:=s.toks+1}):=
 .of_wp λA R s ⟨o,es,ep,ho,hdat,q⟩=>by show RA _ _ (dictSize d >>= _) _ _ s;unfold dictSize;refine Ro (Ro (Si ho hdat (Rv ?_)));show RA _ _ (XD d >>= _) _ _ s;exact Ro (wpAny_pendingCount_other nd (wpAny_ret_mkInt (by rw[P5];exact q)))
theorem FN{prog:RC}{A:RS}{d:Rt}{o:Obj}{es:Array SY}{ep:Nat}(nd:(d == R5)=false)(ho:s.heap.get? d=some o)(hc:o.ExactDict)(hdat:o.data=.dict es ep)
  (fit:(es.size:Int)<2 ^ 63) (q:∀t tk,Q (.int es.size t) {s with toks:=tk}):RA (RJ prog w) A (call (.builtin "len") [.ref d]) Q E s:=by
 have ty:s.TypeIs (.ref d) "dict":=⟨_,ho,hc.1⟩;refine U7 kind_len plain_len entry_len (args_len1 _) ?_;unfold S4.«len»;refine Ro (m:=oneArg "len" _) (Rv ?_);refine Ro (m:=callSpecial? (.ref d) (SW "__len__")) (R' (name:=SW "__len__") ty VO
  (Wl VO ty PySem.F.entry_dict_len (PySem.F.args_dict_len_1 _) (yI d nd) ⟨o,es,ep,ho,hdat,?_⟩))
 show RA _ _ _ _ _ {s with toks:=s.toks+1};refine Ro (R1 (Rv (Ro (TB ?_))));show RA _ _ (if((es.size:Nat):Int)<0 then _ else _) _ _ _;rw[if_neg (by lia)];show RA _ _ (if((es.size:Nat):Int)>=2 ^ 63 then _ else _) _ _ _;rw[if_neg (by lia)];exact Ro (XX (Rv ⟨_,rfl,q _ _⟩))
theorem IU{σ:L2.St}{am:List (List Key×V)}(I:Inv X ad σ H s)(e:Rd H a (.dT am))(q:∀t s',Inv X ad σ H s'->Q (.int am.length t) s'):RA (RJ X.prog X.w) X.A (call (.builtin "len") [.ref a]) Q E s:=by
 obtain⟨z,hd,xs,rel,o,es,ep,h1,h2,h3,h4,_⟩:=rK I.hok e;have hs:es.size=am.length:=by have:=congrArg Pf h4;rw[a_]at this;rw[<-h_,this];exact(Sn rel).symm
 refine FN hd h1 h2 h3 (by rw[sizeLine_eq]at z;lia) λt tk=>?_
 rw[hs];exact q _ _ (I.tok _)
def Fi:P1s
 | [t],k=>match t with
  | .str x=>x.length<=sizeLine/\k (.int x.length)
  | .dK _ am=>k (.int am.length)
  | .dT _ am=>k (.int am.length)
  |t=>got (items t) λts=>k (.int ts.length)
 | _,_=>False
theorem j5:jV X (.builtin "len") Fi:=by
 rintro ad s σ H xs us Q I r ⟨ts,Γ,k,l,rp,g,c⟩
 match ts,l,g with
 | [t],l,g=>
  obtain⟨x,rfl⟩:=zz1 l rfl;have rp:Rp X.K H ((t,some x)::Γ):=rp;have sq:(got (items t) λts=>k (.int ts.length))->RA (RJ X.prog X.w) X.A (call (.builtin "len") us) (EP X ad σ Q) X.xe s:=λg=>by obtain⟨us',e,kt⟩:=aJ g;obtain⟨a,vs,rfl,hq,l2,dL⟩:=aG e rp;rw[l2]at kt;exact C1 ad s σ H _ us Q I r ⟨_,a,vs,rfl,hq,c _ _ _ kt (dH rp.tail λ_=>.int)⟩
  cases t with
  |str z=>
   rw[kZ rp]at r;exact vR ad s σ H _ us Q I r ⟨z,rfl,g.1,c _ _ _ g.2 (dH rp.tail λ_=>.int)⟩
  |dK o am=>
   obtain⟨a,vs,rfl,hq,ek,dL⟩:=yF rp;obtain⟨u,rfl,ru⟩:=vals1 r;cases ru;have g:k (.int am.length):=g;rw[i9 ek]at g;exact L7 I hq λt s' I'=>⟨.int vs.length,H,I',⟨t,rfl⟩,c _ _ _ g (dH rp.tail λ_=>.int)⟩
  |dT o am=>
   obtain⟨a,vs,rfl,hq,ek,dL⟩:=kC rp;obtain⟨u,rfl,ru⟩:=vals1 r;cases ru;have g:k (.int am.length):=g;rw[i9 ek]at g;exact IU I hq λt s' I'=>⟨.int vs.length,H,I',⟨t,rfl⟩,c _ _ _ g (dH rp.tail λ_=>.int)⟩
  | _=>exact sq g
 | [],_,g=>exact RL g
 | _::_::_,_,g=>exact RL g
noncomputable def Lx:P1s
 | [.int i],k=>k (.int i.natAbs)
 | _,_=>False
theorem qf:jV X (.builtin "abs") Lx:=by
 rintro ad s σ H xs us Q I r ⟨ts,Γ,k,l,rp,g,c⟩;rcases ts with _|⟨t,_|⟨u,ts⟩⟩
 ·exact g.elim
 rotate_left
 ·cases t <;> exact g.elim
 cases t <;> try exact g.elim
 rename_i i;obtain⟨x,rfl⟩:=zz1 l rfl;have rp:Rp X.K H ((.int i,some x)::Γ):=rp;rw[b6 rp]at r;refine DP ad s σ H _ us Q I r ⟨i,rfl,?_⟩;have e:(if i<0 then -i else i)=(i.natAbs:Int):=by split <;> lia
 rw[e];exact c _ _ _ g (dH rp.tail λ_=>.int)
noncomputable def intsOf:List T->Option (List Int)
 | []=>some []
 | .int i::r=>match intsOf r with
  |some ns=>some (i::ns)
  |none=>none
 | _::_=>none
theorem zD(ns:List Int):intsOf (ns.map T.int)=some ns:=by
 induction ns with
 |nil=>rfl
 |cons n r ih=>rw[e_,intsOf,ih]
theorem k7:∀{ts:List T}{ns:List Int},intsOf ts=some ns->ts=ns.map T.int
 | [],ns,e=>by cases e;rfl
 |t::ts,ns,e=>by
  cases t <;> first|cases e|skip
  rename_i i;rw[intsOf]at e;split at e
  ·rename_i ms em;cases e;rw[e_,k7 em]
  cases e
theorem jY{K:Rr}{H:Hp}{Γ:Fm}:∀{ns:List Int}{vs:List V},(ns.map T.int).length=vs.length->Rp K H (zz (ns.map T.int) vs++Γ)->vs=ns.map V.int
 | [],[],_,_=>rfl
 | [],_::_,l,_=>by simp at l
 | _::_,[],l,_=>by simp at l
 |n::ns,v::vs,l,h=>by
  have h:Rp K H ((.int n,some v)::(zz (ns.map T.int) vs++Γ)):=h;rw[b6 h,jY (by simpa using l) h.tail]
  rfl
def EA:P1s
 | [.int i,.int j],k=>k (.int (max i j))
 | [.int i,.int j,.int l],k=>k (.int (max (max i j) l))
 | [t],k=>got (items t) λts=>got (intsOf ts) λns=>ns≠[]/\∀r,jT ns r->k (.int r)
 | _,_=>False
def E5:P1s
 | [.int i,.int j],k=>k (.int (min i j))
 | [.int i,.int j,.int l],k=>k (.int (min (min i j) l))
 | [t],k=>got (items t) λts=>got (intsOf ts) λns=>ns≠[]/\∀r,jS ns r->k (.int r)
 | _,_=>False
theorem k8(hc:X.calm=true):jV X (.builtin "max") EA:=by
 rintro ad s σ H xs us Q I r ⟨ts,Γ,k,l,rp,g,c⟩;unfold EA at g;split at g
 ·rename_i k i j;obtain⟨x,y,rfl⟩:=zz2 l rfl;have rp:Rp X.K H ((.int i,some x)::(.int j,some y)::Γ):=rp;rw[b6 rp,b6 rp.tail]at r;refine Bj hc ad s σ H _ us Q I r ⟨i,j,rfl,?_⟩;have e:(if j > i then j else i)=max i j:=by split <;> lia
  rw[e];exact c _ _ _ g (dH rp.tail.tail λ_=>.int)
 ·rename_i k i j m;obtain⟨x,y,z,rfl⟩:=zz3 l rfl;have rp:Rp X.K H ((.int i,some x)::(.int j,some y)::(.int m,some z)::Γ):=rp;rw[b6 rp,b6 rp.tail,b6 rp.tail.tail]at r;refine Bp hc ad s σ H _ us Q I r ⟨i,j,m,rfl,λw h1 h2 h3 h4=>?_⟩;have e:w=max (max i j) m:=by lia
  rw[e];exact c _ _ _ g (dH rp.tail.tail.tail λ_=>.int)
 ·rename_i k t;obtain⟨x,rfl⟩:=zz1 l rfl;have rp:Rp X.K H ((t,some x)::Γ):=rp;obtain⟨us',e,g⟩:=aJ g;obtain⟨ns,en,ne,kt⟩:=aJ g;have:=k7 en;subst this;obtain⟨a,vs,rfl,hq,l2,dL⟩:=aG e rp;have:=jY l2 dL;subst this;revert hq;cases lJ t with
  |true=>exact λhq=>BQ hc ad s σ H _ us Q I r ⟨a,ns,rfl,hq,ne,λw hw=>c _ _ _ (kt w hw) (dH rp.tail λ_=>.int)⟩
  |false=>exact λhq=>Bg hc ad s σ H _ us Q I r ⟨a,ns,rfl,hq,ne,λw hw=>c _ _ _ (kt w hw) (dH rp.tail λ_=>.int)⟩
 exact RL g
theorem jk(hc:X.calm=true):jV X (.builtin "min") E5:=by
 rintro ad s σ H xs us Q I r ⟨ts,Γ,k,l,rp,g,c⟩;unfold E5 at g;split at g
 ·rename_i k i j;obtain⟨x,y,rfl⟩:=zz2 l rfl;have rp:Rp X.K H ((.int i,some x)::(.int j,some y)::Γ):=rp;rw[b6 rp,b6 rp.tail]at r;refine B5 hc ad s σ H _ us Q I r ⟨i,j,rfl,?_⟩;have e:(if j<i then j else i)=min i j:=by split <;> lia
  rw[e];exact c _ _ _ g (dH rp.tail.tail λ_=>.int)
 ·rename_i k i j m;obtain⟨x,y,z,rfl⟩:=zz3 l rfl;have rp:Rp X.K H ((.int i,some x)::(.int j,some y)::(.int m,some z)::Γ):=rp;rw[b6 rp,b6 rp.tail,b6 rp.tail.tail]at r;refine Bf hc ad s σ H _ us Q I r ⟨i,j,m,rfl,λw h1 h2 h3 h4=>?_⟩;have e:w=min (min i j) m:=by lia
  rw[e];exact c _ _ _ g (dH rp.tail.tail.tail λ_=>.int)
 ·rename_i k t;obtain⟨x,rfl⟩:=zz1 l rfl;have rp:Rp X.K H ((t,some x)::Γ):=rp;obtain⟨us',e,g⟩:=aJ g;obtain⟨ns,en,ne,kt⟩:=aJ g;have:=k7 en;subst this;obtain⟨a,vs,rfl,hq,l2,dL⟩:=aG e rp;have:=jY l2 dL;subst this;revert hq;cases lJ t with
  |true=>exact λhq=>Bu hc ad s σ H _ us Q I r ⟨a,ns,rfl,hq,ne,λw hw=>c _ _ _ (kt w hw) (dH rp.tail λ_=>.int)⟩
  |false=>exact λhq=>Bx hc ad s σ H _ us Q I r ⟨a,ns,rfl,hq,ne,λw hw=>c _ _ _ (kt w hw) (dH rp.tail λ_=>.int)⟩
 exact RL g
noncomputable def IT:P1s
 | [.int i],k=>k (.int i)
 | [.bl b],k=>k (.int (if b then 1 else 0))
 | _,_=>False
theorem jl:jV X (.type "int") IT:=by
 rintro ad s σ H xs us Q I r ⟨ts,Γ,k,l,rp,g,c⟩;unfold IT at g;split at g
 ·rename_i k i;obtain⟨x,rfl⟩:=zz1 l rfl;have rp:Rp X.K H ((.int i,some x)::Γ):=rp;rw[b6 rp]at r;exact uR ad s σ H _ us Q I r (.inl ⟨i,rfl,c _ _ _ g (dH rp.tail λ_=>.int)⟩)
 ·rename_i k i;obtain⟨x,rfl⟩:=zz1 l rfl;have rp:Rp X.K H ((.bl i,some x)::Γ):=rp;rw[jU rp]at r;exact uR ad s σ H _ us Q I r (.inr ⟨i,rfl,c _ _ _ g (dH rp.tail λ_=>.int)⟩)
 exact RL g
def Aq:P1s
 | [t],k=>got (items t) λts=>k (.lst true ts)
 | _,_=>False
theorem kh:jV X (.type "list") Aq:=by
 rintro ad s σ H xs us Q I r ⟨ts,Γ,k,l,rp,g,c⟩;unfold Aq at g;split at g
 ·rename_i k t;obtain⟨x,rfl⟩:=zz1 l rfl;have rp:Rp X.K H ((t,some x)::Γ):=rp;obtain⟨us',e,kt⟩:=aJ g;obtain⟨a,vs,rfl,hq,l2,dL⟩:=aG e rp;exact yW ad s σ H _ us Q I r ⟨_,a,vs,rfl,hq,λp H' hp g' e'=>c _ _ _ kt (kc dL l2 hp g' e')⟩
 exact RL g
noncomputable def qi:P1s
 | [.tup ts],k=>k (.tup ts)
 | [.cst ts],k=>k (.cst ts)
 | [.lst _ ts],k=>k (.tup ts)
 | _,_=>False
theorem iP:jV X (.type "tuple") qi:=by
 rintro ad s σ H xs us Q I r ⟨ts,Γ,k,l,rp,g,c⟩;unfold qi at g;split at g
 ·rename_i k ts;obtain⟨x,rfl⟩:=zz1 l rfl;have rp:Rp X.K H ((.tup ts,some x)::Γ):=rp;obtain⟨a,vs,rfl,hq,l2,dL⟩:=aG rfl rp;exact qA ad s σ H _ us Q I r ⟨a,vs,rfl,hq,c _ _ _ g rp⟩
 ·rename_i k ts;obtain⟨x,rfl⟩:=zz1 l rfl;have rp:Rp X.K H ((.cst ts,some x)::Γ):=rp;obtain⟨a,vs,rfl,hq,l2,dL⟩:=aG rfl rp;exact qA ad s σ H _ us Q I r ⟨a,vs,rfl,hq,c _ _ _ g rp⟩
 ·rename_i k o ts;obtain⟨x,rfl⟩:=zz1 l rfl;have rp:Rp X.K H ((.lst o ts,some x)::Γ):=rp;obtain⟨a,vs,rfl,hq,l2,dL⟩:=aG rfl rp;exact yi ad s σ H _ us Q I r ⟨a,vs,rfl,hq,λp H' hp g' e'=>c _ _ _ g (kG dL l2 g' e')⟩
 exact RL g
noncomputable def boolsOf:List T->Option (List Bool)
 | []=>some []
 | .bl i::r=>match boolsOf r with
  |some ns=>some (i::ns)
  |none=>none
 | _::_=>none
theorem aU(ns:List Bool):boolsOf (ns.map T.bl)=some ns:=by
 induction ns with
 |nil=>rfl
 |cons n r ih=>rw[e_,boolsOf,ih]
theorem nR:∀{ts:List T}{ns:List Bool},boolsOf ts=some ns->ts=ns.map T.bl
 | [],ns,e=>by cases e;rfl
 |t::ts,ns,e=>by
  cases t <;> first|cases e|skip
  rename_i i;rw[boolsOf]at e;split at e
  ·rename_i ms em;cases e;rw[e_,nR em]
  cases e
theorem rq{K:Rr}{H:Hp}{Γ:Fm}:∀{ns:List Bool}{vs:List V},(ns.map T.bl).length=vs.length->Rp K H (zz (ns.map T.bl) vs++Γ)->vs=bools ns
 | [],[],_,_=>rfl
 | [],_::_,l,_=>by simp at l
 | _::_,[],l,_=>by simp at l
 |n::ns,v::vs,l,h=>by
  have h:Rp K H ((.bl n,some v)::(zz (ns.map T.bl) vs++Γ)):=h;rw[jU h,rq (by simpa using l) h.tail]
  rfl
def Jd:P1s
 | [.lst _ ts],k=>got (boolsOf ts) λbs=>k (.bl (bs.all id))
 | _,_=>False
def IG:P1s
 | [.lst _ ts],k=>got (boolsOf ts) λbs=>k (.bl (bs.any id))
 | _,_=>False
theorem nr(hc:X.calm=true):jV X (.builtin "all") Jd:=by
 rintro ad s σ H xs us Q I r ⟨ts,Γ,k,l,rp,g,c⟩;unfold Jd at g;split at g
 ·rename_i k o ts;obtain⟨x,rfl⟩:=zz1 l rfl;have rp:Rp X.K H ((.lst o ts,some x)::Γ):=rp;obtain⟨bs,e,kt⟩:=aJ g;have:=nR e;subst this;obtain⟨a,vs,rfl,hq,l2,dL⟩:=aG rfl rp;have:=rq l2 dL;subst this;exact Ez hc ad s σ H _ us Q I r ⟨a,bs,rfl,hq,c _ _ _ kt (dH rp.tail λ_=>.bl)⟩
 exact RL g
theorem Bm(hc:X.calm=true):jV X (.builtin "any") IG:=by
 rintro ad s σ H xs us Q I r ⟨ts,Γ,k,l,rp,g,c⟩;unfold IG at g;split at g
 ·rename_i k o ts;obtain⟨x,rfl⟩:=zz1 l rfl;have rp:Rp X.K H ((.lst o ts,some x)::Γ):=rp;obtain⟨bs,e,kt⟩:=aJ g;have:=nR e;subst this;obtain⟨a,vs,rfl,hq,l2,dL⟩:=aG rfl rp;have:=rq l2 dL;subst this;exact C9 hc ad s σ H _ us Q I r ⟨a,bs,rfl,hq,c _ _ _ kt (dH rp.tail λ_=>.bl)⟩
 exact RL g
abbrev PO':=Ev->(Option Int->Ev->Prop)->Prop
def wO(K:Rr)(f:PO'):TO:=λσ H Q=>∃env Fr k,Rs K H env σ Fr/\f env k/\∀o bm H',k o bm->Rs K H' bm σ Fr->Q o H'
def GO(X:Cx)(e:Option RI)(f:PO'):Prop:=PO X e (wO X.K f)
noncomputable def LU:PO':=λenv k=>k none env
noncomputable def L3(f:PF):PO':=λenv k=>f env λt al=>match t with
 | .int i=>k (some i) al
 | _=>False
theorem oZ:GO X none LU:=by rintro ad s σ H Q I ⟨env,Fr,k,rs,q,c⟩;exact Ai ad s σ H Q I (c _ _ _ q rs)
theorem oy{f:PF}(h:GE X e f):GO X (some e) (L3 f):=by
 rintro ad s σ H Q I ⟨env,Fr,k,rs,q,c⟩;refine zS h ad s σ H Q I ⟨env,Fr,_,rs,q,λt al v H1 q1 ge=>?_⟩;cases t <;> first|exact RL q1|skip
 exact⟨_,b6 ge.head,c _ _ _ q1 ge.drop⟩
def nB(ts:List T)(lo hi:Option Int):List T:=(ts.drop (HT.sIx ts.length 0 lo)).take (HT.sIx ts.length ts.length hi-HT.sIx ts.length 0 lo)
def slT:T->Option Int->Option Int->(T->Prop)->Prop
 | .lst _ ts,lo,hi,k=>k (.lst true (nB ts lo hi))
 | .tup ts,lo,hi,k=>¬(HT.sIx ts.length 0 lo=0/\HT.sIx ts.length ts.length hi=ts.length)/\k (.tup (nB ts lo hi))
 | .cst ts,lo,hi,k=>¬(HT.sIx ts.length 0 lo=0/\HT.sIx ts.length ts.length hi=ts.length)/\k (.tup (nB ts lo hi))
 | _,_,_,_=>False
theorem vN:∀(ts:List T) (vs:List V) (n:Nat),zz (ts.drop n) (vs.drop n)=(zz ts vs).drop n
 |ts,vs,0=>rfl
 | [],vs,n+1=>by simp[zz]
 |t::ts,[],n+1=>by simp[zz]
 |t::ts,v::vs,n+1=>by show zz (ts.drop n) (vs.drop n)=(zz ts vs).drop n;exact vN ts vs n
theorem vh:∀(ts:List T) (vs:List V) (n:Nat),zz (ts.take n) (vs.take n)=(zz ts vs).take n
 |ts,vs,0=>by simp[zz]
 | [],vs,n+1=>by simp[zz]
 |t::ts,[],n+1=>by simp[zz]
 |t::ts,v::vs,n+1=>by show(t,some v)::zz (ts.take n) (vs.take n)=(t,some v)::(zz ts vs).take n;rw[vh ts vs n]
theorem yx(l:ts.length=vs.length)(lo hi:Option Int)(h:Rp K H (zz ts vs++Γ)):Rp K H (zz (nB ts lo hi) (mi vs lo hi)++Γ)/\(nB ts lo hi).length=(mi vs lo hi).length:=by
 unfold nB mi;rw[<-l];refine⟨?_,?_⟩
 ·rw[vh,vN];have e1:=E_ (HT.sIx ts.length 0 lo) (zz ts vs);have e2:=E_ (HT.sIx ts.length ts.length hi-HT.sIx ts.length 0 lo) ((zz ts vs).drop (HT.sIx ts.length 0 lo));have h2:Rp K H ((zz ts vs).drop (HT.sIx ts.length 0 lo)++Γ):=by rw[<-e1,gV]at h;exact h.part
  rw[<-e2,gV]at h2;have h3:=h2.perm (m_ _ _ _);exact h3.part
 rw[y_,y_,F',F',l]
def fSl(fa:PF)(fl fh:PO'):PF:=λenv k=>fa env λt al=>fl al λlo bn=>fh bn λhi cl=>slT t lo hi λu=>k u cl
theorem mR{lo hi:Option RI}{fl fh:PO'}{p2:Pos}(he:GE X e fa)(hl:GO X lo fl)(hh:GO X hi fh):GE X (.Subscript e (.Slice lo hi none p2) pos) (fSl fa fl fh):=by
 have sl:SlR X (λx lo hi H Q=>∃t Γ k,Rp X.K H ((t,some x)::Γ)/\slT t lo hi k/\∀u v H',k u->Rp X.K H' ((u,some v)::Γ)->Q v H'):=by
  rintro ad s σ H x v vl vu lo hi sl Q I rx hs pl pu ⟨t,Γ,k,rp,g,c⟩;cases t with
  |lst o ts=>
   obtain⟨a,vs,rfl,hq,l,dL⟩:=aG rfl rp;obtain⟨f8,l3⟩:=yx l lo hi dL;exact CI ad s σ H _ v vl vu lo hi sl Q I rx hs pl pu ⟨a,vs,rfl,hq,λp H' hp g' e=>c _ _ _ g (kc f8 l3 hp g' e)⟩
  |tup ts=>
   obtain⟨a,vs,rfl,hq,l,dL⟩:=aG rfl rp;obtain⟨f8,l3⟩:=yx l lo hi dL;exact zU ad s σ H _ v vl vu lo hi sl Q I rx hs pl pu ⟨a,vs,rfl,hq,by rw[<-l];exact g.1,λp H' hp g' e=>c _ _ _ g.2 (kG f8 l3 g' e)⟩
  |cst ts=>
   obtain⟨a,vs,rfl,hq,l,dL⟩:=aG rfl rp;obtain⟨f8,l3⟩:=yx l lo hi dL;exact zU ad s σ H _ v vl vu lo hi sl Q I rx hs pl pu ⟨a,vs,rfl,hq,by rw[<-l];exact g.1,λp H' hp g' e=>c _ _ _ g.2 (kG f8 l3 g' e)⟩
  | _=>exact RL g
 refine PE.imp (yk sl he hl hh) ?_;rintro σ H Q ⟨env,Fr,k,rs,q,c⟩;refine⟨env,Fr,_,rs,q,λt al v H1 q1 ge=>⟨al,_,_,ge,q1,λlo bn H2 q2 rs2=>⟨bn,_,_,rs2,q2,λhi cl H3 q3 rs3=>?_⟩⟩⟩;exact⟨t,_,_,rs3.head,q3,λu w H' ku rp=>c _ _ _ _ ku (.of rs3.1 rp)⟩
end
open PySem PySem.Spec PyProof.Rows L2
inductive Arg where
 |val (t:T)|bor (i:Nat)
noncomputable def rW:Arg->T
 | .val t=>t
 | .bor _=>.any
noncomputable def lend:List Arg->Ev->List T×Ev
 | [],env=>([],env)
 | .val t::r,env=>(t::(lend r env).1,(lend r env).2)
 | .bor i::r,env=>match env[i]? with
  |some t=>(t::(lend r (env.set i .any)).1,(lend r (env.set i .any)).2)
  |none=>(.any::(lend r env).1,(lend r env).2)
noncomputable def back:List Arg->List T->Ev->Ev
 | .bor i::r,t::ts,env=>back r ts (env.set i t)
 | .val _::r,_::ts,env=>back r ts env
 | _,_,env=>env
noncomputable def oG:List Arg->List (Option V)->L2.St->Prop
 | [],[],_=>True
 | .val _::r,_::xs,σ=>oG r xs σ
 | .bor i::r,x::xs,σ=>(σ[i]?=some x\/σ.length<=i)/\oG r xs σ
 | _,_,_=>False
section
variable{K:Rr}{H:Hp}{σ:L2.St}
theorem oK:∀{as:List Arg}{xs:List (Option V)}{env:Ev}{Fr:Fm},oG as xs σ->Rs K H env σ ((as.map rW).zip xs++Fr)->Rs K H (lend as env).2 σ ((lend as env).1.zip xs++Fr)
 | [],[],env,Fr,_,h=>h
 | [],_::_,env,Fr,o,_=>o.elim
 | .val t::r,[],env,Fr,o,_=>o.elim
 | .bor i::r,[],env,Fr,o,_=>o.elim
 | .val t::r,x::xs,env,Fr,o,h=>by have h:Rs K H env σ ((t,x)::((r.map rW).zip xs++Fr)):=h;have h2:Rs K H env σ ((r.map rW).zip xs++((t,x)::Fr)):=h.perm f_.symm;exact(oK (as:=r) o h2).perm f_
 | .bor i::r,x::xs,env,Fr,o,h=>by
  have h:Rs K H env σ ((.any,x)::((r.map rW).zip xs++Fr)):=h;have h:=h.drop;rw[lend];split
  ·rename_i t e;obtain⟨y,ey,h2⟩:=h.slot e;have o1:σ[i]?=some x:=by
    rcases o.1 with z|z
    ·exact z
    have:=(c_.mp ey).1;lia
   rw[o1]at ey;cases ey;have h3:Rs K H (env.set i .any) σ ((r.map rW).zip xs++((t,x)::Fr)):=h2.perm f_.symm;exact(oK (as:=r) o.2 h3).perm f_
  have h3:Rs K H env σ ((r.map rW).zip xs++((.any,x)::Fr)):=(Rs.of h.1 (m8 (x:=x) h.2)).perm f_.symm;exact(oK (as:=r) o.2 h3).perm f_
theorem og:∀{as:List Arg}{xs:List (Option V)}{ts:List T}{env:Ev}{Fr:Fm},oG as xs σ->Rs K H env σ (ts.zip xs++Fr)->Rs K H (back as ts env) σ Fr
 | [],xs,ts,env,Fr,_,h=>by
  have:back [] ts env=env:=by cases ts <;> rfl
  rw[this];exact⟨h.1,(h.2.perm (m_ _ _ _)).part⟩
 |a::r,xs,[],env,Fr,_,h=>by
  have:back (a::r) [] env=env:=by cases a <;> rfl
  rw[this];exact h
 | .val t::r,[],u::ts,env,Fr,o,_=>o.elim
 | .bor i::r,[],u::ts,env,Fr,o,_=>o.elim
 | .val t::r,x::xs,u::ts,env,Fr,o,h=>by have h:Rs K H env σ ((u,x)::(ts.zip xs++Fr)):=h;exact og (as:=r) o h.drop
 | .bor i::r,x::xs,u::ts,env,Fr,o,h=>by
  have h:Rs K H env σ ((u,x)::(ts.zip xs++Fr)):=h;rw[back];by_cases hi:i<env.length
  ·have o1:σ[i]?=some x:=by
    rcases o.1 with z|z
    ·exact z
    have:=h.1;lia
   exact og (as:=r) o.2 (h.nQ hi o1)
  have e:env.set i u=env:=OK (by lia);rw[e];exact og (as:=r) o.2 h.drop
theorem Rs.put (h:Rs K H env σ ((t,some v)::Fr)):Rs K H (env.set i t) (σ.set i (some v)) Fr:=by
 by_cases hi:i<env.length
 ·exact h.store hi
 rw[OK (by lia),OK (by rw[<-h.1];lia)];exact h.drop
end
abbrev PAs:=Ev->(List Arg->Ev->Prop)->Prop
def wR(K:Rr)(f:PAs):TA:=λσ H Q=>∃env Fr k,Rs K H env σ Fr/\f env k/\∀as bm vs H',k as bm->as.length=vs.length->oG as (vs.map some) σ->Rs K H' bm σ ((as.map rW).zip (vs.map some)++Fr)->Q vs H'
def GR(X:Cx)(es:List RI)(f:PAs):Prop:=PA X es (wR X.K f)
noncomputable def LJ:PAs:=λenv k=>k [] env
noncomputable def L5(f:PF)(r:PAs):PAs:=λenv k=>f env λt al=>r al λas bn=>k (.val t::as) bn
def IZ(i:Nat)(r:PAs):PAs:=λenv k=>(match env[i]? with
 |some t=>isAny t=false
 |none=>False)/\r env λas bn=>k (.bor i::as) bn
section
variable{X:Cx}{e:RI}{es:List RI}{f:PF}{fr:PAs}
theorem ax:GR X [] LJ:=PA.imp nL (by rintro σ H Q ⟨env,Fr,k,rs,q,c⟩;exact c [] env [] H q rfl trivial rs)
theorem ah(he:GE X e f)(hr:GR X es fr)(hs:RN (e::es) X.env=(false,RY e X.env)::RN es X.env:=by rfl):GR X (e::es) (L5 f fr):=by refine PA.imp (kq he hr hs) ?_;rintro σ H Q ⟨env,Fr,k,rs,q,c⟩;refine⟨env,Fr,_,rs,q,λt al v H1 q1 ge=>⟨al,_,_,ge,q1,λas bn vs H2 q2 l ao rs2=>c _ _ _ _ q2 (by rw[j_,j_,l]) ao ?_⟩⟩;exact rs2.perm f_
theorem aN(i:Nat){x:Str}(hr:GR X es fr)(hN:X.N[i]?=some x:=by rfl)(hv:Vis X.env.scope x:=by first|exact bt rfl|exact i' (bt rfl)|exact i' (i' rfl))(hd:(x ==("__debug__":Str))=false:=by decide)(hcd:(x ==("__classdict__":Str))=false:=by decide)
  (hs:RN (.Name x pos::es) X.env=(false,RY (.Name x pos) X.env)::RN es X.env:=by rfl):GR X (.Name x pos::es) (IZ i fr):=by
 refine PA.imp (kq (kL hN hv hd hcd) hr hs) ?_;rintro σ H Q ⟨env,Fr,k,rs,⟨na,q⟩,c⟩;split at na
 ·rename_i t e;obtain⟨y,ey,rs2⟩:=rs.slot e;obtain⟨v,rfl⟩:=jw rs2 na;refine⟨v,ey,env,Fr,_,rs,q,λas bn vs H2 q2 l ao rs2=>c _ _ _ _ q2 (by rw[j_,j_,l]) ⟨.inl ey,ao⟩ ?_⟩;exact .of rs2.1 (m8 rs2.2)
 exact na.elim
end
abbrev FP:=List T->(T->List T->Prop)->Prop
def aI(K:Rr)(n:Nat)(P:FP):Sp:=λvs H Q _=>∃ts Fr k,ts.length=vs.length/\vs.length=n/\Rp K H (zz ts vs++Fr)/\P ts k/\∀t ts' v H',k t ts'->Rp K H' ((t,some v)::(zz ts' vs++Fr))->Q v H'
noncomputable def Li(P:FP)(ts:List T)(k:T->List T->Prop):Prop:=P ts k
def JH(n:Nat)(P:FP)(fr:PAs):PF:=λenv k=>fr env λas al=>as.length=n/\Li P (lend as al).1 λt ts'=>k t (back as ts' (lend as al).2)
variable {P:FP}{ps:List Str}
section
variable{X:Cx}
theorem m7:∀(as:List Arg) (env:Ev),(lend as env).1.length=as.length
 | [],env=>rfl
 | .val t::r,env=>by rw[lend,j_,j_,m7 r]
 | .bor i::r,env=>by
  rw[lend];split
  ·rw[j_,j_,m7 r]
  rw[j_,j_,m7 r]
theorem Gs{n:Nat}{fr:PAs}:∀ σ H Q,wE X.K (JH n P fr) σ H Q->E6 (aI X.K n P) [] E0 (wR X.K fr) σ H Q:=by
 rintro σ H Q ⟨env,Fr,k,rs,q,c⟩;refine⟨env,Fr,_,rs,q,λas al vs H1 ⟨hn,q1⟩ l ao ge=>?_⟩;show aI X.K n P (vs++[]) H1 Q E0;rw[H_];have rs2:=oK ao ge;refine⟨(lend as al).1,(lend as al).2.zip σ++Fr,_,by rw[m7,l],by rw[<-l];exact hn,?_,q1,λt ts' v H' kt rp=>c _ _ _ _ kt ?_⟩
 ·exact rs2.2.perm (m_ _ _ _)
 have h3:Rs X.K H' (lend as al).2 σ (zz ts' vs++((t,some v)::Fr)):=⟨rs2.1,rp.perm (by refine t_ ?_ (m_ _ _ _);refine t_ f_.symm ?_;exact L_ _ f_.symm)⟩
 exact og ao h3
theorem av{k n:Nat}{x:Str}{fr:PAs}{p:Pos}(D:Cal X.prog X.w X.K X.mg X.base j x ps (aI X.K n P))(hr:Room k X.A)(hg:Gl X x)(ha:GR X (e::es) fr)(hjk:j<=k:=by omega)(hdb:(x ==("__debug__":Str))=false:=by decide)
  (he:RN (e::es) X.env=(false,RY e X.env)::RN es X.env:=by rfl) (hpl:(SS pos (RN es X.env)).any (·.1)=false:=by rfl):GE X (.Call (.Name x p) (e::es) [] pos) (JH n P fr):=PE.imp (JS D hr hg ha hjk hdb he hpl) Gs
end
structure PEn where
 nx:Ev->Prop
 rt:T->Ev->Prop
 bk:Ev->Prop:=λ_=>False
 ct:Ev->Prop:=λ_=>False
abbrev PSt:=PEn->Ev->Prop
noncomputable def Kept(κ:Nat->Bool)(σ cr:L2.St):Prop:=cr.length=σ.length/\∀j,κ j=true->cr[j]?=σ[j]?
variable {κ:Nat->Bool}
theorem Kept.refl {σ:L2.St}:Kept κ σ σ:=⟨rfl,λ_ _=>rfl⟩
variable {cr:L2.St}
theorem Kept.trans {σ σ'':L2.St}(a:Kept κ σ cr)(b:Kept κ cr σ''):Kept κ σ σ'':=⟨b.1.trans a.1,λj h=>(b.2 j h).trans (a.2 j h)⟩
theorem Kept.set {σ:L2.St}(h:κ i=false):Kept κ σ (σ.set i x):=⟨K_,λj hj=>by
 by_cases e:i=j
 ·subst e;rw[h]at hj;cases hj
 rw[O1 e]⟩
structure EndOk (K:Rr) (κ:Nat->Bool) (σ:L2.St) (Fr:Fm) (pe:PEn) (D:Ends):Prop where
 nx:∀bm cr H',pe.nx bm->Rs K H' bm cr Fr->Kept κ σ cr->D.nx cr H'
 rt:∀t bm v cr H',pe.rt t bm->Rs K H' bm cr ((t,some v)::Fr)->Kept κ σ cr->D.rt v H'
 bk:∀bm cr H',pe.bk bm->Rs K H' bm cr Fr->Kept κ σ cr->D.bk cr H'
 ct:∀bm cr H',pe.ct bm->Rs K H' bm cr Fr->Kept κ σ cr->D.ct cr H'
theorem EndOk.later {σ:L2.St}{pe:PEn}{D:Ends}(h:EndOk K κ σ Fr pe D)(k:Kept κ σ cr):EndOk K κ cr Fr pe D:=
 ⟨λa b c p q r=>h.nx a b c p q (k.trans r),λa b c d e p q r=>h.rt a b c d e p q (k.trans r),λa b c p q r=>h.bk a b c p q (k.trans r),λa b c p q r=>h.ct a b c p q (k.trans r)⟩
def wS(K:Rr)(κ:Nat->Bool)(f:PSt):TS:=λD σ H=>∃env Fr pe,Rs K H env σ Fr/\f pe env/\EndOk K κ σ Fr pe D
def GS(κ:Nat->Bool)(X:Cx)(st:RW)(f:PSt):Prop:=PS X st (wS X.K κ f)
def GSs(κ:Nat->Bool)(X:Cx)(sts:List RW)(f:PSt):Prop:=PSs X sts (wS X.K κ f)
variable {st:RW}
theorem PS.imp {t t':TS}(h:PS X st t)(k:∀D σ H,t' D σ H->t D σ H):PS X st t':=λad s σ H D I q=>h ad s σ H D I (k _ _ _ q)
theorem PSs.imp {st:List RW}{t t':TS}(h:PSs X st t)(k:∀D σ H,t' D σ H->t D σ H):PSs X st t':=λad s σ H D I q=>h ad s σ H D I (k _ _ _ q)
noncomputable def HW:PSt:=λpe env=>pe.nx env
noncomputable def Lp(f g:PSt):PSt:=λpe env=>f {pe with nx:=g pe} env
section
variable{X:Cx}{κ:Nat->Bool}{pos:Pos}{st:RW}{rest:List RW}{f g:PSt}{e:RI}{fe:PF}
theorem bc:GSs κ X [] HW:=PSs.imp vV (by rintro D σ H ⟨env,Fr,pe,rs,q,c⟩;exact c.nx _ _ _ q rs .refl)
theorem ai(h1:GS κ X st f)(h2:GSs κ X rest g):GSs κ X (st::rest) (Lp f g):=by refine PSs.imp (gI h1 h2) ?_;rintro D σ H ⟨env,Fr,pe,rs,q,c⟩;refine⟨env,Fr,_,rs,q,⟨λbm cr H' q1 ge k1=>⟨bm,Fr,pe,ge,q1,c.later k1⟩,c.rt,c.bk,c.ct⟩⟩
theorem aq(h1:GS κ X st f):GSs κ X [st] f:=ox h1
noncomputable def HM(fe:PF):PSt:=λpe env=>fe env λ_ al=>pe.nx al
theorem ja(he:GE X e fe)(hs:TN e none pos.line X.env=pure false:=by rfl):GS κ X (.Expr e pos) (HM fe):=by refine PS.imp (Gz he hs) ?_;rintro D σ H ⟨env,Fr,pe,rs,q,c⟩;exact⟨env,Fr,_,rs,q,λt bm v H' q1 ge=>c.nx _ _ _ q1 ge.drop .refl⟩
noncomputable def M6(fe:PF):PSt:=λpe env=>fe env λt al=>pe.rt t al
theorem aH(he:GE X e fe):GS κ X (.Return (some e) pos) (M6 fe):=by refine PS.imp (vM he) ?_;rintro D σ H ⟨env,Fr,pe,rs,q,c⟩;exact⟨env,Fr,_,rs,q,λt bm v H' q1 ge=>c.rt _ _ _ _ _ q1 ge .refl⟩
def sIf(tc:PB)(f g:PSt):PSt:=λpe env=>tc env λb al=>cnd b (f pe al) (g pe al)
theorem dI{c:RI}{a b:List RW}{tc:PB}(hc:GT X c tc)(ha:GSs κ X a f)(hb:GSs κ X b g):GS κ X (.If c a b pos) (sIf tc f g):=by refine PS.imp (CO hc ha hb) ?_;rintro D σ H ⟨env,Fr,pe,rs,q,c⟩;refine⟨env,Fr,_,rs,q,λb bm H' q1 ge=>lD ⟨λh=>⟨bm,Fr,pe,ge,q1.1 h,c⟩,λh=>⟨bm,Fr,pe,ge,q1.2 h,c⟩⟩⟩
noncomputable def GN(i:Nat)(fe:PF):PSt:=λpe env=>fe env λt al=>pe.nx (al.set i t)
theorem aC{i:Nat}{x:Str}{pos':Pos}(hN:X.N.Nodup)(hi:X.N[i]?=some x)(hx:Loc X.env.scope x)(hκ:κ i=false)(he:GE X e fe)(hs:TN e (some (.Name x pos')) pos.line X.env=pure false:=by rfl)(hf:X.fn x=true\/X.env.scope.names.lookup x=some .local:=by first|exact .inl rfl|exact .inr rfl|assumption) :
  GS κ X (.Assign [.Name x pos'] e pos) (GN i fe):=by
 refine PS.imp (ml hN hi hx he hs hf) ?_;rintro D σ H ⟨env,Fr,pe,rs,q,c⟩;exact⟨env,Fr,_,rs,q,λt bm v H' q1 ge=>c.nx _ _ _ q1 ge.put (.set hκ)⟩
abbrev PG':=T->Ev->(Ev->Prop)->Prop
abbrev pW:=List T->Ev->(Ev->Prop)->Prop
def wG(K:Rr)(κ:Nat->Bool)(f:PG'):TG:=λv σ H Q=>∃t env Fr k,Rs K H env σ ((t,some v)::Fr)/\f t env k/\∀bm cr H',k bm->Rs K H' bm cr Fr->Kept κ σ cr->Q cr H'
def wGs(K:Rr)(κ:Nat->Bool)(f:pW):TGs:=λvs σ H Q=>∃ts env Fr k,ts.length=vs.length/\Rs K H env σ (zz ts vs++Fr)/\f ts env k/\∀bm cr H',k bm->Rs K H' bm cr Fr->Kept κ σ cr->Q cr H'
def GG(κ:Nat->Bool)(X:Cx)(tg:RI)(f:PG'):Prop:=PG X tg (wG X.K κ f)
def GGs(κ:Nat->Bool)(X:Cx)(tgs:List RI)(f:pW):Prop:=PGs X tgs (wGs X.K κ f)
noncomputable def gN(i:Nat):PG':=λt env k=>k (env.set i t)
theorem au{i:Nat}{x:Str}(hN:X.N.Nodup)(hi:X.N[i]?=some x)(hx:Loc X.env.scope x)(hκ:κ i=false)(hf:X.fn x=true\/X.env.scope.names.lookup x=some .local:=by first|exact .inl rfl|exact .inr rfl|assumption):GG κ X (.Name x pos) (gN i):=
 λad s σ H v u Q I r ⟨t,env,Fr,k,rs,q,c⟩=>Ad hN hi hx hf ad s σ H v u Q I r (c _ _ _ q rs.put (.set hκ))
noncomputable def HH:pW:=λts env k=>ts=[]/\k env
noncomputable def Eg(f:PG')(r:pW):pW:=λts env k=>match ts with
 |t::ts=>f t env λal=>r ts al k
 | []=>False
noncomputable def gTp(n:Nat)(f:pW):PG':=λt env k=>match t with
 | .tup ts=>ts.length=n/\f ts env k
 | .cst ts=>ts.length=n/\f ts env k
 | _=>False
end
open PySem PySem.Spec PyProof.Rows L2
variable {iter:RI}
section
variable{X:Cx}{κ:Nat->Bool}{pos:Pos}{e tg:RI}{es:List RI}{fe:PF}{g:PG'}{gs:pW}
theorem gA:GGs κ X [] HH:=by
 rintro ad s σ H vs us Q I r ⟨ts,env,Fr,k,l,rs,⟨e,q⟩,c⟩;subst e;have:vs=[]:=by cases vs with|nil=>rfl|cons _ _=>cases l
 subst this;exact Ag ad s σ H [] us Q I r ⟨rfl,c _ _ _ q rs .refl⟩
theorem aE(h1:GG κ X e g)(h2:GGs κ X es gs)(hs:(Sd (e::es) X.env).map (·.2)=TQ e X.env::(Sd es X.env).map (·.2):=by rfl):GGs κ X (e::es) (Eg g gs):=by
 rintro ad s σ H vs us Q I r ⟨ts,env,Fr,k,l,rs,q,c⟩;cases ts with
 |nil=>exact RL q
 |cons t ts=>
  cases vs with
  |nil=>cases l
  |cons v vs=>
   have q:g t env λal=>gs ts al k:=q;refine sh h1 h2 hs ad s σ H (v::vs) us Q I r ⟨v,vs,rfl,t,env,zz ts vs++Fr,_,rs,q,λal σ1 H1 q1 ge k1=>?_⟩;exact⟨ts,al,Fr,k,by simpa using l,ge,q1,λbn σ2 H2 q2 rs2 k2=>c _ _ _ q2 rs2 (k1.trans k2)⟩
theorem iX{x1 n:Nat}(hc:X.calm=true)(h:GGs κ X es gs)(hn:(Sd es X.env).length=n:=by rfl)(hst:(Sd es X.env).findIdx? (·.1)=none:=by rfl):GG κ X (.Tuple es x1 pos) (gTp n gs):=by
 rintro ad s σ H v u Q I r ⟨t,env,Fr,k,rs,q,c⟩;have go:∀ts,items t=some ts->lJ t=true->ts.length=n->gs ts env k->RA (RJ X.prog X.w) X.A (TQ (.Tuple es x1 pos) X.env u) (λ_ s'=>∃ cr H',Inv X ad cr H' s'/\Q cr H') X.xe s:=λts e1 e2 e3 q=>by obtain⟨a,vs,rfl,hq,l,rp⟩:=aG e1 rs.head;rw[e2]at hq;refine Ek hc h hn hst ad s σ H _ u Q I r ⟨a,vs,rfl,hq,by rw[<-l];exact e3,ts,env,Fr,k,l,⟨rs.1,?_⟩,q,c⟩;exact rp.perm (m_ _ _ _)
 cases t with
 |tup ts=>exact go ts rfl rfl q.1 q.2
 |cst ts=>exact go ts rfl rfl q.1 q.2
 | _=>exact RL q
noncomputable def M0(fe:PF)(g:PG'):PSt:=λpe env=>fe env λt al=>g t al pe.nx
theorem vK(he:GE X e fe)(hg:GG κ X tg g)(hs:US [tg] e pos.line X.env=pure false:=by rfl)(hw:UT [tg] e X.env=pure none:=by rfl)(h1:(Sd [tg] X.env).map (·.2)=[TQ tg X.env]:=by rfl) :
  GS κ X (.Assign [tg] e pos) (M0 fe g):=by
 refine PS.imp (C5 he hg hs hw h1) ?_;rintro D σ H ⟨env,Fr,pe,rs,q,c⟩;exact⟨env,Fr,_,rs,q,λt bm v H' q1 ge=>⟨t,bm,Fr,_,ge,q1,λbn σ2 H2 q2 rs2 k2=>c.nx _ _ _ q2 rs2 k2⟩⟩
noncomputable def Lb(i j:Nat)(fr:PFs):PSt:=λpe env=>fr env λts al=>match ts with
 | [t,u]=>pe.nx ((al.set i t).set j u)
 | _=>False
theorem sQ{x y:Str}{a b:RI}{fr:PFs}{px py pt:Pos}{kt k2 pt2}(hc:X.calm=true)(hN:X.N.Nodup)(hi:X.N[i]?=some x)(hj:X.N[j]?=some y)(kw:i≠j)
  (hx:X.env.scope.names.lookup x=some .local) (hy:X.env.scope.names.lookup y=some .local) (hκi:κ i=false) (hκj:κ j=false) (ha:GA X [a,b] fr)
  (hw:UT [.Tuple [.Name x px,.Name y py] kt pt] (.Tuple [a,b] k2 pt2) X.env=pure (some [x,y])) (hs:US [.Tuple [.Name x px,.Name y py] kt pt] (.Tuple [a,b] k2 pt2) pos.line X.env=pure false:=by rfl) :
  GS κ X (.Assign [.Tuple [.Name x px,.Name y py] kt pt] (.Tuple [a,b] k2 pt2) pos) (Lb i j fr):=by
 refine PS.imp (JK hc hN hi hj kw hx hy ha hw hs) ?_;rintro D σ H ⟨env,Fr,pe,rs,q,c⟩;refine⟨env,Fr,_,rs,q,λts al vs H1 q1 l ge=>?_⟩;rcases ts with _|⟨t,_|⟨u,_|⟨t3,ts⟩⟩⟩
 ·exact q1.elim
 ·exact q1.elim
 ·obtain⟨v,w,rfl⟩:=zz2 l rfl;refine⟨v,w,rfl,c.nx _ _ _ q1 ?_ ((Kept.set hκi).trans (Kept.set hκj))⟩;have r1:Rs X.K H1 al σ ((t,some v)::(u,some w)::Fr):=ge;exact Rs.put (Rs.put r1)
 exact q1.elim
structure ItOk (K:Rr) (J:It) (be:List T) (Fg:Fm):Prop where
 turn:∀i t H Γ,be[i]?=some t->Rp K H (Fg++Γ)->J.go i H/\∀x H',J.yld i H x H'->Rp K H' ((t,some x)::(Fg++Γ))
 stop:∀H Γ,Rp K H (Fg++Γ)->J.stop be.length H
abbrev PIt:=Ev->(List T->Ev->Prop)->Prop
def wI(K:Rr)(f:PIt):TI:=λσ H R=>∃env Fr k,Rs K H env σ Fr/\f env k/\∀be bm J Fg H',k be bm->Rs K H' bm σ (Fg++Fr)->ItOk K J be Fg->R J H'
def GI(X:Cx)(tg iter:RI)(f:PIt):Prop:=PI X tg iter (wI X.K f)
noncomputable def forL(be:List T)(g:PG')(fb:PSt)(pe:PEn)(al:Ev):Prop:=∃W:Nat->Ev->Prop,W 0 al/\(∀i t env,W i env->be[i]?=some t->g t env λbn=>fb {pe with nx:=W (i+1),ct:=W (i+1),bk:=pe.nx} bn)/\∀env,W be.length env->pe.nx env
def KZ(fi:PIt)(g:PG')(fb:PSt):PSt:=λpe env=>fi env λbe al=>forL be g fb pe al
theorem sf{σ:L2.St}{Fg:Fm}(h:Rs K H env σ (Fg++Fr)):Rs K H env σ Fr:=⟨h.1,(h.2.perm (m_ _ _ _)).part⟩
theorem dM{body:List RW}{fi:PIt}{g:PG'}{fb:PSt}(hp:PassesOwn (RJ X.prog X.w) X.A X.env X.xe)(hc:X.calm=true)(hi:GI X tg iter fi)(hg:GG κ X tg g)(hb:GSs κ X body fb)(hs:∀x,Sh iter X.env x=pure x:=by intro _;rfl):GS κ X (.For tg iter body [] pos) (KZ fi g fb):=by
 refine PS.imp (K5 hp hc hi hg hb hs) ?_;rintro D σ H ⟨env,Fr,pe,rs,q,c⟩;refine⟨env,Fr,_,rs,q,?_⟩;rintro be al J Fg H1 ⟨W,w0,wt,we⟩ ge ok;refine⟨λi m cr H'=>∃bm,W i bm/\Rs X.K H' bm cr (Fg++Fr)/\Kept κ σ cr/\m+i=be.length,⟨be.length,al,w0,ge,.refl,rfl⟩,?_⟩;rintro i m σ1 H2 ⟨bn,w2,rs2,k2,hm⟩;have dL:Rp X.K H2 (Fg++(bn.zip σ1++Fr)):=rs2.2.perm (m_ _ _ _);by_cases li:i<be.length
 ·have ei:be[i]?=some be[i]:=d_ li;obtain⟨hgo,hy⟩:=ok.turn i be[i] H2 _ ei dL;refine .inr ⟨hgo,λcr H'=>∃bm,W (i+1) bm/\Rs X.K H' bm cr (Fg++Fr)/\Kept κ σ cr,λcr H' ⟨bm,w',r',k'⟩=>⟨m-1,by lia,bm,w',r',k',by lia⟩,λx H' hx=>?_⟩;have f8:=hy x H' hx;have rs3:Rs X.K H' bn σ1 ((be[i],some x)::(Fg++Fr)):=.of rs2.1 (f8.perm (.cons _ (m_ _ _ _)));refine⟨be[i],bn,Fg++Fr,_,rs3,wt i be[i] bn w2 ei,λcl σ3 H3 q3 rs4 k4=>?_⟩;refine⟨cl,Fg++Fr,_,rs4,q3,⟨?_,?_,?_,?_⟩⟩
  ·exact λbm cr H' w' r' k'=>⟨bm,w',r',k2.trans (k4.trans k')⟩
  ·exact λt bm v cr H' p r' k'=>c.rt _ _ _ _ _ p (sf (Fg:=Fg) (r'.perm f_.symm)) (k2.trans (k4.trans k'))
  ·exact λbm cr H' p r' k'=>c.nx _ _ _ p (sf r') (k2.trans (k4.trans k'))
  exact λbm cr H' w' r' k'=>⟨bm,w',r',k2.trans (k4.trans k')⟩
 have:i=be.length:=by lia
 subst this;exact .inl ⟨ok.stop H2 _ dL,c.nx _ _ _ (we bn w2) (sf rs2) k2⟩
end
variable {as:List T}
section
variable{X:Cx}{pos:Pos}{e tg:RI}{fe:PF}
def Lw(fe:PF):PIt:=λenv k=>fe env λt al=>got (items t) λts=>k (erL ts) al
theorem Eb(e:items t=some ts)(n:aT t=true):ItOk K (Its K (lJ t) a) ts [(t,some (.ref a))] where
 turn:=λi u H Γ ei rp=>by obtain⟨a',vs,ea,hq,l,dL⟩:=aG e (mF rp n);cases ea;obtain⟨w,ew⟩:=se l ei;refine⟨Ji hq rfl i H .iW (by have:=(c_.mp ew).1;exact this),λx H' hy=>?_⟩;obtain⟨rfl,hx⟩:=Gm hq .iW hy;rw[ew]at hx;cases hx;exact lE dL ei ew
 stop:=λH Γ rp=>by obtain⟨a',vs,ea,hq,l,dL⟩:=aG e rp;cases ea;exact Cd hq l.symm H .iW
theorem mE(e:items t=some ts):items (er t)=some (erL ts)/\lJ (er t)=lJ t:=by cases t <;> cases e <;> exact⟨rfl,rfl⟩
theorem cM(h:GE X e fe):GI X tg e (Lw fe):=by rintro ad s σ H R I ⟨env,Fr,k,rs,q,c⟩;refine IL h ad s σ H R I ⟨env,Fr,_,rs,q,λt al v H1 q1 ge=>?_⟩;obtain⟨ts,e1,kt⟩:=aJ q1;have rf:Rp X.K H1 ((er t,some v)::(al.zip σ++Fr)):=mG ge.head;obtain⟨e2,e3⟩:=mE e1;obtain⟨a,vs,rfl,hq,l,dL⟩:=aG e2 rf;exact⟨lJ (er t),a,vs,rfl,hq,c _ _ _ _ _ kt (Rs.of (Fr:=Fr) ge.1 rf) (Eb e2 (aK t))⟩
noncomputable def qL(lo:Int)(n:Nat):List T:=(w_ n).map λ(i:Nat)=>.int (lo+(i:Int))
theorem Co(lo:Int)(n:Nat):ItOk K (Itr lo n) (qL lo n) [] where
 turn:=λi t H Γ ei rp=>by
  unfold qL at ei;rw[k_]at ei;have hi:i<n:=by
   cases h:(w_ n)[i]? with
   |none=>rw[h]at ei;cases ei
   |some j=>
    have:=(c_.mp h).1;simpa using this
  rw[N3 hi]at ei;cases ei;refine⟨hi,λx H' ⟨e1,e2⟩=>?_⟩;subst e1;subst e2;exact dH rp λ_=>.int
 stop:=λH Γ rp=>by show n<=_;unfold qL;rw[a_,NC];exact b_ _
def iR1(fr:PFs):PIt:=λenv k=>fr env λts al=>match ts with
 | [.int j]=>(-(2 ^ 62)<=j/\j<2 ^ 62)/\k (qL 0 j.toNat) al
 | _=>False
def iR2(fr:PFs):PIt:=λenv k=>fr env λts al=>match ts with
 | [.int i,.int j]=>(-(2 ^ 62)<=i/\i<2 ^ 62/\-(2 ^ 62)<=j/\j<2 ^ 62)/\k (qL i (j-i).toNat) al
 | _=>False
variable{a b c:RI}{fr:PFs}{p:Pos}
theorem j6(hg:Gl X "range")(hm:X.mg "range"=none)(ha:GA X [a] fr)(hs:RN [a] X.env=[(false,RY a X.env)]:=by rfl):GI X tg (.Call (.Name "range" p) [a] [] pos) (iR1 fr):=by
 rintro ad s σ H R I ⟨env,Fr,k,rs,q,c⟩;refine BB hg hm ha hs ad s σ H R I ⟨env,Fr,_,rs,q,λts al vs H1 q1 l ge=>?_⟩;rcases ts with _|⟨t,_|⟨t2,ts⟩⟩
 ·exact q1.elim
 ·cases t <;> first|exact q1.elim|skip
  rename_i j;rcases vs with _|⟨v,_|⟨v2,vs⟩⟩
  ·cases l
  ·have ge:Rs X.K H1 al σ ((.int j,some v)::Fr):=ge;rw[b6 ge.head];exact⟨j,rfl,q1.1.1,q1.1.2,c _ _ _ [] _ q1.2 ge.drop (Co 0 _)⟩
  cases l
 cases t <;> exact q1.elim
theorem jZ(hg:Gl X "range")(hm:X.mg "range"=none)(ha:GA X [a,b] fr)(hs:RN [a,b] X.env=[(false,RY a X.env),(false,RY b X.env)]:=by rfl)(hs2:RN [b] X.env=[(false,RY b X.env)]:=by rfl):GI X tg (.Call (.Name "range" p) [a,b] [] pos) (iR2 fr):=by
 rintro ad s σ H R I ⟨env,Fr,k,rs,q,c⟩;refine Bd hg hm ha hs hs2 ad s σ H R I ⟨env,Fr,_,rs,q,λts al vs H1 q1 l ge=>?_⟩;rcases ts with _|⟨t,_|⟨u,_|⟨t3,ts⟩⟩⟩
 ·exact q1.elim
 ·cases t <;> exact q1.elim
 ·cases t <;> try exact q1.elim
  cases u <;> try exact q1.elim
  rename_i i j;obtain⟨v,w,rfl⟩:=zz2 l rfl;have ge:Rs X.K H1 al σ ((.int i,some v)::(.int j,some w)::Fr):=ge;rw[b6 ge.head,b6 ge.drop.head];exact⟨i,j,rfl,q1.1,c _ _ _ [] _ q1.2 ge.drop.drop (Co i _)⟩
 cases t <;> try exact q1.elim
 cases u <;> exact q1.elim
def iZp(fr:PFs):PIt:=λenv k=>fr env λts al=>match ts with
 | [t,u]=>got (items t) λas=>got (items u) λbs=>k (((erL as).zip (erL bs)).map λp=>.tup [p.1,p.2]) al
 | _=>False
theorem Cy{x:V}{p:Rt}(h:Rp K H ((t,some x)::(u,some y)::Γ))(s:gB H H')(e:H' p=some (.tup [x,y])):Rp K H' ((.tup [t,u],some (.ref p))::Γ):=
 kG (ts:=[t,u]) (vs:=[x,y]) h rfl s e
theorem J2{bs:List T}{a b:Rt}(e1:items t=some as)(e2:items u=some bs)(n1:aT t=true)(n2:aT u=true) :
  ItOk K (Itz K (lJ t) a (lJ u) b) ((as.zip bs).map λp=>.tup [p.1,p.2]) [(t,some (.ref a)),(u,some (.ref b))] where
 turn:=λi w H Γ ei rp=>by
  rw[k_]at ei;cases hz:(as.zip bs)[i]? with
  |none=>rw[hz]at ei;cases ei
  |some q=>
   rw[hz]at ei;cases ei;obtain⟨q1,q2⟩:=q;rw[List.getElem?_zip_eq_some]at hz;have rp0:Rp K H ((t,some (.ref a))::(u,some (.ref b))::Γ):=rp;have rpd:=mF rp0 n1;have rpe:Rp K H ((u,some (.ref b))::(t,some (.ref a))::(t,some (.ref a))::Γ):=rpd.perm (by refine t_ ?_ (NT _ _ _);exact .cons _ (.swap _ _ _))
   have rpf:=mF rpe n2;obtain⟨b',ws,eb,hb,lb,rpg⟩:=aG e2 rpf;cases eb;obtain⟨y,ey⟩:=se lb hz.2;have rph:=lE rpg hz.2 ey;have rpi:Rp K H ((t,some (.ref a))::(q2,some y)::(t,some (.ref a))::(u,some (.ref b))::Γ):=rph.perm (by refine t_ ?_ (NT _ _ _);refine .cons _ ?_;refine t_ (NT _ _ _) ?_;exact .cons _ (NT _ _ _))
   obtain⟨a',vs,ea,ha,la,rpj⟩:=aG e1 rpi;cases ea;obtain⟨x,ex⟩:=se la hz.1;have rpk:=lE rpj hz.1 ex;refine⟨⟨vs,ws,x,y,ha,hb,ex,ey⟩,λv H' hy=>?_⟩;obtain⟨p,x',y',hp,ev,eH,h1,h2⟩:=hy;have ex':=h1 vs ha;have ey':=h2 ws hb;rw[ex]at ex';rw[ey]at ey';cases ex';cases ey';subst ev;subst eH;exact Cy rpk (fO hp _) ba
 stop:=λH Γ rp=>by have rp0:Rp K H ((t,some (.ref a))::(u,some (.ref b))::Γ):=rp;obtain⟨a',vs,ea,ha,la,_⟩:=aG e1 rp0;obtain⟨b',ws,eb,hb,lb,_⟩:=aG e2 rp0.tail;cases ea;cases eb;refine⟨vs,ws,ha,hb,?_⟩;rw[a_,List.length_zip,la,lb];lia
theorem JZ{x1:Nat}{tp:Pos}(hg:Gl X "zip")(hm:X.mg "zip"=none)(ha:GA X [a,b] fr)(hs:RN [a,b] X.env=[(false,RY a X.env),(false,RY b X.env)]:=by rfl)(hs2:RN [b] X.env=[(false,RY b X.env)]:=by rfl) :
  GI X (.Tuple es x1 tp) (.Call (.Name "zip" p) [a,b] [] pos) (iZp fr):=by
 rintro ad s σ H R I ⟨env,Fr,k,rs,q,c⟩;refine K7 hg hm ha hs hs2 ad s σ H R I ⟨env,Fr,_,rs,q,λts al vs H1 q1 l ge=>?_⟩;rcases ts with _|⟨t,_|⟨u,_|⟨t3,ts⟩⟩⟩ <;> try exact q1.elim
 obtain⟨v,w,rfl⟩:=zz2 l rfl;obtain⟨as,ea,q2⟩:=aJ q1;obtain⟨bs,eb,kt⟩:=aJ q2;have ge:Rs X.K H1 al σ ((t,some v)::(u,some w)::Fr):=ge;have r2:Rs X.K H1 al σ ((er t,some v)::(u,some w)::Fr):=.of ge.1 (mG ge.head);have r3:Rs X.K H1 al σ ((er u,some w)::(er t,some v)::Fr):=.of ge.1 (mG (r2.perm (.swap _ _ _)).head);have r4:=r3.perm (.swap _ _ _);obtain⟨e1,_⟩:=mE ea;obtain⟨e2,_⟩:=mE eb;obtain⟨a',xs,rfl,hq,l1,_⟩:=aG e1 r4.head;obtain⟨b',ys,rfl,hq2,l2,_⟩:=aG e2 r3.head;exact⟨_,a',_,b',rfl,⟨xs,hq⟩,⟨ys,hq2⟩,c _ _ _ [(er t,_),(er u,_)] _ kt r4 (J2 e1 e2 (aK t) (aK u))⟩
def iEn(fr:PFs):PIt:=λenv k=>fr env λts al=>match ts with
 | [t]=>got (items t) λas=>k ((w_ as.length).zipWith (λ(i:Nat) (x:T)=>T.tup [.int (i:Int),x]) (erL as)) al
 | _=>False
theorem JU{a:Rt}(e1:items t=some as)(n1:aT t=true) :
  ItOk K (Ite K (lJ t) a) ((w_ as.length).zipWith (λ(i:Nat) (x:T)=>T.tup [.int (i:Int),x]) as) [(t,some (.ref a))] where
 turn:=λi w H Γ ei rp=>by
  have rp0:Rp K H ((t,some (.ref a))::Γ):=rp;rw[Qp]at ei;cases h1:(w_ as.length)[i]? with
  |none=>rw[h1]at ei;cases ei
  |some j=>
   cases h2:as[i]? with
   |none=>rw[h1,h2]at ei;cases ei
   |some u=>
    rw[h1,h2]at ei;cases ei;have hi:i<as.length:=(c_.mp h2).1;rw[N3 hi]at h1;cases h1;obtain⟨a',vs,ea,ha,la,dL⟩:=aG e1 (mF rp0 n1);cases ea;obtain⟨x,ex⟩:=se la h2;have f8:=lE dL h2 ex;refine⟨⟨vs,x,ha,ex⟩,λv H' hy=>?_⟩;obtain⟨p,x',hp,ev,eH,h3⟩:=hy;have ex':=h3 vs ha;rw[ex]at ex';cases ex';subst ev;subst eH;exact Cy (dH f8 λ_=>.int) (fO hp _) ba
 stop:=λH Γ rp=>by have rp0:Rp K H ((t,some (.ref a))::Γ):=rp;obtain⟨a',vs,ea,ha,la,_⟩:=aG e1 rp0;cases ea;refine⟨vs,ha,?_⟩;rw[Qx,NC,la,PZ]
theorem oA{x1:Nat}{tp:Pos}(hg:Gl X "enumerate")(hm:X.mg "enumerate"=none)(ha:GA X [a] fr)(hs:RN [a] X.env=[(false,RY a X.env)]:=by rfl) :
  GI X (.Tuple es x1 tp) (.Call (.Name "enumerate" p) [a] [] pos) (iEn fr):=by
 rintro ad s σ H R I ⟨env,Fr,k,rs,q,c⟩;refine GZ hg hm ha hs ad s σ H R I ⟨env,Fr,_,rs,q,λts al vs H1 q1 l ge=>?_⟩;rcases ts with _|⟨t,_|⟨t2,ts⟩⟩
 ·exact q1.elim
 ·obtain⟨v,rfl⟩:=zz1 l rfl;obtain⟨as,ea,kt⟩:=aJ q1;have ge:Rs X.K H1 al σ ((t,some v)::Fr):=ge;have r2:Rs X.K H1 al σ ((er t,some v)::Fr):=.of ge.1 (mG ge.head);obtain⟨e1,_⟩:=mE ea;obtain⟨a',xs,rfl,hq,l1,_⟩:=aG e1 r2.head;rw[<-jc as]at kt;exact⟨_,a',rfl,⟨xs,hq⟩,c _ _ _ [(er t,_)] _ kt r2 (JU e1 (aK t))⟩
 exact q1.elim
end
open PySem PySem.Spec PyProof.Rows L2
noncomputable def frA(fr:List (Option Nat)):List Arg:=fr.map λo=>match o with
 |some j=>.bor j
 |none=>.val .any
noncomputable def κc(fr:List (Option Nat))(j:Nat):Bool:=match fr[j]? with
 |some (some _)=>true
 | _=>false
theorem lg:∀(fr:List (Option Nat)) (σ:L2.St),oG (frA fr) (iZ fr σ) σ
 | [],σ=>trivial
 |none::r,σ=>lg r σ
 |some j::r,σ=>by
  refine⟨?_,lg r σ⟩;by_cases h:j<σ.length
  ·refine .inl ?_;show σ[j]?=some ((σ[j]?).join);rw[d_ h]
   rfl
  exact .inr (by lia)
theorem nS:∀(fr:List (Option Nat)) (τ τ':List (Option V)) (σ:L2.St),τ'.length=τ.length->(∀j,κc fr j=true->τ'[j]?=τ[j]?)->oG (frA fr) τ σ->oG (frA fr) τ' σ
 | [],[],τ',σ,l,_,_=>by
  have:τ'=[]:=by cases τ' with|nil=>rfl|cons _ _=>cases l
  subst this
  trivial
 | [],_::_,_,_,_,_,o=>o.elim
 |none::r,[],_,_,_,_,o=>o.elim
 |some j::r,[],_,_,_,_,o=>o.elim
 |none::r,x::τ,[],σ,l,_,_=>by cases l
 |some j::r,x::τ,[],σ,l,_,_=>by cases l
 |none::r,x::τ,y::τ',σ,l,k,o=>nS r τ τ' σ (by simpa using l) (λj hj=>by simpa using k (j+1) hj) o
 |some i::r,x::τ,y::τ',σ,l,k,o=>by
  have e:y=x:=by have:=k 0 rfl;simpa using this
  subst e;exact⟨o.1,nS r τ τ' σ (by simpa using l) (λj hj=>by simpa using k (j+1) hj) o.2⟩
def Ib(fr:List (Option Nat))(be:List T)(g:PG')(ft:PB)(fe:PF)(al:Ev)(k:T->Ev->Prop):Prop:=be.length<sizeLine/\∃W:Nat->List T->Ev->Prop,W 0 [] (lend (frA fr) al).1/\
 (∀i t acc ie,W i acc ie->be[i]?=some t->g t ie λie2=>ft ie2 λb ie3=>cnd b (fe ie3 λu ie4=>W (i+1) (acc++[u]) ie4) (W (i+1) acc ie3))/\
 ∀acc ie,W be.length acc ie->k (.lst true acc) (back (frA fr) ie (lend (frA fr) al).2)
def yf(fr:List (Option Nat))(fi:PIt)(g:PG')(ft:PB)(fe:PF):PF:=λenv k=>fi env λbe al=>Ib fr be g ft fe al k
theorem vU:∀fr:List (Option Nat),(frA fr).map rW=fr.map λ_=>T.any
 | []=>rfl
 |none::r=>by show T.any::(frA r).map rW=T.any::r.map λ_=>T.any;rw[vU r]
 |some j::r=>by show T.any::(frA r).map rW=T.any::r.map λ_=>T.any;rw[vU r]
theorem zP{K:Rr}{H:Hp}{Γ:Fm}:∀(fr:List (Option Nat)) (xs:List (Option V)),Rp K H Γ->Rp K H ((fr.map λ_=>T.any).zip xs++Γ)
 | [],xs,h=>h
 | _::r,[],h=>h
 | _::r,x::xs,h=>m8 (zP r xs h)
theorem Ho(fr:List (Option Nat)):(frA fr).length=fr.length:=by unfold frA;rw[a_]
theorem zM(fr:List (Option Nat))(σ:L2.St):(iZ fr σ).length=fr.length:=by unfold iZ;rw[a_]
variable {fe:PF}{fi:PIt}{fr:List (Option Nat)}{ft:PB}
theorem zb{g:PG'}:∀ σ H Q,wE K (yf fr fi g ft fe) σ H Q->AD (wI K fi) fr (λ_ _ _=>wG K (κc fr) g) (λ_ _ _=>wB K ft) (λ_ _ _=>wE K fe) σ H Q:=by
 rintro σ H Q ⟨env,Fr,k,rs,q,c⟩;refine⟨env,Fr,_,rs,q,?_⟩;rintro be al J Fg H1 ⟨hz,W,w0,wt,we⟩ ge ok;intro p hp s3 H3' fp;have l0:Rs K H1 al σ (((frA fr).map rW).zip (iZ fr σ)++(Fg++Fr)):=⟨ge.1,by refine Rp.perm ?_ (m_ _ _ _);rw[vU];exact zP fr _ ge.2⟩
 have l1:=oK (lg fr σ) l0;obtain⟨ie0,ou,e0⟩:∃ie0 ou,lend (frA fr) al=(ie0,ou):=⟨_,_,rfl⟩;have lie:ie0.length=(iZ fr σ).length:=by have:=m7 (frA fr) al;rw[e0,Ho]at this;rw[zM];exact this
 rw[e0]at l1 w0;have rp0:Rp K (upd H1 p (.lst [])) ((.lst true [],some (.ref p))::(ie0.zip (iZ fr σ)++(Fg++(ou.zip σ++Fr)))):=by refine kc (ts:=[]) (vs:=[]) (l1.2.perm ?_) rfl hp (fO hp _) ba;show Qe (ou.zip σ++(ie0.zip (iZ fr σ)++(Fg++Fr))) (ie0.zip (iZ fr σ)++(Fg++(ou.zip σ++Fr)));exact(m_ _ _ _).trans ((m_ _ _ _).append_left _)
 refine⟨λi m cr H'=>∃acc ie,W i acc ie/\Rs K H' ie cr ((.lst true acc,some (.ref p))::(Fg++(ou.zip σ++Fr)))/\Kept (κc fr) (iZ fr σ) cr/\m+i=be.length/\acc.length<=i,⟨be.length,[],ie0,w0,.of lie rp0,.refl,rfl,b_ _⟩,?_⟩;rintro i m σ1 H2 ⟨acc,ie,w2,rs2,k2,hm,ha⟩;have dL:Rp K H2 (Fg++((.lst true acc,some (.ref p))::(ie.zip σ1++(ou.zip σ++Fr)))):=by refine rs2.head.perm ?_;refine t_ ?_ f_.symm;exact .cons _ (m_ _ _ _)
 by_cases li:i<be.length
 ·have ei:be[i]?=some be[i]:=d_ li;obtain⟨hgo,hy⟩:=ok.turn i be[i] H2 _ ei dL;refine .inr ⟨hgo,λx H' hx=>?_⟩;have f8:=hy x H' hx;have rs3:Rs K H' ie σ1 ((be[i],some x)::((.lst true acc,some (.ref p))::(Fg++(ou.zip σ++Fr)))):=.of rs2.1 (f8.perm (.cons _ (by refine f_.trans ?_;refine t_ ?_ f_.symm;exact .cons _ (m_ _ _ _))))
  refine⟨be[i],ie,_,_,rs3,wt i be[i] acc ie w2 ei,λie3 σ3 H3 q3 rs4 k4=>?_⟩;refine⟨ie3,_,_,rs4,q3,λb ie4 H4 q4 rs5=>lD ⟨λhb=>?_,λhb=>?_⟩⟩
  ·refine⟨ie4,_,_,rs5,q4.1 hb,λu ie5 v H5 q5 rs6=>?_⟩;have r7:=rs6.perm (.swap _ _ _);obtain⟨a',ys,ea,hys,ly,r8⟩:=kB r7.head;cases ea;refine⟨ys,hys,by rw[<-ly];exact MX ha (O2 li hz),m-1,by lia,acc++[u],ie5,q5,.of r7.1 ?_,k2.trans k4,by lia,by rw[f'];simp;omega⟩;refine kj (ts:=acc++[u]) (vs:=ys++[v]) (r8.perm (.cons _ ?_)) (by rw[f',f',ly];rfl) Put.up;rw[mC ly,gV];refine L_ _ ?_;exact f_
  exact⟨m-1,by lia,acc,ie4,q4.2 hb,rs5,k2.trans k4,by lia,by lia⟩
 have:i=be.length:=by lia
 subst this;refine .inl ⟨ok.stop H2 _ dL,c _ _ _ _ (we acc ie w2) ?_⟩;rw[e0];have ao:oG (frA fr) σ1 σ:=nS fr (iZ fr σ) σ1 σ k2.1 k2.2 (lg fr σ);refine og ao (env:=ou) ⟨l1.1,?_⟩;refine dL.part.perm ?_;refine t_ ?_ (m_ _ _ _);refine t_ f_.symm ?_;exact L_ _ f_.symm
def GTs(X:Cx)(ifs:List RI)(f:PB):Prop:=PTs X ifs (wB X.K f)
noncomputable def lT:PB:=λenv k=>k true env
theorem bG{X:Cx}:GTs X [] lT:=by rintro ad s σ H Q I ⟨env,Fr,k,rs,q,c⟩;exact F9 ad s σ H Q I (c _ _ _ q rs)
theorem nZ{c:RI}{f:PB}(h:GT X c f):GTs X [c] f:=F8 h
theorem bE{X:Cx}{N ps:List Str}{esc:Sl}(S:FnScope N ps esc)(N':List Str)(fr:List (Option Nat))(nd:N'.Nodup){elt target iter:RI}{ifs:List RI}{sc:Sl}{pos:Pos}{fi:PIt}{g:PG'}{ft:PB}{fe:PF}(C:m9 N esc sc N' fr=true)
  (hi:GI X target iter fi) (hg:∀s3 H3 fp,GG (κc fr) (bH X N' sc s3 H3 fp) target g) (ht:∀s3 H3 fp,GTs (bH X N' sc s3 H3 fp) ifs ft) (he:∀s3 H3 fp,GE (bH X N' sc s3 H3 fp) elt fe)
  (hc:X.calm=true:=by rfl) (hN:X.N=N:=by rfl) (hS:X.env.scope=esc:=by rfl) (hs:∀x,Sh iter X.env x=pure x:=by intro _;rfl):GE X (.ListComp elt [⟨target,iter,ifs,0⟩] sc pos) (yf fr fi g ft fe):=
 PE.imp (ET S N' fr nd C hi hg ht he hc hN hS hs) zb
variable {N:List Str}{ifs:List RI}{np:Pos}{target:RI}
theorem F3{esc:Sl}(S:FnScope N ps esc){x:Str}{pos':Pos}(N':List Str)(fr:List (Option Nat))(nd:N'.Nodup){elt:RI}{sc:Sl}{g:PG'}(C:m9 N esc sc N' fr=true)
  (hi:X.N[i]?=some x) (hx:Loc X.env.scope x) (hκ:κ i=false) (hit:GI X target iter fi) (hg:∀s3 H3 fp,GG (κc fr) (bH X N' sc s3 H3 fp) target g) (ht:∀s3 H3 fp,GTs (bH X N' sc s3 H3 fp) ifs ft) (he:∀s3 H3 fp,GE (bH X N' sc s3 H3 fp) elt fe)
  (hsw:TN (.ListComp elt [⟨target,iter,ifs,0⟩] sc np) (some (.Name x pos')) pos.line X.env=pure true) (hf:X.fn x=true:=by rfl)
  (hc:X.calm=true:=by rfl) (hN:X.N=N:=by rfl) (hS:X.env.scope=esc:=by rfl) (hs:∀x,Sh iter X.env x=pure x:=by intro _;rfl):GS κ X (.Assign [.Name x pos'] (.ListComp elt [⟨target,iter,ifs,0⟩] sc np) pos) (GN i (yf fr fi g ft fe)):=by
 refine PS.imp (A1 S N' fr nd C hi hx hit hg ht he hsw hf hc hN hS hs) ?_;rintro D σ H ⟨env,Fr,pe,rs,q,c⟩;exact zb σ H _ ⟨env,Fr,_,rs,q,λt bm v H' q1 ge=>c.nx _ _ _ q1 ge.put (.set hκ)⟩
abbrev PM:=T->List T->(T->T->Prop)->Prop
def MtP(X:Cx)(id:String)(m:PM):Prop:=MtM X id (λx xs H Q=>∃t ts Γ k,ts.length=xs.length/\Rp X.K H ((t,some x)::(zz ts xs++Γ))/\m t ts k/\∀t' r v H',k t' r->Rp X.K H' ((r,some v)::(t',some x)::Γ)->Q v H')
noncomputable def isL:T->Bool
 | .lst _ _=>true
 | _=>false
def Ak(i:Nat)(m:PM)(fr:PFs):PF:=λenv k=>got (env[i]?) λt0=>isL t0=true/\fr env λts al=>got (al[i]?) λt=>m t ts λt' r=>k r (al.set i t')
variable {xp:Pos}
section
variable{X:Cx}{e o:RI}{es:List RI}{fr:PFs}{fe:PF}{m:PM}{name:Str}{id:String}{apos lv pos:Pos}
theorem G7(h:isL t=true)(rp:Rp X.K H ((t,some v)::Γ)):tyV X.K "list" v H:=by
 cases t <;> first|cases h|skip
 obtain⟨a,vs,rfl,hq,l,_⟩:=lj rp;exact .inl ⟨rfl,vs,.inl hq⟩
theorem GJ(h:isL t=true):isAny t=false:=by cases t <;> first|rfl|cases h
theorem HA:∀ σ H Q,wE X.K (Ak i m fr) σ H Q->tBM X.K "list" (λx xs H Q=>∃t ts Γ k,ts.length=xs.length/\Rp X.K H ((t,some x)::(zz ts xs++Γ))/\m t ts k/\∀t' r v H',k t' r->Rp X.K H' ((r,some v)::(t',some x)::Γ)->Q v H') (Il i) (wA X.K fr) σ H Q:=by
 rintro σ H Q ⟨env,Fr,k,rs,q,c⟩;obtain⟨t0,e0,hl,q⟩:=aJ q;obtain⟨y,ey,rs2⟩:=rs.slot e0;obtain⟨v,rfl⟩:=jw rs2 (GJ hl);refine⟨v,ey,G7 hl rs2.head,env,Fr,_,rs,q,λts al vs H1 q1 l ge=>?_⟩;obtain⟨t,et,q1⟩:=aJ q1;obtain⟨y',ey',rs3⟩:=ge.slot et;rw[ey]at ey';cases ey';have hi:i<al.length:=(c_.mp et).1;refine⟨t,ts,(al.set i .any).zip σ++Fr,_,l,?_,q1,λt' r w H' kt rp=>c _ _ _ _ kt ?_⟩
 ·refine rs3.head.perm (.cons _ ?_);exact m_ _ _ _
 have r4:Rs X.K H' (al.set i .any) σ ((t',some v)::(r,some w)::Fr):=.of rs3.1 (rp.perm (by refine t_ (.swap _ _ _) ?_;exact .cons _ f_.symm))
 have r5:=Rs.nQ (i:=i) r4 (by rw[K_];exact hi) ey;rw[OJ]at r5;exact r5
theorem lN(i:Nat){x:Str}(slot:Slot "list" name id)(hty:XG (.builtin id)=pure (.type "method_descriptor"))(hm:MtP X id m)(ha:GA X (e::es) fr)(hN:X.N[i]?=some x:=by rfl)(hv:Vis X.env.scope x:=by first|exact bt rfl|exact i' (bt rfl)|exact i' (i' rfl))(hd:(x ==("__debug__":Str))=false:=by decide)(hcd:(x ==("__classdict__":Str))=false:=by decide)
  (hbase:Tx (.Name x xp) name X.env (RY (.Name x xp) X.env)=RY (.Name x xp) X.env:=by rfl)
  (hfew:((SS lv (RN (e::es) X.env)).all (λx=>!x.1)&&(WI lv (VC [] X.env)).all (λx=>x.1.isSome)&&decide ((e::es).length+([]:List UB).length+(if([]:List UB).isEmpty then 0 else 1)<30))=true:=by rfl)
  (hline:(apos.endLine == lv.line)=true:=by rfl) (hs:RN (e::es) X.env=(false,RY e X.env)::RN es X.env:=by rfl) (hplain:(SS lv (RN es X.env)).any (·.1)=false:=by rfl) :
  GE X (.Call (.Attribute (.Name x xp) name apos) (e::es) [] lv) (Ak i m fr):=PE.imp (Ly Vn slot hty hm (kL hN hv hd hcd) ha hbase hfew hline hs hplain) HA
theorem xH(i:Nat){x:Str}(slot:Slot "list" name id)(hty:XG (.builtin id)=pure (.type "method_descriptor"))(hm:MtP X id m)(hN:X.N[i]?=some x:=by rfl)(hv:Vis X.env.scope x:=by first|exact bt rfl|exact i' (bt rfl)|exact i' (i' rfl))(hd:(x ==("__debug__":Str))=false:=by decide)(hcd:(x ==("__classdict__":Str))=false:=by decide)
  (hbase:Tx (.Name x xp) name X.env (RY (.Name x xp) X.env)=RY (.Name x xp) X.env:=by rfl) (hline:(apos.endLine == lv.line)=true:=by rfl) :
  GE X (.Call (.Attribute (.Name x xp) name apos) [] [] lv) (Ak i m IS):=by
 refine PE.imp (JT Vn slot hty hm (kL hN hv hd hcd) hbase hline) λσ H Q h=>?_;obtain⟨v,ev,ty,env,Fr,k,rs,q,c⟩:=HA σ H Q h;exact⟨v,ev,ty,c [] env [] H q rfl rs⟩
noncomputable def vH:PM
 | .lst true ts,[t],k=>ts.length<sizeLine/\k (.lst true (ts++[t])) .non
 | _,_,_=>False
noncomputable def vO:PM
 | .lst true ts,[.lst true us],k=>ts.length+us.length<=sizeLine/\k (.lst true (ts++us)) .non
 | _,_,_=>False
noncomputable def rj:PM
 | .lst true ts,[],k=>k (.lst true ts.reverse) .non
 | _,_,_=>False
noncomputable def vY:PM
 | .lst true ts,[.int i,t],k=>(0<=i/\i<=(ts.length:Int)/\ts.length<2 ^ 20)/\k (.lst true (ts.take i.toNat++t::ts.drop i.toNat)) .non
 | _,_,_=>False
theorem l9:MtP X "list.append" vH:=by
 rintro ad s σ H x xs v us Q I rx r ⟨t,ts,Γ,k,l,rp,g,c⟩;unfold vH at g;split at g
 ·rename_i k ts t;obtain⟨y,rfl⟩:=zz1 l rfl;obtain⟨a,vs,ea,ha,la,dL⟩:=kB rp;cases ea;refine yG ad s σ H _ _ v us Q I rx r ⟨a,vs,y,rfl,rfl,ha,by rw[<-la];exact g.1,λH' hp=>c _ _ _ _ g.2 (dH ?_ λ_=>.non)⟩;refine kj (ts:=ts++[t]) (vs:=vs++[y]) ?_ (by rw[f',f',la];rfl) hp;rw[mC la,gV];exact dL
 exact RL g
theorem rP:MtP X "list.extend" vO:=by
 rintro ad s σ H x xs v us Q I rx r ⟨t,ts,Γ,k,l,rp,g,c⟩;unfold vO at g;split at g
 ·rename_i k ts us';obtain⟨y,rfl⟩:=zz1 l rfl;obtain⟨a,vs,ea,ha,la,dL⟩:=kB rp;cases ea;have f8:Rp X.K H ((.lst true us',some y)::(.bare,some (.ref a))::(zz ts vs++Γ)):=dL.perm (by refine t_ (.cons _ f_) ?_;exact .swap _ _ _)
  obtain⟨b,ws,eb,hb,lb,rp4⟩:=kB f8;cases eb;have rp5:Rp X.K H ((.bare,some (.ref a))::(zz (ts++us') (vs++ws)++Γ)):=by rw[mC la,gV];refine rp4.tail.perm ?_;refine f_.trans (.cons _ ?_);exact m_ _ _ _
  exact yN ad s σ H _ _ v us Q I rx r ⟨a,b,vs,ws,rfl,rfl,ha,hb,by rw[<-la,<-lb];exact g.1,λH' hp=>c _ _ _ _ g.2 (dH (kj rp5 (by rw[f',f',la,lb]) hp) λ_=>.non)⟩
 exact RL g
theorem zH:∀{ts:List T}{vs:List V},ts.length=vs.length->zz ts.reverse vs.reverse=(zz ts vs).reverse
 | [],[],_=>rfl
 | [],_::_,l=>by cases l
 | _::_,[],l=>by cases l
 |t::ts,v::vs,l=>by
  have l':ts.length=vs.length:=by simpa using l
  rw[NB,NB,mC (by rw[MR,MR];exact l'),zH l'];show _=((t,some v)::zz ts vs).reverse;rw[NB]
  rfl
theorem qw:MtP X "list.reverse" rj:=by
 rintro ad s σ H x xs v us Q I rx r ⟨t,ts,Γ,k,l,rp,g,c⟩;unfold rj at g;split at g
 ·rename_i k ts;have:xs=[]:=by cases xs with|nil=>rfl|cons _ _=>cases l
  subst this;obtain⟨a,vs,ea,ha,la,dL⟩:=kB rp;cases ea;refine zo ad s σ H _ _ v us Q I rx r ⟨a,vs,rfl,rfl,ha,c _ _ _ _ g (dH (kj (ts:=ts.reverse) (vs:=vs.reverse) (dL.perm (.cons _ ?_)) (by rw[MR,MR,la]) Put.up) λ_=>.non)⟩;rw[zH la];exact(OU _).symm.append_right _
 exact RL g
theorem yY:MtP X "list.insert" vY:=by
 rintro ad s σ H x xs v us Q I rx r ⟨t,ts,Γ,k,l,rp,g,c⟩;unfold vY at g;split at g
 ·rename_i k ts i t;obtain⟨y,z,rfl⟩:=zz2 l rfl;obtain⟨a,vs,ea,ha,la,dL⟩:=kB rp;cases ea;have hy:y=.int i:=b6 (dL.perm ((m_ _ _ _).cons _ |>.trans (.swap _ _ _)));subst hy;refine yV ad s σ H _ _ v us Q I rx r ⟨a,vs,i,z,rfl,rfl,ha,g.1.1,by rw[<-la];exact g.1.2.1,by rw[<-la];exact g.1.2.2,λH' hp=>c _ _ _ _ g.2 (dH ?_ λ_=>.non)⟩;refine kj (ts:=ts.take i.toNat++t::ts.drop i.toNat) (vs:=vs.take i.toNat++z::vs.drop i.toNat) ?_ (by simp[la]) hp;rw[mC (by rw[y_,y_,la])];have f8:Rp X.K H ((.bare,some (.ref a))::(zz ts vs++((t,some z)::Γ))):=by
   have:Rp X.K H ((.int i,some (.int i))::((.bare,some (.ref a))::(zz ts vs++((t,some z)::Γ)))):=dL.perm (by refine t_ (.cons _ f_) ?_;exact .swap _ _ _)
   exact this.tail
  refine f8.perm (.cons _ ?_);show Qe (zz ts vs++((t,some z)::Γ)) ((zz (ts.take i.toNat) (vs.take i.toNat)++((t,some z)::zz (ts.drop i.toNat) (vs.drop i.toNat)))++Γ);rw[vh,vN];refine f_.trans ?_;rw[gV];refine t_ ?_ f_.symm;refine Pe _ ?_;show Qe (zz ts vs++Γ) (List.take i.toNat (zz ts vs)++(List.drop i.toNat (zz ts vs)++Γ));rw[<-gV,E_]
 exact RL g
end
noncomputable def outs(ms:List Bool)(env:Ev):List T:=ms.zipWith (λb t=>if b then t else .any) env
noncomputable def κm(ms:List Bool)(j:Nat):Bool:=match ms[j]? with
 |some b=>b
 |none=>false
theorem oS{K:Rr}{H:Hp}{Γ:Fm}:∀{ms:List Bool}{env:Ev}{σ:L2.St}{vs:List V},ms.length=vs.length->(∀j,κm ms j=true->σ[j]?=(vs[j]?).map some)->Rp K H (env.zip σ++Γ)->Rp K H (zz (outs ms env) vs++Γ)
 | [],env,σ,vs,l,k,h=>h.part
 | _::_,_,_,[],l,_,_=>by cases l
 |m::ms,[],σ,v::vs,l,k,h=>h
 |m::ms,t::env,[],v::vs,l,k,h=>by
  have ih:=oS (ms:=ms) (env:=env) (σ:=[]) (vs:=vs) (by simpa using l) (λj hj=>by have:=k (j+1) hj;simpa using this) (by simpa using h)
  cases m with
  |true=>have:=k 0 rfl;simp at this
  |false=>exact m8 ih
 |m::ms,t::env,x::σ,v::vs,l,k,h=>by
  have h:Rp K H ((t,x)::(env.zip σ++Γ)):=h;have ks:∀j,κm ms j=true->σ[j]?=(vs[j]?).map some:=λj hj=>by have:=k (j+1) hj;simpa using this
  cases m with
  |true=>
   have e:x=some v:=by have:=k 0 rfl;simpa using this
   subst e;have h2:Rp K H (env.zip σ++((t,some v)::Γ)):=h.perm f_.symm;exact(oS (ms:=ms) (by simpa using l) ks h2).perm f_
  |false=>exact m8 (oS (ms:=ms) (by simpa using l) ks h.tail)
theorem D9(l:ts.length=vs.length)(n:Nat)(h:Rp K H (zz ts vs++Γ)):Rp K H ((ts++NG n T.any).zip (vs.map some++NG n none)++Γ):=by
 rw[QZ (by rw[a_];exact l),gV];have:∀n,Rp K H (zz ts vs++((NG n T.any).zip (NG n (none:Option V))++Γ)):=by
  intro n;induction n with
  |zero=>exact h
  |succ n ih=>
   rw[Qy,Qy];exact(m8 (x:=none) ih).perm f_.symm
 exact this n
theorem cN{P:RC}{mg:Str->Option Rq}{base:RM}{x qual:Str}{f:Rt}{fd:RP}{k:Nat}{Pr:FP}(F:Fun K x qual st f fd)(S:FnScope N ps (aA st))(ms:List Bool)(hms:ms.length=ps.length)
  (body:∀(cdv:Rq) (A:RS) (outer:List Env) (s:Ru) (H:Hp) (E:XK),Room k (A.deeper (Um qual (aA st) s.heap.objs.size f cdv))->
   ∃fb,GSs (κm ms) (yQ CX0 P w K mg base N qual (aA st) f cdv A outer s H E).nox (jo st) fb/\∀ts kk,ts.length=ps.length->Pr ts kk->fb { nx:=λenv=>kk .non (outs ms env),rt:=λt env=>kk t (outs ms env) } (ts++NG (N.length-ps.length) .any)) :
  FnOk P w K mg base CX0 (k+1) f fd ps (aI K ps.length Pr):=by
 refine F.ok S (by rintro vs H Q E ⟨ts,Fr,kk,h1,h2,_⟩;exact h2) ?_;rintro cdv A outer s H vs Q E hr ⟨ts,Fr,kk,h1,h2,rp,pr,c⟩;obtain⟨fb,hb,q⟩:=body cdv A outer s H E hr;refine⟨_,hb,ts++NG (N.length-ps.length) .any,Fr,_,?_,q ts kk (by rw[h1,h2]) pr,?_⟩
 ·unfold L2.start;rw[h2];refine⟨by simp[h1],D9 h1 _ rp⟩
 have kv:∀{cr},Kept (κm ms) (L2.start N vs) cr->∀j,κm ms j=true->cr[j]?=(vs[j]?).map some:=λ{cr} kp j hj=>by
  rw[kp.2 j hj];unfold L2.start;have hj2:j<vs.length:=by
   rw[h2,<-hms];unfold κm at hj;split at hj
   ·rename_i b e;exact(c_.mp e).1
   cases hj
  rw[NP (by rw[a_];exact hj2),k_]
 refine⟨λbm cr H' q' rs' k'=>c _ _ _ _ q' ?_,λt bm v cr H' q' rs' k'=>c _ _ _ _ q' ?_,λ_ _ _ z=>z.elim,λ_ _ _ z=>z.elim⟩
 ·exact dH (oS (by rw[hms,h2]) (kv k') rs'.2) λ_=>.non
 exact(oS (Γ:=(t,some v)::Fr) (by rw[hms,h2]) (kv k') rs'.2).perm f_
open PySem PySem.Spec PyProof.Rows L2
variable {n:String}
section
variable{X:Cx}{pos:Pos}
theorem Cr{te:TE}(h:PS X st (Gx te (Aa i))):PS X st (λD σ H=>te σ H λv H'=>Gr H H'/\D.nx (σ.set i (some v)) (over H H')):=by
 intro ad s σ H D I q;have key:=h ad s σ H { nx:=λcr H'=>Gr H H'/\D.nx cr (over H H'),rt:=λ_ _=>False} I q;refine thn key λf s' hs=>?_;cases f with
 |next=>
  obtain⟨cr,H',I',g,q'⟩:=hs;exact⟨cr,over H H',rV I I' g,q'⟩
 |brk=>obtain⟨_,_,_,z⟩:=hs;exact z.elim
 |cont=>obtain⟨_,_,_,z⟩:=hs;exact z.elim
 |ret u=>obtain⟨_,_,_,_,_,z⟩:=hs;exact z.elim
theorem Gf{f:PF}{σ:L2.St}{Q:VK}(h:wE K (fQ f) σ H Q):wE K f σ H λv H'=>Gr H H'/\Q v (over H H'):=by
 obtain⟨env,Fr,k,rs,q,c⟩:=h;have rv:Rs K H (erL env) σ ((Fr.map λp=>(er p.1,p.2))++[(.kp H,some .non)]):=by refine⟨by rw[jc];exact rs.1,?_⟩;have:=v7 rs.2;rw[l_,qV,gV]at this;exact this
 refine⟨erL env,_,_,rv,q,?_⟩;rintro t bm v H' ⟨n,kt⟩ rs';obtain⟨g,r2⟩:=v5 rs.2 (Δ:=bm.zip σ++(Fr.map λp=>(er p.1,p.2))) (by rw[gV];exact rs'.head) n;exact⟨g,c t env v _ kt (.of rs.1 r2)⟩
theorem oJ{esc:Sl}(S:FnScope N ps esc){x:Str}{pos pos':Pos}(N':List Str)(fr:List (Option Nat))(nd:N'.Nodup){elt:RI}{sc:Sl}{g:PG'}(C:m9 N esc sc N' fr=true)
  (hi:X.N[i]?=some x) (hx:Loc X.env.scope x) (hκ:κ i=false) (hit:GI X target iter fi) (hg:∀s3 H3 fp,GG (κc fr) (bH X N' sc s3 H3 fp) target g) (ht:∀s3 H3 fp,GTs (bH X N' sc s3 H3 fp) ifs ft) (he:∀s3 H3 fp,GE (bH X N' sc s3 H3 fp) elt fe)
  (hsw:TN (.ListComp elt [⟨target,iter,ifs,0⟩] sc np) (some (.Name x pos')) pos.line X.env=pure true) (hf:X.fn x=true:=by rfl)
  (hc:X.calm=true:=by rfl) (hN:X.N=N:=by rfl) (hS:X.env.scope=esc:=by rfl) (hs:∀x,Sh iter X.env x=pure x:=by intro _;rfl):GS κ X (.Assign [.Name x pos'] (.ListComp elt [⟨target,iter,ifs,0⟩] sc np) pos) (GN i (fQ (yf fr fi g ft fe))):=by
 refine PS.imp (Cr (A1 S N' fr nd C hi hx hit hg ht he hsw hf hc hN hS hs)) ?_;rintro D σ H ⟨env,Fr,pe,rs,q,c⟩;exact zb σ H _ (Gf (Q:=λv H'=>D.nx (σ.set i (some v)) H') ⟨env,Fr,_,rs,q,λt bm v H' q1 ge=>c.nx _ _ _ q1 ge.put (.set hκ)⟩)
theorem A5{x:Str}(hg:Gl X x)(hm:X.mg x=none)(hv:SR x=some (.type n))(hn:x≠"__name__":=by decide)(hd:(x ==("__debug__":Str))=false:=by decide):GE X (.Name x pos) (fK (.ty n)):=
 PE.imp (Hb (v:=.ty n) hg hm hv rfl hn hd) λσ H Q ⟨env,Fr,k,rs,q,c⟩=>c _ _ _ _ q (kN rs λ_=>.ty)
def Glb(K:Rr)(mg:Str->Option Rq)(x:Str)(t:T):Prop:=∃v u,mg x=some u/\RelV v u/\∀Hz H,RepT K Hz H t v []
theorem Mf{x:Str}(G:Glb X.K X.mg x t)(hg:Gl X x)(hd:(x ==("__debug__":Str))=false:=by decide):GE X (.Name x pos) (fK t):=by obtain⟨v,u,hm,r,ht⟩:=G;exact Gi hg hm r ht hd
theorem vI:GE X (.Dict [] [] pos) (fK (.dT true [])):=PE.imp Dd (by rintro σ H Q ⟨env,Fr,k,rs,q,c⟩;exact λp hp=>c _ _ _ _ q (.of rs.1 (FI rs.2 hp (fO hp _) ba)))
noncomputable def lS:T->Option Ty
 | .non=>some .non
 | .bl _=>some .bl
 | .int _=>some .int
 | .str _=>some .str
 | .tup _=>some .tup
 | .cst _=>some .tup
 | .lst _ _=>some .lst
 | .dK _ _=>some .dct
 | _=>none
noncomputable def zl:String->Option Ty
 | "NoneType"=>some .non
 | "bool"=>some .bl
 | "int"=>some .int
 | "str"=>some .str
 | "list"=>some .lst
 | "tuple"=>some .tup
 | "dict"=>some .dct
 | _=>none
theorem zZ{c:Ty}(h:zl n=some c):n=c.nm:=by unfold zl at h;split at h <;> cases h <;> rfl
def uJ:List T->Option (List Ty)
 | []=>some []
 | .ty n::r=>match zl n,uJ r with
  |some c,some cs=>some (c::cs)
  | _,_=>none
 | _::_=>none
def AI:P1s
 | [x,.ty n],k=>got (lS x) λt=>got (zl n) λc=>k (.bl (isA t c))
 | [x,.tup ts],k=>got (lS x) λt=>got (uJ ts) λcs=>k (.bl (cs.any (isA t)))
 | _,_=>False
theorem Hu(h:Rp K H ((.ty n,some y)::Γ)):y=.ty n:=by obtain⟨_,_,r,_⟩:=kK h rfl;cases r;rfl
theorem CD{K:Rr}{H:Hp}{Γ:Fm}:∀{ts:List T}{cs:List Ty}{vs:List V},uJ ts=some cs->ts.length=vs.length->Rp K H (zz ts vs++Γ)->vs=cs.map λc=>V.ty c.nm
 | [],cs,[],e,_,_=>by cases e;rfl
 | [],_,_::_,_,l,_=>by cases l
 | _::_,_,[],_,l,_=>by cases l
 |t::ts,cs,v::vs,e,l,h=>by
  cases t <;> first|cases e|skip
  rename_i n;rw[uJ]at e;split at e
  ·rename_i c r e1 e2;cases e;have h:Rp K H ((.ty n,some v)::(zz ts vs++Γ)):=h;rw[Hu h,zZ e1,CD e2 (by simpa using l) h.tail]
   rfl
  cases e
theorem EJ{c:Ty}(e:lS t=some c)(h:Rp K H ((t,some y)::Γ)):TyG K H y c:=by
 cases t with
 |non=>cases e;rw[vm h];exact .non
 |bl b=>cases e;rw[jU h];exact .bl b
 |int i=>cases e;rw[b6 h];exact .int i
 |str x=>cases e;rw[kZ h];exact .str x
 |tup ts=>cases e;obtain⟨a,vs,rfl,hq,_⟩:=aG rfl h;exact .tup hq
 |cst ts=>cases e;obtain⟨a,vs,rfl,hq,_⟩:=aG rfl h;exact .tup hq
 |lst o ts=>cases e;obtain⟨a,vs,rfl,hq,_⟩:=aG rfl h;exact .lst hq
 |dK o am=>
  cases o with
  |true=>cases e;obtain⟨a,vs,ea,hq,_⟩:=t6 h;cases ea;exact .dct (.inl hq)
  |false=>
   cases e;obtain⟨Hz,L,r,g⟩:=kK h rfl;cases r;rename_i a vs hq _;exact .dct (g _ _ hq)
 | _=>cases e
theorem nU:jV X (.builtin "isinstance") AI:=by
 rintro ad s σ H xs us Q I r ⟨ts,Γ,k,l,rp,g,c⟩;unfold AI at g;split at g
 ·rename_i k x n;obtain⟨y,z,rfl⟩:=zz2 l rfl;have rp:Rp X.K H ((x,some y)::(.ty n,some z)::Γ):=rp;obtain⟨t,et,g⟩:=aJ g;obtain⟨ct,ec,kt⟩:=aJ g;rw[Hu rp.tail,zZ ec]at r;have e1:[ct].any (isA t)=isA t ct:=by simp
  refine qF ad s σ H _ us Q I r ⟨y,_,t,[ct],rfl,EJ et rp,.inl ⟨ct,rfl,rfl⟩,?_⟩;rw[e1];exact c _ _ _ kt (dH rp.tail.tail λ_=>.bl)
 ·rename_i k x us';obtain⟨y,z,rfl⟩:=zz2 l rfl;have rp:Rp X.K H ((x,some y)::(.tup us',some z)::Γ):=rp;obtain⟨t,et,g⟩:=aJ g;obtain⟨cs,ec,kt⟩:=aJ g;obtain⟨a,vs,rfl,ha,la,dL⟩:=nA rp.tail;have hv:=CD ec la dL;subst hv;exact qF ad s σ H _ us Q I r ⟨y,_,t,cs,rfl,EJ et rp,.inr ⟨a,rfl,ha⟩,c _ _ _ kt (dH rp.tail.tail λ_=>.bl)⟩
 exact RL g
noncomputable def Ko:T->(T->Prop)->Prop
 | .lst _ ts,k=>k (.lst true ts.reverse)
 | _,_=>False
theorem IB(rp:Rp K H (zz ts vs++Γ))(l:ts.length=vs.length)(hp:H p=none)(g:gB H H')(e:H' p=some (.lst vs.reverse)):Rp K H' ((.lst true ts.reverse,some (.ref p))::Γ):=
 kc (ts:=ts.reverse) (vs:=vs.reverse) (rp.perm (by rw[zH l];exact(OU _).symm.append_right _)) (by rw[MR,MR,l]) hp g e
theorem yX{p1 p2 pos1:Pos}(hc:X.calm=true)(hg1:Gl X "list")(hm1:X.mg "list"=none)(hg2:Gl X "reversed")(hm2:X.mg "reversed"=none)(he:GE X e fe)
  (hs1:RN [e] X.env=[(false,RY e X.env)]:=by rfl) (hs2:RN [.Call (.Name "reversed" p2) [e] [] np] X.env=[(false,RY (.Call (.Name "reversed" p2) [e] [] np) X.env)]:=by rfl) :
  GE X (.Call (.Name "list" p1) [.Call (.Name "reversed" p2) [e] [] np] [] pos1) (fUn Ko fe):=by
 refine PE.imp (yP hc hg1 hm1 hg2 hm2 he hs1 hs2) ?_;rintro σ H Q ⟨env,Fr,k,rs,q,c⟩;refine⟨env,Fr,_,rs,q,λt al v H1 q1 ge=>?_⟩;cases t <;> first|exact RL q1|skip
 obtain⟨a,vs,rfl,hq,l,rp⟩:=aG rfl ge.head;exact⟨a,vs,rfl,hq,λp H' hp g e=>c _ _ _ _ q1 (.of ge.1 (IB rp l hp g e))⟩
end
section
variable{κ':Type}[DecidableEq κ']
theorem x9:∀{ts:List (κ'×T)}{vs:List (κ'×V)} (q:κ') (t:T) (w:V),ts.map (·.1)=vs.map (·.1)->(oM ts q t).map (·.1)=(putK vs q w).map (·.1):=by
 intro ts vs q t w e;have ha:(ts.any λkv=>decide (kv.1=q))=(vs.any λkv=>decide (kv.1=q)):=by
  have e1:(ts.any λkv=>decide (kv.1=q))=(ts.map (·.1)).any λk=>decide (k=q):=by rw[PY];rfl
  have e2:(vs.any λkv=>decide (kv.1=q))=(vs.map (·.1)).any λk=>decide (k=q):=by rw[PY];rfl
  rw[e1,e2,e]
 unfold oM putK;rw[ha];split
 ·rw[z_,z_];have f1:((λx:κ'×T=>x.1) ∘ λkv=>if kv.1=q then(kv.1,t)else kv)=λx=>x.1:=by funext kv;show(if kv.1=q then(kv.1,t)else kv).1=kv.1;split <;> rfl
  have f2:((λx:κ'×V=>x.1) ∘ λkv=>if kv.1=q then(kv.1,w)else kv)=λx=>x.1:=by funext kv;show(if kv.1=q then(kv.1,w)else kv).1=kv.1;split <;> rfl
  rw[f1,f2,e]
 rw[l_,l_,e]
 rfl
theorem tO:∀{ts:List (κ'×T)}{vs:List (κ'×V)} (q:κ') (t:T) (w:V),ts.map (·.1)=vs.map (·.1)->(vs.map (·.1)).Nodup->∃r,((t,some w)::zz (ts.map (·.2)) (vs.map (·.2))).Perm (r++zz ((oM ts q t).map (·.2)) ((putK vs q w).map (·.2))):=by
 intro ts vs q t w e nd;by_cases hm:q∈vs.map (·.1)
 ·
  have ha:(vs.any λkv=>decide (kv.1=q))=true:=by obtain⟨kv,h1,h2⟩:=o_.mp hm;exact Oy.mpr ⟨kv,h1,decide_eq_true h2⟩
  have hb:(ts.any λkv=>decide (kv.1=q))=true:=by rw[<-e]at hm;obtain⟨kv,h1,h2⟩:=o_.mp hm;exact Oy.mpr ⟨kv,h1,decide_eq_true h2⟩
  unfold oM putK;rw[if_pos ha,if_pos hb];clear ha hb;induction ts generalizing vs with
  |nil=>
   have:vs=[]:=by cases vs with|nil=>rfl|cons _ _=>cases e
   subst this;cases hm
  |cons a ts ih=>
   cases vs with
   |nil=>cases e
   |cons b vs=>
    obtain⟨k1,t1⟩:=a;obtain⟨k2,v1⟩:=b;rw[e_,e_,Nn]at e;have ek:k1=k2:=e.1;subst ek;rw[e_,J_]at nd;by_cases hk:k1=q
    ·subst hk;have n1:∀kv∈ts,kv.1≠k1:=λkv hkv z=>nd.1 (by rw[<-e.2];exact o_.mpr ⟨kv,hkv,z⟩)
     have n2:∀kv∈vs,kv.1≠k1:=λkv hkv z=>nd.1 (o_.mpr ⟨kv,hkv,z⟩);have m1:ts.map (λkv=>if kv.1=k1 then(kv.1,t)else kv)=ts:=by
      conv=>rhs;rw[<-QM ts]
      exact nw λkv hkv=>if_neg (n1 kv hkv)
     have m2:vs.map (λkv=>if kv.1=k1 then(kv.1,w)else kv)=vs:=by
      conv=>rhs;rw[<-QM vs]
      exact nw λkv hkv=>if_neg (n2 kv hkv)
     refine⟨[(t1,some v1)],?_⟩;simp only[e_,if_true,m1,m2];exact .swap _ _ _
    have hm':q∈vs.map (·.1):=by
     rcases n_.mp hm with z|z
     ·exact absurd z.symm hk
     exact z
    obtain⟨r,p⟩:=ih e.2 nd.2 hm';refine⟨r,?_⟩;simp only[e_,if_neg hk];show Qe ((t,some w)::(t1,some v1)::zz (ts.map (·.2)) (vs.map (·.2))) (r++((t1,some v1)::zz ((ts.map λkv=>if kv.1=q then(kv.1,t)else kv).map (·.2)) ((vs.map λkv=>if kv.1=q then(kv.1,w)else kv).map (·.2))));exact(NT _ _ _).trans ((p.cons _).trans f_.symm)
 have ha:(vs.any λkv=>decide (kv.1=q))=false:=by rw[PJ];intro z;obtain⟨kv,h1,h2⟩:=Oy.mp z;exact hm (o_.mpr ⟨kv,h1,of_decide_eq_true h2⟩)
 have hb:(ts.any λkv=>decide (kv.1=q))=false:=by rw[PJ];intro z;obtain⟨kv,h1,h2⟩:=Oy.mp z;exact hm (by rw[<-e];exact o_.mpr ⟨kv,h1,of_decide_eq_true h2⟩)
 unfold oM putK;rw[ha,hb];refine⟨[],?_⟩;simp only[C',if_false,O6];rw[l_,l_,mC (by rw[a_,a_];exact i9 e)];exact(Na (l₁:=[(t,some w)]))
end
def Fl:T->T->T->(T->Prop)->Prop
 | .lst true ts,.int i,v,k=>got (ixN ts.length i) λj=>k (.lst true (ts.set j v))
 | .dK true am,y,v,k=>got (zf y) λq=>am.length<sizeLine/\k (.dK true (oM am q v))
 | .dT true am,.tup ks,v,k=>got (j7 ks) λq=>am.length<sizeLine/\k (.dT true (oM am q v))
 | _,_,_,_=>False
section
variable{X:Cx}{κ:Nat->Bool}{pos:Pos}
theorem Cq{P:RC}{h:RM}{am:List (List Key×V)}(ok:HOk P w H h)(e:H a=some (.dT am)):(am.map (·.1)).Nodup:=by
 obtain⟨z,y,xs,r,o,es,ep,h1,h2,h3,h4,h5⟩:=ok a _ e;have:am.map (·.1)=xs.map (·.1):=by
  clear h4 h5 h1 z e;induction r with
  |nil=>rfl
  |cons q _ ih=>rw[e_,e_,ih,q.1]
 rw[this];exact h5
theorem Cc{P:RC}{h:RM}{am:List (Key×V)}(ok:HOk P w H h)(e:H a=some (.dK am)):(am.map (·.1)).Nodup:=by
 obtain⟨z,y,vs,r,o,es,ep,h1,h2,h3,h4,h5,h6⟩:=ok a _ e;have:am.map (·.1)=vs.map (·.1):=by
  clear h6 h5 h4 h1 z e;induction r with
  |nil=>rfl
  |cons q _ ih=>rw[e_,e_,ih,q.1]
 rw[this];exact h6
theorem CA:∀{ts:List T}{vs:List V}{j:Nat}{t:T}{w:V},ts.length=vs.length->j<ts.length->∃r,((t,some w)::zz ts vs).Perm (r::zz (ts.set j t) (vs.set j w))
 | [],vs,j,t,w,l,h=>by cases h
 |a::ts,[],j,t,w,l,h=>by cases l
 |a::ts,b::vs,0,t,w,l,h=>⟨(a,some b),.swap _ _ _⟩
 |a::ts,b::vs,j+1,t,w,l,h=>by obtain⟨r,p⟩:=CA (ts:=ts) (vs:=vs) (j:=j) (t:=t) (w:=w) (by simpa using l) (by simpa using h);exact⟨r,(NT _ _ _).trans ((p.cons _).trans (.swap _ _ _))⟩
theorem LM(hr:Room kr X.A):zi X (λo i v H Q=>∃t ti tv Γ k,Rp X.K H ((t,some o)::(ti,some i)::(tv,some v)::Γ)/\Fl t ti tv k/\∀t' H',k t'->Rp X.K H' ((t',some o)::Γ)->Q H'):=by
 rintro ad s σ H o i v ov iv u Q I ro ri rv ⟨t,ti,tv,Γ,k,rp,g,c⟩;cases t with
 |lst own ts=>
  cases own <;> cases ti <;> first|exact RL g|skip
  rename_i j;obtain⟨m,em,kt⟩:=aJ g;rw[b6 rp.tail]at ri;obtain⟨a,vs,ea,ha,la,dL⟩:=kB rp;cases ea;have hm:m<ts.length:=by have:=(wj em).2.1;exact this
  rw[la]at em;refine BJ ad s σ H _ _ v ov iv u Q I ro ri rv ⟨a,vs,j,m,rfl,rfl,ha,em,λH' hp=>c _ _ kt ?_⟩;obtain⟨r,p⟩:=CA (t:=tv) (w:=v) la hm;have f8:Rp X.K H ((.bare,some (.ref a))::(zz ts vs++((tv,some v)::Γ))):=by
   have:Rp X.K H ((.int j,some i)::((.bare,some (.ref a))::(zz ts vs++((tv,some v)::Γ)))):=dL.perm (by refine t_ (.cons _ f_) ?_;exact .swap _ _ _)
   exact this.tail
  have rp4:Rp X.K H (r::((.bare,some (.ref a))::(zz (ts.set m tv) (vs.set m v)++Γ))):=f8.perm (by refine t_ (.cons _ (f_.trans (p.append_right Γ))) ?_;exact .swap _ _ _)
  exact kj rp4.tail (by rw[K_,K_,la]) hp
 |dK own am=>
  cases own <;> first|exact RL g|skip
  have g:got (zf ti) λq=>am.length<sizeLine/\k (.dK true (oM am q tv)):=by cases ti <;> exact g
  obtain⟨q,eq,hz,kt⟩:=aJ g;rw[AF eq rp.tail]at ri;obtain⟨a,vs,ea,ha,la,dL⟩:=t6 rp;cases ea;cases ro;have hl:vs.length<sizeLine:=by rw[<-i9 la];exact hz
  refine pT (mD hr) I (.inl ⟨vs,q,ha,rfl,hl,rfl⟩) ri rv λs' I'=>⟨_,I',c _ _ kt ?_⟩;obtain⟨r,p⟩:=tO q tv v la (Cc I.hok ha);have f8:Rp X.K H ((.bare,some (.ref a))::(zz (am.map (·.2)) (vs.map (·.2))++((tv,some v)::Γ))):=by
   have:Rp X.K H ((ti,some i)::((.bare,some (.ref a))::(zz (am.map (·.2)) (vs.map (·.2))++((tv,some v)::Γ)))):=dL.perm (by refine t_ (.cons _ f_) ?_;exact .swap _ _ _)
   exact this.tail
  have rp4:Rp X.K H (r++((.bare,some (.ref a))::(zz ((oM am q tv).map (·.2)) ((putK vs q v).map (·.2))++Γ))):=f8.perm (by refine t_ (.cons _ (f_.trans (p.append_right Γ))) ?_;rw[gV];exact f_.symm)
  exact tZ rp4.part (x9 q tv v la) Put.up
 |dT own am=>
  cases own <;> cases ti <;> first|exact RL g|skip
  rename_i ks;obtain⟨q,eq,hz,kt⟩:=aJ g;obtain⟨b,rfl,hb⟩:=ni eq rp.tail;obtain⟨a,vs,ea,ha,la,dL⟩:=rB rp;cases ea;cases ro;have hl:vs.length<sizeLine:=by rw[<-i9 la];exact hz
  refine pT (mD hr) I (.inr ⟨vs,q,b,ha,rfl,hb,hl,rfl⟩) ri rv λs' I'=>⟨_,I',c _ _ kt ?_⟩;obtain⟨r,p⟩:=tO q tv v la (Cq I.hok ha);have f8:Rp X.K H ((.bare,some (.ref a))::(zz (am.map (·.2)) (vs.map (·.2))++((tv,some v)::Γ))):=by
   have:Rp X.K H ((.tup ks,some (.ref b))::((.bare,some (.ref a))::(zz (am.map (·.2)) (vs.map (·.2))++((tv,some v)::Γ)))):=dL.perm (by refine t_ (.cons _ f_) ?_;exact .swap _ _ _)
   exact this.tail
  have rp4:Rp X.K H (r++((.bare,some (.ref a))::(zz ((oM am q tv).map (·.2)) ((putK vs q v).map (·.2))++Γ))):=f8.perm (by refine t_ (.cons _ (f_.trans (p.append_right Γ))) ?_;rw[gV];exact f_.symm)
  exact uv rp4.part (x9 q tv v la) Put.up
 | _=>cases ti <;> exact RL g
def Hq(i:Nat)(fi:PF):PG':=λv env k=>got (env[i]?) λt0=>isAny t0=false/\fi env λti al=>got (al[i]?) λt=>Fl t ti v λt'=>k (al.set i t')
theorem yZ{x:Str}{ix:RI}{fi:PF}(hr:Room kr X.A)(hi:GE X ix fi)(hN:X.N[i]?=some x:=by rfl)(hv:Vis X.env.scope x:=by first|exact bt rfl|exact i' (bt rfl)|exact i' (i' rfl))(hd:(x ==("__debug__":Str))=false:=by decide)(hcd:(x ==("__classdict__":Str))=false:=by decide)
  (ha:∀v,TQ (.Subscript (.Name x xp) ix pos) X.env v=(do
   let ov <-Uy [v] (RY (.Name x xp) X.env)
   let iv <-Uy [v,ov] (RY ix X.env)
   W' pos
   Uy [v,ov,iv] (W_ ov iv v)
   release [v,ov,iv] []):=by intro _;rfl):GG κ X (.Subscript (.Name x xp) ix pos) (Hq i fi):=by
 rintro ad s σ H v u Q I r ⟨tv,env,Fr,k,rs,q,c⟩;obtain⟨t0,e0,na,q⟩:=aJ q;obtain⟨y,ey,rs2⟩:=rs.slot e0;obtain⟨w,rfl⟩:=jw rs2 na;refine ES (kL hN hv hd hcd) hi (LM hr) ha ad s σ H v u Q I r ⟨w,ey,env,(tv,some v)::Fr,_,rs,q,λti al iv H1 q1 ge=>?_⟩;obtain⟨t,et,q1⟩:=aJ q1;obtain⟨y',ey',rs3⟩:=ge.slot et;rw[ey]at ey';cases ey';have hi':i<al.length:=(c_.mp et).1;refine⟨t,ti,tv,(al.set i .any).zip σ++Fr,_,?_,q1,λt' H' kt rp=>c _ _ _ kt ?_ .refl⟩
 ·refine rs3.head.perm (.cons _ ?_);refine t_ f_ (.cons _ ?_);exact f_
 have r4:Rs X.K H' (al.set i .any) σ ((t',some w)::Fr):=.of rs3.1 rp;have r5:=Rs.nQ (i:=i) r4 (by rw[K_];exact hi') ey;rw[OJ]at r5;exact r5
end
open PySem PySem.Spec PyProof.Rows L2
class Th (α:Type) where
 v:α
noncomputable def L6(P:FP)(ts:List T)[k:Th (T->List T->Prop)]:Prop:=P ts k.v
def nC(b:Bool)[A:Th Prop][B:Th Prop]:Prop:=cnd b A.v B.v
def gH(o:Option α)[k:Th (α->Prop)]:Prop:=got o k.v
def C8(fr:List (Option Nat))(be:List T)(g:PG')(ft:PB)(fe:PF)(env:Ev)[k:Th (T->Ev->Prop)]:Prop:=Ib fr be g ft fe env k.v
theorem bI{u:α}{k:Th (α->Prop)}:gH (some u) (k:=k)=k.v u:=rfl
theorem aZ{o:Option α}{u:α}{k:Th (α->Prop)}(e:o=some u)(h:k.v u):gH o (k:=k):=Kc e h
variable {A B:Th Prop}
theorem cT:nC true (A:=A) (B:=B)=A.v:=propext ⟨λh=>h.1 rfl,λh=>Hs h⟩
theorem bC:nC false (A:=A) (B:=B)=B.v:=propext ⟨λh=>h.2 rfl,λh=>Ia h⟩
theorem dY:nC (!b) (A:=A) (B:=B)=nC b (A:=B) (B:=A):=by cases b <;> simp only[Po,Pc,cT,bC]
theorem m5(h1:b=true->A.v)(h2:b=false->B.v):nC b (A:=A) (B:=B):=⟨h1,h2⟩
theorem aO{p:Prop}{d:Decidable p}(h1:p->A.v)(h2:¬p->B.v):nC (decide p) (A:=A) (B:=B):=⟨λh=>h1 (of_decide_eq_true h),λh=>h2 (of_decide_eq_false h)⟩
theorem zO(e:b=true)(h:A.v):nC b (A:=A) (B:=B):=by rw[e];exact Hs h
theorem ng(e:b=false)(h:B.v):nC b (A:=A) (B:=B):=by rw[e];exact Ia h
variable {gt:PG'}{ko:Option Int->Ev->Prop}
section
variable{f g:PF}{env:Ev}{k:T->Ev->Prop}{kb:Bool->Ev->Prop}{tc td:PB}{pe:PEn}{u v:PSt}{fs:PFs}{fa:PAs}{ks:List T->Ev->Prop}{ka:List Arg->Ev->Prop}
theorem jx:fQ f env k=f (erL env) λt _=>dO t=true/\k t env:=rfl
theorem ir:fQT tc env kb=tc (erL env) λb _=>kb b env:=rfl
theorem jB:fK t env k=k t env:=rfl
theorem f7:Hl i env k=gH (env[i]?) (k:=⟨λt=>isAny t=false/\aT t=true/\k t env⟩):=by unfold Hl;cases env[i]? <;> rfl
theorem iC:fFz i env k=gH (env[i]?) (k:=⟨λt=>isAny t=false/\k (er t) (env.set i (er t))⟩):=by unfold fFz;cases env[i]? <;> rfl
theorem iB:fMv i env k=gH (env[i]?) (k:=⟨λt=>isAny t=false/\k t (env.set i .any)⟩):=by unfold fMv;cases env[i]? <;> rfl
theorem dR{p:P2}:Br p f g env k=f env λx al=>g al λy bn=>p x y λt=>k t bn:=rfl
theorem iQ{p:T->(T->Prop)->Prop}:fUn p f env k=f env λt al=>p t λu=>k u al:=rfl
noncomputable def asB(t:T)[k:Th (Bool->Prop)]:Prop:=match t with
 | .bl b=>k.v b
 | _=>False
theorem gX{k:Th (Bool->Prop)}:asB (.bl b) (k:=k)=k.v b:=rfl
theorem fw:GV f env kb=f env λt al=>asB t (k:=⟨λb=>kb b al⟩):=rfl
theorem eO:KL f env kb=f env λt al=>IH t λb=>kb b al:=rfl
theorem cy{p q:P2}{h:PF}:wa p q f g h env k=f env λx al=>g al λy bn=>aT y=true/\p x y λz=>asB z (k:=⟨λb=>nC b (A:=⟨h bn λu cl=>q y u λt=>k t cl⟩) (B:=⟨k (.bl false) bn⟩)⟩):=rfl
theorem d4:HF tc td env kb=tc env λb al=>nC b (A:=⟨td al kb⟩) (B:=⟨kb false al⟩):=rfl
theorem fJ:Kw tc td env kb=tc env λb al=>nC b (A:=⟨kb true al⟩) (B:=⟨td al kb⟩):=rfl
theorem dh:HK tc env kb=tc env λb al=>kb (!b) al:=rfl
theorem eK:Kj f g env k=f env λt al=>asB t (k:=⟨λb=>nC b (A:=⟨g al k⟩) (B:=⟨k (.bl false) al⟩)⟩):=rfl
theorem gY:fOr f g env k=f env λt al=>asB t (k:=⟨λb=>nC b (A:=⟨k (.bl true) al⟩) (B:=⟨g al k⟩)⟩):=rfl
theorem gd:LA f env k=f env λt al=>asB t (k:=⟨λb=>k (.bl (!b)) al⟩):=rfl
theorem eX:IS env ks=ks [] env:=rfl
theorem d3:HP f fs env ks=f env λt al=>fs al λts bn=>ks (t::ts) bn:=rfl
theorem fI:KW fs env k=fs env λts al=>ts.length<=sizeLine/\k (.tup ts) al:=rfl
theorem fN:LH fs env k=fs env λts al=>ts.length<=sizeLine/\k (.lst true ts) al:=rfl
theorem hV{p:P1s}:fCl p fs env k=fs env λts al=>p ts λt=>k t al:=rfl
theorem fq:LJ env ka=ka [] env:=rfl
theorem eY:L5 f fa env ka=f env λt al=>fa al λas bn=>ka (.val t::as) bn:=rfl
theorem eU:IZ i fa env ka=gH (env[i]?) (k:=⟨λt=>isAny t=false/\fa env λas bn=>ka (.bor i::as) bn⟩):=by
 unfold IZ;cases env[i]? with
 |none=>exact propext ⟨λh=>h.1,λh=>h.elim⟩
 |some t=>rfl
theorem fU{n:Nat}:JH n P fa env k=fa env λas al=>as.length=n/\L6 P (lend as al).1 (k:=⟨λt ts'=>k t (back as ts' (lend as al).2)⟩):=rfl
theorem cZ:yf fr fi gt ft fe env k=fi env λbe al=>C8 fr be gt ft fe al (k:=⟨k⟩):=rfl
theorem dw{m:PM}:Ak i m fs env k=gH (env[i]?) (k:=⟨λt0=>isL t0=true/\fs env λts al=>gH (al[i]?) (k:=⟨λt=>m t ts λt' r=>k r (al.set i t')⟩)⟩):=rfl
theorem iz{fl fh:PO'}:fSl f fl fh env k=f env λt al=>fl al λlo bn=>fh bn λhi cl=>slT t lo hi λu=>k u cl:=rfl
theorem eZ:LU env ko=ko none env:=rfl
noncomputable def asI(t:T)[k:Th (Int->Prop)]:Prop:=match t with
 | .int b=>k.v b
 | _=>False
theorem fx{b:Int}{k:Th (Int->Prop)}:asI (.int b) (k:=k)=k.v b:=rfl
theorem eP:L3 f env ko=f env λt al=>asI t (k:=⟨λi=>ko (some i) al⟩):=rfl
theorem dD:HW pe env=pe.nx env:=rfl
theorem fP:Lp u v pe env=u {pe with nx:=v pe} env:=rfl
theorem df:HM f pe env=f env λ_ al=>pe.nx al:=rfl
theorem fC:M6 f pe env=f env λt al=>pe.rt t al:=rfl
theorem i6:sIf tc u v pe env=tc env λb al=>nC b (A:=⟨u pe al⟩) (B:=⟨v pe al⟩):=rfl
theorem gp:GN i f pe env=f env λt al=>pe.nx (al.set i t):=rfl
theorem fW:M0 f gt pe env=f env λt al=>gt t al pe.nx:=rfl
noncomputable def asP(ts:List T)(k:T->T->Prop):Prop:=match ts with
 | [t,u]=>k t u
 | _=>False
theorem ij{u:T}{k:T->T->Prop}:asP [t,u] k=k t u:=rfl
theorem fX:Lb i j fs pe env=fs env λts al=>asP ts λt u=>pe.nx ((al.set i t).set j u):=rfl
theorem gf:KZ fi gt u pe env=fi env λbe al=>forL be gt u pe al:=rfl
variable{t:T}{ke:Ev->Prop}{ts:List T}{gt:PG'}{gts:pW}
theorem jC:gN i t env ke=ke (env.set i t):=rfl
theorem fY:HH [] env ke=ke env:=propext ⟨λh=>h.2,λh=>⟨rfl,h⟩⟩
theorem d8:Eg gt gts (t::ts) env ke=gt t env λal=>gts ts al ke:=rfl
theorem gu{n:Nat}:gTp n gts (.tup ts) env ke=(ts.length=n/\gts ts env ke):=rfl
theorem dc{fi:PF}:Hq i fi t env ke=gH (env[i]?) (k:=⟨λt0=>isAny t0=false/\fi env λti al=>gH (al[i]?) (k:=⟨λt1=>Fl t1 ti t λt'=>ke (al.set i t')⟩)⟩):=rfl
variable{ki:List T->Ev->Prop}
theorem fm:Lw f env ki=f env λt al=>gH (items t) (k:=⟨λts=>ki (erL ts) al⟩):=rfl
noncomputable def as1(ts:List T)(k:Int->Prop):Prop:=match ts with
 | [.int j]=>k j
 | _=>False
noncomputable def as2(ts:List T)(k:Int->Int->Prop):Prop:=match ts with
 | [.int i,.int j]=>k i j
 | _=>False
theorem il{j:Int}{k:Int->Prop}:as1 [.int j] k=k j:=rfl
theorem iI{i j:Int}{k:Int->Int->Prop}:as2 [.int i,.int j] k=k i j:=rfl
theorem iq:iR1 fs env ki=fs env λts al=>as1 ts λj=>(-(2 ^ 62)<=j/\j<2 ^ 62)/\ki (qL 0 j.toNat) al:=rfl
theorem iG:iR2 fs env ki=fs env λts al=>as2 ts λi j=>(-(2 ^ 62)<=i/\i<2 ^ 62/\-(2 ^ 62)<=j/\j<2 ^ 62)/\ki (qL i (j-i).toNat) al:=rfl
theorem iL:iZp fs env ki=fs env λts al=>asP ts λt u=>gH (items t) (k:=⟨λas=>gH (items u) (k:=⟨λbs=>ki (((erL as).zip (erL bs)).map λp=>.tup [p.1,p.2]) al⟩)⟩):=rfl
noncomputable def asO(ts:List T)(k:T->Prop):Prop:=match ts with
 | [t]=>k t
 | _=>False
theorem iM{t:T}{k:T->Prop}:asO [t] k=k t:=rfl
theorem ip:iEn fs env ki=fs env λts al=>asO ts λt=>gH (items t) (k:=⟨λas=>ki ((w_ as.length).zipWith (λ(i:Nat) (x:T)=>T.tup [.int (i:Int),x]) (erL as)) al⟩):=rfl
end
variable {am:List (List Key×T)}
section
variable{k:T->Prop}{i j l:Int}{x y:Str}{ts us:List T}{o o' b c:Bool}{t:T}
theorem fG:Jh (.int i) (.int j) k=k (.int (i+j)):=rfl
theorem eg:Jh (.lst o ts) (.lst o' us) k=(ts.length+us.length<=sizeLine/\k (.lst true (ts++us))):=rfl
theorem eA:Lc (.int i) (.int j) k=k (.int (i-j)):=rfl
theorem eV:Ku (.int i) (.int j) k=(yO i j/\k (.int (i*j))):=rfl
theorem eF:M3 (.int i) (.int j) k=(Hd i j/\k (.int (i/j))):=rfl
theorem gj:LR (.int i) (.int j) k=(0<j/\k (.int (i%j))):=rfl
theorem hC:ltT (.int i) (.int j) k=k (.bl (decide (i<j))):=rfl
theorem gS:leT (.int i) (.int j) k=k (.bl (decide (i<=j))):=rfl
theorem ig:gtT (.int i) (.int j) k=k (.bl (decide (j<i))):=rfl
theorem iN:KU (.int i) k=k (.int (-i)):=rfl
noncomputable def iT(ns:List Int):T:=.tup (ns.map T.int)
theorem eN:Lo t .non k=(isV t=true/\k (.bl (uD t))):=by cases t <;> rfl
theorem dW:ixT (.tup ts) (.int i) k=gH (atI ts i) (k:=⟨k⟩):=rfl
theorem fV:ixT (.cst ts) (.int i) k=gH (atI ts i) (k:=⟨k⟩):=rfl
theorem fE:ixT (.lst o ts) (.int i) k=gH (atI ts i) (k:=⟨k⟩):=rfl
theorem dF:j7 []=some []:=rfl
theorem d9:j7 (.int i::ts)=(j7 ts).map λks=>So i::ks:=by rw[j7];cases j7 ts <;> rfl
theorem ju(a:α)(l:List α):atI (a::l) 0=some a:=j8 (j:=0) rfl
theorem jF(a b:α)(l:List α):atI (a::b::l) 1=some b:=j8 (j:=1) rfl
theorem jH(a b c:α)(l:List α):atI (a::b::c::l) 2=some c:=j8 (j:=2) rfl
theorem jt(a b c d:α)(l:List α):atI (a::b::c::d::l) 3=some d:=j8 (j:=3) rfl
theorem jz(a b c d e:α)(l:List α):atI (a::b::c::d::e::l) 4=some e:=j8 (j:=4) rfl
theorem jD(a b c d e f:α)(l:List α):atI (a::b::c::d::e::f::l) 5=some f:=j8 (j:=5) rfl
theorem jE(a b c d e f g:α)(l:List α):atI (a::b::c::d::e::f::g::l) 6=some g:=j8 (j:=6) rfl
theorem jA(a b c d e f g h:α)(l:List α):atI (a::b::c::d::e::f::g::h::l) 7=some h:=j8 (j:=7) rfl
theorem d5:Fi [.lst o ts] k=k (.int ts.length):=rfl
theorem dX:Fi [.dT o am] k=k (.int am.length):=rfl
theorem iH:Lx [.int i] k=k (.int i.natAbs):=rfl
theorem gZ:EA [.int i,.int j] k=k (.int (max i j)):=rfl
theorem hG:EA [.int i,.int j,.int l] k=k (.int (max (max i j) l)):=rfl
theorem ik:E5 [.int i,.int j] k=k (.int (min i j)):=rfl
theorem iE:E5 [.int i,.int j,.int l] k=k (.int (min (min i j) l)):=rfl
theorem iu:EA [.lst o ts] k=gH (intsOf ts) (k:=⟨λns=>ns≠[]/\∀r,jT ns r->k (.int r)⟩):=rfl
theorem iA:E5 [.lst o ts] k=gH (intsOf ts) (k:=⟨λns=>ns≠[]/\∀r,jS ns r->k (.int r)⟩):=rfl
theorem iO:IT [.bl b] k=k (.int (if b then 1 else 0)):=rfl
theorem cY:qi [.lst o ts] k=k (.tup ts):=rfl
theorem iK:Jd [.lst o ts] k=gH (boolsOf ts) (k:=⟨λbs=>k (.bl (bs.all id))⟩):=rfl
theorem i4:IG [.lst o ts] k=gH (boolsOf ts) (k:=⟨λbs=>k (.bl (bs.any id))⟩):=rfl
theorem jJ{lo hi:Option Int}:slT (.lst o ts) lo hi k=k (.lst true (nB ts lo hi)):=rfl
theorem gU{kb:Bool->Prop}:IH (.bl b) kb=kb b:=rfl
variable{km:T->T->Prop}
theorem bj:vH (.lst true ts) [t] km=(ts.length<sizeLine/\km (.lst true (ts++[t])) .non):=rfl
theorem bg:vO (.lst true ts) [.lst true us] km=(ts.length+us.length<=sizeLine/\km (.lst true (ts++us)) .non):=rfl
theorem aW:rj (.lst true ts) [] km=km (.lst true ts.reverse) .non:=rfl
theorem bz:vY (.lst true ts) [.int i,t] km=((0<=i/\i<=(ts.length:Int)/\ts.length<2 ^ 20)/\km (.lst true (ts.take i.toNat++t::ts.drop i.toNat)) .non):=rfl
theorem eR:Fl (.dT true am) (.tup ts) t k=gH (j7 ts) (k:=⟨λq=>am.length<sizeLine/\k (.dT true (oM am q t))⟩):=rfl
end
theorem aY(g:α->T)(l:List α):bB (l.map g)=l.all λx=>aT (g x):=by rw[nO,NV];rfl
theorem aR(g:α->T)(l:List α):dN (l.map g)=l.all λx=>dO (g x):=by rw[kO,NV];rfl
theorem ck(l m:List T):dN (l++m)=(dN l&&dN m):=by rw[kO,kO,kO,List.all_append]
theorem cO(l:List α):(l.all λ_=>true)=true:=by induction l with|nil=>rfl|cons _ _ ih=>rw[Qw,ih];rfl
theorem cG:isAny (.non)=false:=rfl
theorem eJ:isV (.non)=true:=rfl
theorem cn:uD (.non)=true:=rfl
theorem dA:isAny (.bl b)=false:=rfl
theorem cD{i:Int}:isAny (.int i)=false:=rfl
theorem cm{x:Str}:isAny (.str x)=false:=rfl
theorem gC:isAny (.ty n)=false:=rfl
theorem bT:isAny (.tup ts)=false:=rfl
theorem bZ:isAny (.cst ts)=false:=rfl
theorem bY:isAny (.lst o ts)=false:=rfl
theorem d7:isAny (.dT o am)=false:=rfl
theorem fg:isL (.lst o ts)=true:=rfl
theorem cu:items (.tup ts)=some ts:=rfl
theorem bM:items (.lst o ts)=some ts:=rfl
variable {be:List T}
theorem cQ{g:PG'}{fb:PSt}{pe:PEn}(W:Nat->Ev->Prop)(h0:W 0 env)(ht:∀i t env,W i env->be[i]?=some t->g t env λbn=>fb {pe with nx:=W (i+1),ct:=W (i+1),bk:=pe.nx} bn)(he:∀env,W be.length env->pe.nx env):forL be g fb pe env:=⟨W,h0,ht,he⟩
theorem aQ{g:PG'}{k:Th (T->Ev->Prop)}(hz:be.length<sizeLine)(W:Nat->List T->Ev->Prop)(h0:W 0 [] (lend (frA fr) env).1)(ht:∀i t acc ie,W i acc ie->be[i]?=some t->g t ie λie2=>ft ie2 λb ie3=>nC b (A:=⟨fe ie3 λu ie4=>W (i+1) (acc++[u]) ie4⟩) (B:=⟨W (i+1) acc ie3⟩))
  (he:∀acc ie,W be.length acc ie->k.v (.lst true acc) (back (frA fr) ie (lend (frA fr) env).2)):C8 fr be g ft fe env (k:=k):=⟨hz,W,h0,ht,he⟩
noncomputable def vS(F:T->List T)(be:List T)(i:Nat):List T:=(be.take i).flatMap F
theorem BC{F:T->List T}(ei:be[i]?=some t):vS F be (i+1)=vS F be i++F t:=by unfold vS;rw[List.take_succ,ei,OC];show _++List.flatMap F [t]=_;rw[Qh]
theorem Gp{g:PG'}{k:Th (T->Ev->Prop)}(F:T->List T)(Ok:Ev->Prop)(hz:be.length<sizeLine)(h0:Ok (lend (frA fr) env).1)
  (ht:∀i t ie,be[i]?=some t->Ok ie->g t ie λie2=>ft ie2 λb ie3=>nC b (A:=⟨fe ie3 λu ie4=>vS F be i++[u]=vS F be (i+1)/\Ok ie4⟩) (B:=⟨vS F be i=vS F be (i+1)/\Ok ie3⟩))
  (he:∀ie,Ok ie->k.v (.lst true (be.flatMap F)) (back (frA fr) ie (lend (frA fr) env).2)):C8 fr be g ft fe env (k:=k):=by
 refine⟨hz,λi acc ie=>acc=vS F be i/\Ok ie,⟨rfl,h0⟩,?_,?_⟩
 ·rintro i t acc ie ⟨rfl,ok⟩ ei;exact ht i t ie ei ok
 rintro acc ie ⟨rfl,ok⟩;unfold vS;rw[yp];exact he ie ok
noncomputable def sq(b:Bool)(ts:List T):T:=match b with
 |true=>.tup ts
 |false=>.lst false ts
abbrev pt(x y:Int):T:=.tup [.int x,.int y]
end PL
namespace ZG
open PySem
open Sem (wp)
theorem B2{prog:RC}{w:RK}{A:RS}(hh:A.handled=none)(it d:Rt)(jp:d≠it)(o:Obj)(es:Array SY)(ep:Nat)(hd:o.data=.dict es ep) :
  Walks prog w A it [it,d] [it] es.size (λi v=>∃e,es[i]?=some e/\v=e.key) (λi h=>h.IsKeyIter it d i es.size ep/\h.get? d=some o) where
 sub:=λb hb=>by simp at hb;simp[hb]
 frame:=λ_ _ _ st hk=>⟨st.1.at λo e=>hk it (by simp) o e,hk d (by simp) o st.2⟩
 item:=λi s Q E hi st hQ=>by have hx:es[i]?=some es[i]:=v_ hi;refine Hx st.1 st.2 hd hx λh' hit' hs'=>?_;exact hQ _ h' s.toks ⟨_,hx,rfl⟩ ⟨hit',hs'.extBut d o jp st.2⟩ λb o hb e=>hs'.extBut b o (λz=>hb (by simp[z])) e
 done:=λs Q E st hQ=>LO hh st.1 st.2 hd (N_ (b_ _)) λh' he'=>hQ h' s.toks λb o hb e=>he' b o (λz=>hb (by simp[z])) e
 self:=λ_ _ _ _ st hQ=>V4 st.1 hQ
theorem Gj{prog:RC}{w:RK}{d:Rt}{o:Obj}{es:Array SY}{ep:Nat}(lo:(d == R5)=false)(hc:o.ExactDict)(hd:o.data=.dict es ep) :
  PySem.W.KdlSrc prog w "dict" d d es.size (λi v=>∃e,es[i]?=some e/\v=e.key) (λh=>h.get? d=some o) where
 type:=λ_ hm=>⟨o,hm,hc.1⟩
 there:=λ_ hm=>⟨RE hm,RE hm⟩
 keep:=λ_ _ hm hk=>hk d (.inl rfl) o hm
 notList:=by decide
 notTuple:=by decide
 hint:=λ_ _ _ _ hm hq=>PySem.W.kdl_hint_dict ⟨o,hm,hc.1⟩ hq
 iter:=λ_ _ hh hm=>⟨_,_,(λ_ _ hq=>Ej lo hm hc hd hq),B2 hh _ d (s_ (RE hm)) o es ep hd,⟨⟨_,RF _ rfl,rfl,rfl⟩,Rx _ hm⟩⟩
end ZG
namespace L2
open PySem PySem.Spec PyProof.Rows
section
variable{X:Cx}
theorem z0(hc:X.calm=true):dJ X (.type "list") (λxs H Q=>∃d am,xs=[.ref d]/\Rd H d (.dT am)/\∀bs:List Rt,Tv (λ(b:Rt) (p:List Key×V)=>H b=some (.tup (p.1.map kV))) bs am->(am.map (·.1)).Nodup->New (.lst (bs.map V.ref)) H Q):=by
 intro ad s σ H xs us Q I r h;obtain⟨d,am,rfl,hd,q⟩:=h;obtain⟨u,rfl,ru⟩:=vals1 r;cases ru;obtain⟨z,lo,xs,kt,o,es,ep,g1,g2,g3,g4,g5⟩:=(show cV X.prog X.w H s.heap d (.dT am)from hd.ok I.hok);have hes:es.size=am.length:=by rw[<-h_,g4,a_];exact(Sn kt).symm
 refine PySem.W.kdl_call (ZG.Gj lo g2 g3) (I.ok.hd hc) g1 (by lia) λh' tk acc c kp e it=>?_
 have hacc:acc.toList=(xs.map λx=>x.2.1).map RV:=by
  refine QH λj=>?_;rw[i_,k_,k_];by_cases hj:j<es.size
  ·have hx:j<xs.length:=by rw[<-h_,g4,a_]at hj;exact hj
   have hja:j<acc.size:=by rw[it.1];exact hj
   have ha:acc[j]?=some acc[j]:=v_ hja;obtain⟨en,e1,e2⟩:=it.2 j _ ha;rw[ha,e2,d_ hx];rw[<-i_,g4,k_,d_ hx]at e1;cases e1
   rfl
  have hx:¬j<xs.length:=by rw[<-h_,g4,a_]at hj;exact hj
  rw[N_ (by rw[it.1];lia),Nx (by lia)]
  rfl
 have rel:∀(l:List Rt),Vals (l.map V.ref) (l.map RV):=λl=>by
  induction l with
  |nil=>exact .nil
  |cons a t ih=>exact .cons rfl ih
 have hq:∀{lm:List (List Key×V)}{xs':List (List Key×Rt×Rq)},KT H lm xs'->Tv (λ(b:Rt) (p:List Key×V)=>H b=some (.tup (p.1.map kV))) (xs'.map λx=>x.2.1) lm:=λ{lm xs'} k=>by
  induction k with
  |nil=>exact .nil
  |cons h t ih=>exact .cons h.2.1 ih
 have ek:∀{lm:List (List Key×V)}{xs':List (List Key×Rt×Rq)},KT H lm xs'->lm.map (·.1)=xs'.map λx=>x.1:=λ{lm xs'} k=>by
  induction k with
  |nil=>rfl
  |cons h t ih=>rw[e_,e_,ih,h.1]
 have e':h'.get? s.heap.objs.size=some { cls:=.type "list",dict:=none,data:=.seq ((xs.map λx=>x.2.1).map RV).toArray c,slots:=#[] }:=by rw[<-hacc];exact e
 exact⟨.ref s.heap.objs.size,_,I.laid (t':=tk) kp (b_ _) (show cV X.prog X.w _ h' _ (.lst ((xs.map λx=>x.2.1).map V.ref))from⟨by rw[a_,a_,<-Sn kt];omega,_,c,rel _,e'⟩),rfl,(q _ (hq kt) (by rw[ek kt];exact g5)).at (I.hok.fresh (b_ _))⟩
abbrev uP(K:Rr)(H:Hp):List V->List (List Int)->Prop:=Tv λv k=>k≠[]/\∃b,v=.ref b/\SqT K H b (k.map V.int)
theorem EL{ad:List (Rt×Obj)}{σ:St}{H:Hp}{s:Ru}(I:Inv X ad σ H s):∀{ys:List V}{be:List Rq}{ks:List (List Int)},Vals ys be->uP X.K H ys ks->(∀v∈be,ZS.FJ s.heap v/\∃b,v=.ref b/\ZS.oV s.heap v≠[]/\SqT X.K H b ((ZS.oV s.heap v).map V.int))/\be.map (ZS.oV s.heap)=ks:=by
 intro ys be ks x;induction x generalizing ks with
 |nil=>intro r;cases r;exact⟨λv hv=>(nomatch hv),rfl⟩
 | @cons v _ _ be hv tv ih=>
  intro r;rcases r with _|⟨hk,tk⟩;rename_i k ks;obtain⟨jp,b,rfl,hb⟩:=hk;cases hv;obtain⟨j1,j2⟩:=ih tk;obtain⟨its',r',⟨o,ho,hc,n,hd⟩,hz⟩:=I.tuple hb;obtain⟨ps,e1,e2⟩:=gD r';have kv:ZS.oV s.heap (.ref b)=k:=by
   rw[ZS.rb ho hd];show its'.map ZS.qJ=k;rw[e1,z_,<-e2]
   rfl
  refine⟨λw hw=>?_,by rw[e_,kv,j2]⟩;rcases n_.mp hw with e|e
  ·subst e;refine⟨⟨b,o,_,n,rfl,ho,hc,hd,λv hv=>?_,?_⟩,b,rfl,by rw[kv];exact jp,by rw[kv];exact hb⟩
   ·have hv:v∈its':=hv;rw[e1]at hv;obtain⟨p,_,e⟩:=o_.mp hv;exact⟨p.1,p.2,e.symm⟩
   rw[g_,e1,a_,<-a_ (f:=(·.1)),e2];exact N2.mpr jp
  exact j1 w e
theorem BO:∀{ys:List V}{us:List Rq}{u:Rq}{b:Rt},Vals ys us->u∈us->u=.ref b->V.ref b∈ys:=by
 intro ys us u b x;induction x with
 |nil=>intro h _;cases h
 | @cons y _ _ _ r t ih=>
  intro h e;rcases n_.mp h with z|h
  ·subst z;subst e;have:y=.ref b:=RelV.inj r (show RelV (.ref b) (.ref b)from rfl);rw[this];exact x_
  exact q_ _ (ih h e)
theorem vD:dJ X (.builtin "sorted") (λxs H Q=>∃p ys ks,xs=[.ref p]/\SqL X.K H p ys/\uP X.K H ys ks/\∀zs ls,uP X.K H zs ls->(∀v∈zs,v∈ys)->ls.Perm ks->ls.Pairwise (λx y=>ZS.ltL y x=false)->New (.lst zs) H Q):=by
 intro ad s σ H xs us Q I r h;obtain⟨p,ys,ks,rfl,hq,hr,q⟩:=h;obtain⟨u,rfl,ru⟩:=vals1 r;cases ru;obtain⟨be,rv,pl,hz⟩:=I.list hq;have hlen:=rv.length;obtain⟨f1,f2⟩:=EL I rv hr;refine ZS.su (kd:=Wn true) (rk:=λx=>ZS.rnk ZS.ltL ks (ZS.oV s.heap x.1)) (S:=λx=>x.1∈be) pl.isList (by lia) (λv hv=>hv) (λh' kp {Q}{E} jp q=>ZS.EI (h0:=s.heap) (λv hv=>(f1 v hv).1) (λb o e _=>kp b o e) jp q)
  (λh' E kp=>ZS.D5 (h0:=s.heap) (ks:=ks) (λx hx=>⟨(f1 _ hx).1,by rw[<-f2];exact I_ hx⟩) λb o e _=>kp b o e) λo a c h' op os ha kp e=>?_
 have mem:∀v∈o,v∈be:=λv hv=>op.mem_iff.mp hv;have mk:∀(l:List Rq),(∀v∈l,v∈be)->∃zs,Vals zs l/\uP X.K H zs (l.map (ZS.oV s.heap))/\zs.length=l.length/\∀v∈zs,v∈ys:=by
  intro l;induction l with
  |nil=>exact λ_=>⟨[],.nil,.nil,rfl,λv hv=>(by cases hv)⟩
  |cons v t ih=>
   intro hl;obtain⟨zs,k1,k2,k3,k6⟩:=ih λv hv=>hl v (.tail _ hv);obtain⟨_,b,e,k4,k5⟩:=f1 v (hl v (.head _));refine⟨.ref b::zs,.cons e k1,.cons ⟨k4,b,rfl,k5⟩ k2,by rw[j_,j_,k3],λw hw=>?_⟩;rcases n_.mp hw with rfl|hw
   ·exact BO rv (hl v (.head _)) e
   exact k6 w hw
 obtain⟨zs,k1,k2,k3,k6⟩:=mk o mem;refine⟨.ref a,_,I.laid (t':=s.toks) kp ha (show cV X.prog X.w _ h' _ (.lst zs)from⟨by rw[k3,op.length_eq];lia,o,c,k1,e⟩),rfl,(q zs _ k2 k6 ?_ ?_).at (I.hok.fresh ha)⟩
 ·rw[<-f2];exact op.map _
 rw[Nc];refine OI (λ{x y} hx hy hxy=>?_) os;cases z:ZS.ltL (ZS.oV s.heap y) (ZS.oV s.heap x)
 ·rfl
 have:=ZS.zr ZS.vy (ks:=ks) (by rw[<-f2];exact I_ (mem y hy)) z;exact absurd this (QY.mpr hxy)
abbrev Cg(H:Hp):List V->List (List Int)->Prop:=Tv λv k=>k≠[]/\∃b,v=.ref b/\H b=some (.tup (k.map V.int))
end
end L2
namespace PL
open PySem PySem.Spec PyProof.Rows L2
section
variable{κ:Type}{lt:κ->κ->Bool}
noncomputable def Bv(lt:κ->κ->Bool)(x:κ):List κ->List κ
 | []=>[x]
 |y::r=>if lt y x=true then y::Bv lt x r else x::y::r
def BW(lt:κ->κ->Bool):List κ->List κ
 | []=>[]
 |x::r=>Bv lt x (BW lt r)
theorem qg(x:κ):∀l:List κ,(Bv lt x l).Perm (x::l)
 | []=>.refl _
 |y::r=>by
  rw[Bv];split
  ·exact((qg x r).cons y).trans (.swap _ _ _)
  exact .refl _
theorem jj:∀l:List κ,(BW lt l).Perm l
 | []=>.refl _
 |x::r=>(qg x _).trans ((jj r).cons x)
theorem qG(T:ZS.Tot lt)(x:κ):∀{l:List κ},l.Pairwise (λa b=>lt b a=false)->(Bv lt x l).Pairwise (λa b=>lt b a=false)
 | [],_=>OP _ _
 |y::r,h=>by
  rw[NL]at h;rw[Bv];split
  ·rename_i hy;rw[NL];refine⟨λb hb=>?_,qG T x h.2⟩;rcases n_.mp ((qg x r).mem_iff.mp hb)with rfl|hb
   ·cases z:lt b y
    ·rfl
    have:=T.tr _ _ _ z hy;rw[T.irr]at this;cases this
   exact h.1 b hb
  rename_i hy;have hy:lt y x=false:=PJ.mpr hy;rw[NL];refine⟨λb hb=>?_,NL.mpr h⟩;rcases n_.mp hb with rfl|hb
  ·exact hy
  cases z:lt b x
  ·rfl
  have h1:=h.1 b hb;cases w:lt y b
  ·have:=T.tot _ _ h1 w;subst this;rw[z]at hy;cases hy
  have:=T.tr _ _ _ w z;rw[hy]at this;cases this
theorem lU(T:ZS.Tot lt):∀l:List κ,(BW lt l).Pairwise (λa b=>lt b a=false)
 | []=>OQ
 |x::r=>qG T x (lU T r)
theorem qy(T:ZS.Tot lt):∀{l m:List κ},l.Perm m->l.Pairwise (λa b=>lt b a=false)->m.Pairwise (λa b=>lt b a=false)->l=m
 | [],m,p,_,_=>(List.Perm.nil_eq p)
 |a::l,[],p,_,_=>(List.Perm.eq_nil p)
 |a::l,b::m,p,h,g=>by
  rw[NL]at h g;have e:a=b:=by
   have ha:a∈b::m:=p.mem_iff.mp x_;have hb:b∈a::l:=p.mem_iff.mpr x_;rcases n_.mp ha with e|ha
   ·exact e
   rcases n_.mp hb with e|hb
   ·exact e.symm
   exact T.tot _ _ (g.1 a ha) (h.1 b hb)
  subst e;rw[qy T (List.Perm.cons_inv p) h.2 g.2]
theorem qU(T:ZS.Tot lt){l m:List κ}(p:l.Perm m)(h:l.Pairwise (λa b=>lt b a=false)):l=BW lt m:=
 qy T (p.trans (jj m).symm) h (lU T m)
end
abbrev rG(ks:List (List Int)):List (List Int):=BW ZS.ltL ks
def rowOf:T->Option (List Int)
 | .tup ts=>match intsOf ts with
  |some (n::r)=>some (n::r)
  | _=>none
 | _=>none
def rowsOf:List T->Option (List (List Int))
 | []=>some []
 |t::r=>match rowOf t,rowsOf r with
  |some k,some ks=>some (k::ks)
  | _,_=>none
theorem DK{t:T}{k:List Int}(h:rowOf t=some k):t=iT k/\k≠[]:=by
 cases t <;> first|cases h|skip
 rename_i ts;rw[rowOf]at h;split at h
 ·rename_i n r e;cases h;exact⟨by rw[k7 e];rfl,by simp⟩
 cases h
theorem DI{k:List Int}(h:k≠[]):rowOf (iT k)=some k:=by
 cases k with
 |nil=>exact absurd rfl h
 |cons n r=>
  show(match intsOf ((n::r).map T.int)with|some (n::r)=>some (n::r) | _=>none)=_;rw[zD]
theorem uQ:∀{ts:List T}{ks:List (List Int)},rowsOf ts=some ks->ts=ks.map iT/\∀k∈ks,k≠[]
 | [],ks,h=>by cases h;exact⟨rfl,λk hk=>by cases hk⟩
 |t::ts,ks,h=>by
  rw[rowsOf]at h;split at h
  ·rename_i k r e1 e2;cases h;obtain⟨h1,h2⟩:=DK e1;obtain⟨h3,h4⟩:=uQ e2;refine⟨by rw[h1,h3];rfl,λq hq=>?_⟩;rcases n_.mp hq with rfl|hq
   ·exact h2
   exact h4 q hq
  cases h
theorem yL{ks:List (List Int)}(h:∀k∈ks,k≠[]):rowsOf (ks.map iT)=some ks:=by
 induction ks with
 |nil=>rfl
 |cons k r ih=>
  rw[e_,rowsOf,DI (h k x_),ih λq hq=>h q (q_ _ hq)]
variable {H:Hp}
section
variable{X:Cx}
theorem x6{K:Rr}{H:Hp}{Γ:Fm}:∀{ks:List (List Int)}{vs:List V},(∀k∈ks,k≠[])->(ks.map iT).length=vs.length->Rp K H (zz (ks.map iT) vs++Γ)->uP K H vs ks/\∀v∈vs,∃(b:Rt) (k:List Int),v=.ref b/\H b=some (.tup (k.map V.int))
 | [],[],_,_,_=>⟨.nil,λv hv=>by cases hv⟩
 | [],_::_,_,l,_=>by cases l
 | _::_,[],_,l,_=>by cases l
 |k::ks,v::vs,n,l,h=>by
  have h:Rp K H ((iT k,some v)::(zz (ks.map iT) vs++Γ)):=h;obtain⟨a,us,rfl,ha,la,h2⟩:=nA h;have eu:=jY la h2;subst eu;obtain⟨r1,r2⟩:=x6 (λq hq=>n q (q_ _ hq)) (by simpa using l) h.tail;refine⟨.cons ⟨n k x_,a,rfl,SqT.of ha⟩ r1,λw hw=>?_⟩;rcases n_.mp hw with rfl|hw
  ·exact⟨a,k,rfl,ha⟩
  exact r2 w hw
theorem rF{K:Rr}{H:Hp}{Γ:Fm}:∀{ks:List (List Int)}{vs:List V},Cg H vs ks->Rp K H Γ->Rp K H (zz (ks.map iT) vs++Γ)/\(ks.map iT).length=vs.length
 | [],_,r,h=>by cases r;exact⟨h,rfl⟩
 |k::ks,_,r,h=>by rcases r with _|⟨hd,t⟩;rename_i v vs;obtain⟨_,b,e,hb⟩:=hd;obtain⟨h1,l1⟩:=rF t h;subst e;refine⟨?_,by simp at l1 ⊢;exact l1⟩;show Rp K H ((iT k,some (.ref b))::(zz (ks.map iT) vs++Γ));exact kG (ts:=k.map T.int) (vs:=k.map V.int) (rp_intsP k h1) (by rw[a_,a_]) .iW hb
where
 rp_intsP {Γ:Fm}:∀(ns:List Int),Rp K H Γ->Rp K H (zz (ns.map T.int) (ns.map V.int)++Γ)
 | [],h=>h
 | _::r,h=>dH (rp_intsP r h) λ_=>.int
theorem FF{K:Rr}:∀{zs:List V}{ls:List (List Int)},(∀v∈zs,∀b,v=.ref b->∀xs,SqT K H b xs->H b=some (.tup xs))->uP K H zs ls->Cg H zs ls:=by
 intro zs ls h r;induction r with
 |nil=>exact .nil
 |cons hk t ih=>
  obtain⟨n,b,e,hb⟩:=hk;exact .cons ⟨n,b,e,h _ x_ b e _ hb⟩ (ih λv hv=>h v (q_ _ hv))
end
section
variable{X:Cx}{pos:Pos}
def Gb:P1s:=λts k=>match ts with
 | [.lst b us]=>isD (.lst b us)=true/\shD (dt (.lst b us))=true/\dpt (dt (.lst b us))<180/\(toPy (dt (.lst b us))).bulk<=2 ^ 20/\k (.str (toPy (dt (.lst b us))).shown)
 | [.tup us]=>isD (.tup us)=true/\shD (dt (.tup us))=true/\dpt (dt (.tup us))<180/\(toPy (dt (.tup us))).bulk<=2 ^ 20/\k (.str (toPy (dt (.tup us))).shown)
 | _=>False
theorem zR{K:Rr}{ds:List Dt}{x:V}(h:Has K H (.lst ds) x\/Has K H (.tup ds) x):∃a,x=.ref a:=by rcases h with h|h <;>(rw[Has]at h;obtain⟨a,_,rfl,_⟩:=h;exact⟨a,rfl⟩)
theorem mS{kr:Nat}(hr:Room kr X.A):jV X (.type "str") Gb:=by
 rintro ad s σ H xs us Q I r ⟨ts,Γ,k,l,rp,g,c⟩;have hu:=hr.un;unfold Gb at g;split at g
 ·obtain⟨g1,g2,g3,g4,g5⟩:=g;obtain⟨x,rfl⟩:=zz1 l rfl;have rp:Rp X.K H ((_,some x)::Γ):=rp;have h:=Ce rp g1;obtain⟨a,rfl⟩:=zR (.inl h);exact tQ hr.gs ad s σ H _ us Q I r ⟨a,_,rfl,h,g2,by lia,g4,c _ _ _ g5 (dH rp.tail λ_=>.str)⟩
 ·obtain⟨g1,g2,g3,g4,g5⟩:=g;obtain⟨x,rfl⟩:=zz1 l rfl;have rp:Rp X.K H ((_,some x)::Γ):=rp;have h:=Ce rp g1;obtain⟨a,rfl⟩:=zR (.inr h);exact tQ hr.gs ad s σ H _ us Q I r ⟨a,_,rfl,h,g2,by lia,g4,c _ _ _ g5 (dH rp.tail λ_=>.str)⟩
 exact g.elim
theorem ow{κ:Type}[DecidableEq κ]:∀(a:List (κ×V)) (b:List (κ×V)),((a++b).map (·.1)).Nodup->b.foldl (λacc kv=>putK acc kv.1 kv.2) a=a++b
 |a,[],_=>by rw[H_];rfl
 |a,(q,x)::b,h=>by
  have h':((a++[(q,x)]++b).map (·.1)).Nodup:=by rw[gV];exact h
  have nq:(a.any λkv=>decide (kv.1=q))=false:=by rw[QK];intro y my e;rw[l_,Oh]at h;exact h.2.2 y.1 (I_ my) q (x_ ..) (of_decide_eq_true e)
  have e:putK a q x=a++[(q,x)]:=by unfold putK;rw[nq];rfl
  rw[QW,e,ow (a++[(q,x)]) b h',gV];rfl
end
noncomputable def sqN(b:Bool)(ts:List T):T:=match b with
 |true=>.tup ts
 |false=>.lst true ts
section
variable{b:Bool}{ts us:List T}{k:T->Prop}{i:Int}{t u:T}{env:Ev}{ke:T->Ev->Prop}
theorem ug(ts:List T)(n:Nat):nB ts none (some (n:Int))=ts.take n:=by
 unfold nB;rw[HT.ra,HT.t5,NH,QB];by_cases h:n<=ts.length
 ·rw[N7 h]
 rw[OY (by lia),MQ (by lia),MQ (by lia)]
theorem DJ(n:Nat)(h:n<ts.length):slT (sq b ts) none (some (n:Int)) k=k (sqN b (ts.take n)):=by
 cases b with
 |false=>show k (.lst true (nB ts _ _))=_;rw[ug];rfl
 |true=>
  show(¬_/\k (.tup (nB ts _ _)))=_;rw[ug,HT.ra];exact propext ⟨λz=>z.2,λz=>⟨λy=>by lia,z⟩⟩
theorem J6{v:T}:slT (.tup (t::u::v::ts)) none (some 2) k=k (.tup [t,u]):=DJ (b:=true) (ts:=t::u::v::ts) 2 (by simp)
theorem dC(lo:Int)(n:Nat):(qL lo n).length=n:=by rw[qL,a_,NC]
theorem j4{lo:Int}{n i:Nat}{t:T}(h:(qL lo n)[i]?=some t):i<n:=by have:=(c_.mp h).1;rwa[dC]at this
theorem lC{lo:Int}{n i:Nat}{t:T}(h:(qL lo n)[i]?=some t):t=.int (lo+(i:Int)):=by
 have hi:=j4 h;rw[qL,k_,N3 hi]at h;cases h
 rfl
theorem bo{α:Type}{g:α->T}{l:List α}{i:Nat}{t:T}(h:(l.map g)[i]?=some t):∃x,l[i]?=some x/\t=g x:=by
 rw[k_]at h;cases e:l[i]? with
 |none=>rw[e]at h;cases h
 |some x=>rw[e]at h;cases h;exact⟨x,rfl,rfl⟩
end
noncomputable def Ld(f g:PSt):PSt:=λpe env=>∃W:Ev->Prop,f {pe with nx:=W} env/\∀e,W e->g pe e
theorem bF{X:Cx}{κ:Nat->Bool}{st:RW}{rest:List RW}{f g:PSt}(h1:GS κ X st f)(h2:GSs κ X rest g):GSs κ X (st::rest) (Ld f g):=by refine PSs.imp (gI h1 h2) ?_;rintro D σ H ⟨env,Fr,pe,rs,⟨W,q,w⟩,c⟩;refine⟨env,Fr,_,rs,q,⟨λbm cr H' q1 ge k1=>⟨bm,Fr,pe,ge,w _ q1,c.later k1⟩,c.rt,c.bk,c.ct⟩⟩
theorem dG{f g:PSt}{pe:PEn}{env:Ev}(W:Ev->Prop)(h1:f {pe with nx:=W} env)(h2:∀e,W e->g pe e):Ld f g pe env:=⟨W,h1,h2⟩
section
variable{X:Cx}{pos:Pos}
noncomputable def BF:T->Bool
 | .dK _ _=>true
 | .dT _ _=>true
 | _=>false
theorem CN{Γ:Fm}{t:T}{y:V}(h:Rp X.K H ((t,some y)::Γ))(d:BF t=true):∃a,y=.ref a/\IsD H a:=by
 cases t with
 |dK o am=>
  obtain⟨a,vs,rfl,hq,_⟩:=yF h;exact⟨a,rfl,.inl ⟨_,hq⟩⟩
 |dT o am=>
  obtain⟨a,vs,rfl,hq,_⟩:=kC h;exact⟨a,rfl,.inr ⟨_,hq⟩⟩
 | _=>cases d
theorem dZ{o:Bool}{am:List (List Key×T)}:BF (.dT o am)=true:=rfl
end
end PL
namespace ZR
open PySem
theorem lQ{α β:Type}(f:α->β):∀(l:List α) (i:Nat),(l.map f).eraseIdx i=(l.eraseIdx i).map f
 | [],_=>rfl
 | _::_,0=>rfl
 |a::l,i+1=>by simp only[e_,P'];rw[lQ f l i]
theorem lK{prog:RC}{w:RK}{K:Type}[DecidableEq K]{knd:XQ prog w K}{A:RS}{E:Rq->Ru->Prop}{s:Ru}{d a:Rt}{xs:List (K×Rt×Rq)}{k:K}{Q:Option SY->Ru->Prop}(hr:knd.room A)(hk:knd.is s.heap k a)(D:Uw knd s.heap d xs)(hsz:xs.length<=sizeLine)
  (h0:(∀(j:Nat) (p:Rt×Rq),xs[j]?≠some (k,p))->∀tk,Q none {s with toks:=tk})
  (h1:∀(j:Nat) (p:Rt×Rq),xs[j]?=some (k,p)->∀h' tk,Uw knd h' d (xs.eraseIdx j)->Sr d s.heap h'->Q (some (Uj knd (k,p))) {s with heap:=h',toks:=tk}) :
  RA (RJ prog w) A (V5 d (.ref a)) Q E s:=by
 obtain⟨o,es,ep,ho,hx,hd,he,his,hnd⟩:=D;unfold V5;refine R1 (Ro (knd.pyHash hr hk ?_));refine Ro (wpAny_dictFind_heap hr hk ho hd he his hnd (λhn=>?_) (λj p hj=>?_))
 ·exact Rv (h0 hn _)
 refine Ro (Si ho hd ?_);have hj':es[j]?=some (Uj knd (k,p)):=by
  rw[<-i_,he,k_,hj]
  rfl
 rw[hj'];have hes:es.size=xs.length:=by rw[<-h_,he,a_]
 have hjl:j<es.size:=by rw[hes];exact(c_.mp hj).1
 refine Ro (wpAny_updateDictKeys ho hd ?_ (by lia) (by have:=size_eraseIdxIfInBounds_le es j;lia));refine Rv (h1 j p hj _ _ ?_ (SN _ _ _));refine⟨_,_,ep+1,S3 _ ho (Obj.isFreed_of_dict (V6 hd _)),hx.mapDictKeys _,V6 hd _,?_,λx hxm=>?_,?_⟩
 ·rw[Array.toList_eraseIdxIfInBounds,he,ZR.lQ]
 ·exact knd.keeps (his x ((Om xs j).subset hxm)) ho hd (SN ..)
 exact List.Nodup.sublist ((Om xs j).map _) hnd
theorem xu{prog:RC}{w:RK}{K:Type}[DecidableEq K](kn:XQ prog w K)(dd ak:Rt)(more:List Rq)(hmore:more=[]\/∃y,more=[y]) :
  X9 prog w (S4.«dict.pop» ⟨.ref dd::.ref ak::more,[]⟩) (λA R s=>kn.room A.in1/\∃k xs j p,kn.is s.heap k ak/\Uw kn s.heap dd xs/\xs.length<=sizeLine/\xs[j]?=some (k,p)/\
   ∀h' tk,Uw kn h' dd (xs.eraseIdx j)->Sr dd s.heap h'->R (.ok (.ret p.2)) {s with heap:=h',toks:=tk}):=
 .of_wp λA R s ⟨hu,k,xs,j,p,hk,D,hsz,hj,fin⟩=>by
  have D':=D;obtain⟨o,es,ep,ho,hx,hd,he,his,hnd⟩:=D';have jp:es.isEmpty=false:=by
   have hes:es.size=xs.length:=by rw[<-h_,he,a_]
   have hjl:=(c_.mp hj).1;cases hb:es.isEmpty with
   |false=>rfl
   |true=>rw[Array.isEmpty_iff_size_eq_zero]at hb;lia
  unfold S4.«dict.pop»;refine Ro ?_;unfold U1;refine Ro (Ue (Wb D) ?_);have kp:(keyPart (.ref ak)).isSome=false:=rfl;rcases hmore with rfl|⟨y,rfl⟩
  ·show RA _ _ (pure (dd,RV ak,none)) _ _ s;refine Rv ?_;simp only[kp,C',if_false];refine Ro (Si ho hd (Ro (Rv ?_)));simp only[jp,C',if_false];refine Ro (ZR.lK hu hk D hsz (λhno=>absurd hj (hno j p)) (λi q hi h' tk D2 sb=>?_));obtain rfl:=X6 hnd hi hj;obtain rfl:q=p:=by rw[hj]at hi;exact(congrArg (·.2) (F_ hi)).symm
   simp only[QE,C',if_false];exact Ro (TB (Rv ⟨_,rfl,fin h' tk D2 sb⟩))
  show RA _ _ (pure (dd,RV ak,(some y))) _ _ s;refine Rv ?_;simp only[kp,C',if_false];refine Ro (Si ho hd (Ro (Rv ?_)));simp only[jp,C',if_false];refine Ro (ZR.lK hu hk D hsz (λhno=>absurd hj (hno j p)) (λi q hi h' tk D2 sb=>?_));obtain rfl:=X6 hnd hi hj;obtain rfl:q=p:=by rw[hj]at hi;exact(congrArg (·.2) (F_ hi)).symm
  simp only[QE,C',if_false];exact Ro (TB (Rv ⟨_,rfl,fin h' tk D2 sb⟩))
end ZR
namespace L2
open PySem PySem.Spec PyProof.Rows
variable {am:List (List Key×V)}{xs:List (List Key×Rt×Rq)}
theorem KT.erase {H:Hp}(r:KT H am xs):∀j,KT H (am.eraseIdx j) (xs.eraseIdx j):=by
 induction r with
 |nil=>intro j;exact .nil
 |cons h t ih=>
  intro j;cases j with
  |zero=>exact t
  |succ j=>exact .cons h (ih j)
theorem KT.get {H:Hp}(r:KT H am xs):∀{j:Nat}{k:List Key}{v:V},am[j]?=some (k,v)->∃p,xs[j]?=some (k,p)/\RelV v p.2:=by
 induction r with
 |nil=>intro j k v e;cases e
 | @cons p q ps qs h t ih=>
  intro j k v e;cases j with
  |zero=>
   cases e;obtain⟨q1,q2⟩:=q;obtain⟨rfl,_,h3⟩:=h;exact⟨q2,rfl,h3⟩
  |succ j=>exact ih e
section
variable{X:Cx}{A:RS}{E:Rq->Ru->Prop}{ad:List (Rt×Obj)}{σ:St}{H:Hp}{s:Ru}{a b:Rt}
theorem Dw{k:List Key}{v:V}{j:Nat}{more:List Rq}{Q:Rq->Ru->Prop}(hu:A.units+1<cLine)(I:Inv X ad σ H s)(e:H a=some (.dT am))(eb:H b=some (.tup (k.map kV)))(hj:am[j]?=some (k,v))(hm:more=[]\/∃x,more=[x])
  (h:∀w' s',Inv X ad σ (upd H a (.dT (am.eraseIdx j))) s'->RelV v w'->Q w' s'):RA (RJ X.prog X.w) A (call (.builtin "dict.pop") (.ref a::.ref b::more)) Q E s:=by
 obtain⟨z,hd,xs,rel,dd⟩:=Dp I.hok e;have hz:xs.length<=sizeLine:=by rw[<-Sn rel];exact z
 obtain⟨p,hx,rp⟩:=rel.get hj;have ha:argsOk "dict.pop" ⟨.ref a::.ref b::more,[]⟩:=by
  rcases hm with q|⟨x,q⟩
  ·subst q;exact PySem.F.args_dict_pop_2 _ _
  subst q;exact Vo _ _ _
 refine Wl Ts dd.typeIs VF ha (ZR.xu (Ti (cX X.prog X.w)) a b more hm) ⟨SX hu,k,xs,j,p,nV I.hok eb,dd,hz,hx,λh' tk dd' hs=>h _ _ ?_ rp⟩;obtain⟨q,es,ep,hq,h2,h3,h4,_,h5⟩:=dd';have hl:(am.eraseIdx j).length<=sizeLine:=p_ (List.length_eraseIdx_le ..) z;refine mU I (by rw[e];exact SG) hs ⟨q,hq⟩ ⟨hl,hd,_,(rel.erase j).keeps λc ys ec=>?_,q,es,ep,hq,h2,h3,h4,h5⟩;rw[aS (wx ec e (λz=>nomatch z))];exact ec
end
end L2
namespace PL
open PySem PySem.Spec PyProof.Rows L2
variable {am:List (List Key×T)}
section
variable{X:Cx}{pos:Pos}
theorem xF:∀{ts:List T}{vs:List V}{j:Nat}{t:T}{v:V},ts[j]?=some t->vs[j]?=some v->(zz ts vs).Perm ((t,some v)::zz (ts.eraseIdx j) (vs.eraseIdx j))
 | [],_,_,_,_,h,_=>by cases h
 | _::_,[],_,_,_,_,h=>by cases h
 |a::ts,b::vs,0,t,v,h,g=>by cases h;cases g;exact .refl _
 |a::ts,b::vs,j+1,t,v,h,g=>by have:=xF (ts:=ts) (vs:=vs) (j:=j) h g;exact(Pe (a,some b) this).trans (.swap _ _ _)
theorem jg{α β:Type}(f:α->β):∀(l:List α) (j:Nat),(l.eraseIdx j).map f=(l.map f).eraseIdx j
 | [],_=>rfl
 | _::_,0=>rfl
 |a::l,j+1=>by rw[P',e_,jg f l j];rfl
noncomputable def kA(am:List (List Key×T))(q:List Key):Option (T×List (List Key×T)):=(am.findIdx? λkv=>decide (kv.1=q)).bind λj=>(am[j]?).map λkv=>(kv.2,am.eraseIdx j)
theorem sP{q:List Key}{r:T×List (List Key×T)}(h:kA am q=some r):∃j,am[j]?=some (q,r.1)/\r.2=am.eraseIdx j:=by
 unfold kA at h;cases e:am.findIdx? λkv=>decide (kv.1=q)with
 |none=>rw[e]at h;cases h
 |some j=>
  rw[e,MY]at h;obtain⟨hj,hq,_⟩:=NR.mp e;rw[d_ hj]at h;cases h;refine⟨j,?_,rfl⟩;rw[d_ hj];have:=of_decide_eq_true hq;rw[<-this]
def sA(t y:T)(k:T->T->Prop):Prop:=match t with
 | .dT true am=>match y with
  | .tup ks=>got (j7 ks) λq=>got (kA am q) λr=>k (.dT true r.2) r.1
  | _=>False
 | _=>False
def CB(i:Nat)(fe:PF):PF:=λenv k=>got (env[i]?) λt0=>BF t0=true/\fe env λy al=>got (al[i]?) λt=>sA t y λt' u=>k u (al.set i t')
theorem Dv{H:Hp}{Γ:Fm}{t y:T}{v w:V}{k:T->T->Prop}(h:Rp X.K H ((t,some w)::(y,some v)::Γ))(g:sA t y k):∃a am q b j x u t',w=.ref a/\H a=some (.dT am)/\v=.ref b/\H b=some (.tup (q.map kV))/\am[j]?=some (q,x)/\k t' u/\∀H',Put H a (.dT (am.eraseIdx j)) H'->Rp X.K H' ((u,some x)::(t',some (.ref a))::Γ):=by
 unfold sA at g;split at g
 ·rename_i am;cases y <;> first|exact RL g|skip
  rename_i ks;obtain⟨q,eq,g⟩:=aJ g;obtain⟨r,er,kt⟩:=aJ g;obtain⟨j,hj,e2⟩:=sP er;obtain⟨b,rfl,hb⟩:=ni eq (h.perm (.swap _ _ _));obtain⟨a,vs,ea,ha,la,dL⟩:=rB h;cases ea;have hk:(vs.map (·.1))[j]?=some q:=by rw[<-la,k_,hj];rfl
  rw[k_]at hk;cases ev:vs[j]? with
  |none=>rw[ev]at hk;cases hk
  |some p=>
   rw[ev]at hk;obtain⟨p1,x⟩:=p;have:p1=q:=by simpa using hk
   subst this;refine⟨a,vs,p1,b,j,x,r.1,_,rfl,ha,rfl,hb,ev,kt,λH' hp=>?_⟩;have e3:(am.map (·.2))[j]?=some r.1:=by rw[k_,hj];rfl
   have e4:(vs.map (·.2))[j]?=some x:=by rw[k_,ev];rfl
   rw[e2];have f8:Rp X.K H ((.bare,some (.ref a))::(zz ((am.eraseIdx j).map (·.2)) ((vs.eraseIdx j).map (·.2))++((r.1,some x)::Γ))):=by
    rw[jg,jg];have:Rp X.K H ((.tup ks,some (.ref b))::((.bare,some (.ref a))::(zz ((am.map (·.2)).eraseIdx j) ((vs.map (·.2)).eraseIdx j)++((r.1,some x)::Γ)))):=dL.perm (by refine t_ (.cons _ ((xF e3 e4).append_right _)) ?_;refine t_ (.cons _ (.cons _ f_)) ?_;refine t_ (.cons _ (.swap _ _ _)) ?_;refine t_ (.swap _ _ _) (.cons _ (.cons _ ?_));exact f_.symm)
    exact this.tail
   exact(uv f8 (by rw[jg,jg,la]) hp).perm (.swap _ _ _)
 exact RL g
theorem Dh{kr i:Nat}{x:Str}{xp:Pos}{e:RI}{apos:Pos}{fe:PF}(hr:Room kr X.A)(he:GE X e fe)(m:M1 X (.Name x xp) "pop" apos e pos)(hN:X.N[i]?=some x:=by rfl)(hv:Vis X.env.scope x:=by first|exact bt rfl|exact i' (bt rfl)|exact i' (i' rfl))(hd:(x ==("__debug__":Str))=false:=by decide)(hcd:(x ==("__classdict__":Str))=false:=by decide):GE X (.Call (.Attribute (.Name x xp) "pop" apos) [e] [] pos) (CB i fe):=by
 rintro ad s σ H Q I ⟨env,Fr,k,rs,q,c⟩;obtain⟨t0,e0,d0,q⟩:=aJ q;obtain⟨y0,ey,rs2⟩:=rs.slot e0;have na:isAny t0=false:=by cases t0 <;> first|rfl|cases d0
 obtain⟨w,rfl⟩:=jw rs2 na;obtain⟨a,rfl,hD⟩:=CN rs2.head d0;refine Wy m.base m.few m.line Vp Ts VP (thn (kL hN hv hd hcd ad s σ H (λx H1=>x=.ref a/\H1=H) I ⟨_,ey,rfl,rfl⟩) λu s1 ⟨x1,H1,I1,rx,e1,e2⟩=>?_);subst e1 e2;obtain rfl:u=RV a:=rx;obtain⟨t1,t2,_⟩:=Cm I1 hD;refine⟨t1,t2,?_⟩;rw[m.trees];refine To rfl (Uo (SU (thn (he ad s1 σ H1 (λyv H2=>∃am q b j x,H2 a=some (.dT am)/\yv=.ref b/\H2 b=some (.tup (q.map kV))/\am[j]?=some (q,x)/\Q x (upd H2 a (.dT (am.eraseIdx j)))) I1 ⟨env,Fr,_,rs,q,λty al v H2 q2 rs3=>?_⟩) λiv s2 ⟨y,H2,I2,ry,am,q2,b,j,x2,h1,h2,h3,h4,h5⟩=>U3 ?_)))
 ·obtain⟨t,et,g⟩:=aJ q2;obtain⟨y',ey',rs4⟩:=rs3.slot et;rw[ey]at ey';cases ey';have hi':i<al.length:=(c_.mp et).1;have rp4:Rp X.K H2 ((t,some (.ref a))::(ty,some v)::((al.set i .any).zip σ++Fr)):=rs4.head.perm (.cons _ f_);obtain⟨a',am,q3,b,j,x2,u2,t',ea,h1,h2,h3,h4,kt,fin⟩:=Dv rp4 g;cases ea;refine⟨am,q3,b,j,x2,h1,h2,h3,h4,c _ _ _ _ kt ?_⟩;have rp5:=fin _ Put.up;have r5:Rs X.K (upd H2 a (.dT (am.eraseIdx j))) (al.set i .any) σ ((t',some (.ref a))::(u2,some x2)::Fr):=.of rs4.1 (rp5.perm (.trans (.swap _ _ _) (.cons _ f_.symm)));have r6:=Rs.nQ (i:=i) r5 (by rw[K_];exact hi') ey;rw[OJ]at r6;exact r6
 subst h2;cases (show iv=RV b from ry);exact Dw (mD hr) I2 h1 h3 h4 (.inl rfl) λw' s' I' rw'=>⟨_,_,I',rw',h5⟩
theorem bL{i:Nat}{fe:PF}{env:Ev}{k:T->Ev->Prop}:CB i fe env k=gH (env[i]?) (k:=⟨λt0=>BF t0=true/\fe env λy al=>gH (al[i]?) (k:=⟨λt=>sA t y λt' u=>k u (al.set i t')⟩)⟩):=rfl
theorem AU{ks:List T}{k:T->T->Prop}:sA (.dT true am) (.tup ks) k=gH (j7 ks) (k:=⟨λq=>gH (kA am q) (k:=⟨λr=>k (.dT true r.2) r.1⟩)⟩):=rfl
end
end PL
namespace ZR
open PySem
theorem vt{prog:RC}{w:RK}{K:Type}[DecidableEq K](kn:XQ prog w K)(dd ak:Rt)(y:Rq)(hS:(dd == R5)=false) :
  X9 prog w (S4.«dict.pop» ⟨[.ref dd,.ref ak,y],[]⟩) (λA R s=>kn.room A.in1/\∃k xs,kn.is s.heap k ak/\Uw kn s.heap dd xs/\xs.length<=sizeLine/\(∀(j:Nat) (p:Rt×Rq),xs[j]?≠some (k,p))/\
   ∀tk,R (.ok (.ret y)) {s with toks:=tk}):=
 .of_wp λA R s ⟨hu,k,xs,hk,D,hsz,hj,fin⟩=>by
  have D':=D;obtain⟨o,es,ep,ho,hx,hd,he,his,hnd⟩:=D';unfold S4.«dict.pop»;refine Ro ?_;unfold U1;refine Ro (Ue (Wb D) ?_);have kp:(keyPart (.ref ak)).isSome=false:=rfl;show RA _ _ (pure (dd,RV ak,(some y))) _ _ s;refine Rv ?_;simp only[kp,C',if_false];refine Ro (Si ho hd (Ro (Rv ?_)));cases hb:es.isEmpty with
  |true=>
   simp only[if_true];refine Ro (S7 ?_);refine Ro (Rv ?_);simp only[QF,if_true];refine Ro (U8 hS ?_);exact Ro (S7 (Rv ⟨_,rfl,fin s.toks⟩))
  |false=>
   simp only[C',if_false];refine Ro (ZR.lK hu hk D hsz (λhno tk=>?_) (λi q hi h' tk D2 sb=>absurd hi (hj i q)));simp only[QF,if_true];refine Ro (U8 hS ?_);exact Ro (S7 (Rv ⟨_,rfl,fin tk⟩))
end ZR
namespace L2
open PySem PySem.Spec PyProof.Rows
variable {am:List (List Key×V)}
theorem KT.back {H:Hp}{xs:List (List Key×Rt×Rq)}(r:KT H am xs):∀{j:Nat}{k:List Key}{p:Rt×Rq},xs[j]?=some (k,p)->∃v,am[j]?=some (k,v):=by
 induction r with
 |nil=>intro j k v e;cases e
 | @cons p q ps qs h t ih=>
  intro j k v e;cases j with
  |zero=>
   cases e;obtain⟨p1,p2⟩:=p;obtain⟨rfl,_,_⟩:=h;exact⟨p2,rfl⟩
  |succ j=>exact ih e
section
variable{X:Cx}{A:RS}{E:Rq->Ru->Prop}{ad:List (Rt×Obj)}{σ:St}{H:Hp}{s:Ru}{a b:Rt}
theorem Iw{k:List Key}{x:Rq}{Q:Rq->Ru->Prop}(hu:A.units+1<cLine)(I:Inv X ad σ H s)(e:H a=some (.dT am))(eb:H b=some (.tup (k.map kV)))(hj:∀p∈am,p.1≠k)
  (h:∀s',Inv X ad σ H s'->Q x s'):RA (RJ X.prog X.w) A (call (.builtin "dict.pop") [.ref a,.ref b,x]) Q E s:=by
 obtain⟨z,hd,xs,rel,dd⟩:=Dp I.hok e;have hz:xs.length<=sizeLine:=by rw[<-Sn rel];exact z
 refine Wl Ts dd.typeIs VF (Vo _ _ _) (ZR.vt (Ti (cX X.prog X.w)) a b x hd) ⟨SX hu,k,xs,nV I.hok eb,dd,hz,λj p hx=>?_,λtk=>h _ (I.kept (t':=tk) λb ob q=>q)⟩;obtain⟨v,ev⟩:=rel.back hx;exact hj _ (B' ev) rfl
end
end L2
namespace PL
open PySem PySem.Spec PyProof.Rows L2
variable {H:Hp}{env:Ev}{i:Nat}{am:List (List Key×T)}{Γ:Fm}
section
variable{X:Cx}{pos:Pos}
theorem Ei{q:List Key}(h:kA am q=none):∀p∈am,p.1≠q:=by
 unfold kA at h;cases e:am.findIdx? λkv=>decide (kv.1=q)with
 |none=>
  intro p m z;have:=PQ.mp e p m;rw[decide_eq_true z]at this;cases this
 |some j=>
  rw[e,MY]at h;obtain⟨hj,_,_⟩:=NR.mp e;rw[d_ hj]at h;cases h
def qb(t y z:T)(k:T->T->Prop):Prop:=match t with
 | .dT true am=>match y with
  | .tup ks=>got (j7 ks) λq=>match kA am q with
   |some r=>k (.dT true r.2) r.1
   |none=>k (.dT true am) z
  | _=>False
 | _=>False
def Di(i:Nat)(fe ff:PF):PF:=λenv k=>got (env[i]?) λt0=>BF t0=true/\fe env λy al=>ff al λz bn=>got (bn[i]?) λt=>qb t y z λt' u=>k u (bn.set i t')
theorem GC{t y z:T}{v w u:V}{k:T->T->Prop}(h:Rp X.K H ((t,some w)::(y,some v)::(z,some u)::Γ))(g:qb t y z k):∃a am q b,w=.ref a/\H a=some (.dT am)/\v=.ref b/\H b=some (.tup (q.map kV))/\
  ((∃j x t' u',am[j]?=some (q,x)/\k t' u'/\∀H',Put H a (.dT (am.eraseIdx j)) H'->Rp X.K H' ((u',some x)::(t',some (.ref a))::Γ))\/((∀p∈am,p.1≠q)/\∃t',k t' z/\Rp X.K H ((z,some u)::(t',some (.ref a))::Γ))):=by
 unfold qb at g;split at g
 ·rename_i am;cases y <;> first|exact RL g|skip
  rename_i ks;obtain⟨q,eq,g⟩:=aJ g;cases er:kA am q with
  |some r=>
   rw[er]at g;have g1:sA (.dT true am) (.tup ks) k:=by rw[AU];exact aZ eq (aZ er g)
   obtain⟨a,vs,q',b,j,x,u',t',e1,e2,e3,e4,e5,kt,fin⟩:=Dv h g1;refine⟨a,vs,q',b,e1,e2,e3,e4,.inl ⟨j,x,t',u',e5,kt,λH' hp=>?_⟩⟩;have:=fin H' hp;have:=this.perm (.trans (.cons _ (.swap _ _ _)) (.swap _ _ _));exact this.tail
  |none=>
   rw[er]at g;obtain⟨b,rfl,hb⟩:=ni eq (h.perm (.swap _ _ _));obtain⟨a,vs,ea,ha,la,dL⟩:=rB h;cases ea;refine⟨a,vs,q,b,rfl,ha,rfl,hb,.inr ⟨λp m=>?_,_,g,?_⟩⟩
   ·have m1:p.1∈vs.map (·.1):=I_ m;rw[<-la]at m1;obtain⟨p',m',e'⟩:=o_.mp m1;rw[<-e'];exact Ei er p' m'
   have:=h.perm (.swap _ _ _);exact this.tail.perm (.swap _ _ _)
 exact RL g
theorem DN{kr:Nat}{x:Str}{xp:Pos}{e f:RI}{apos:Pos}{fe ff:PF}(hr:Room kr X.A)(he:GE X e fe)(hf:GE X f ff)(m:M2 X (.Name x xp) "pop" apos e f pos)(hN:X.N[i]?=some x:=by rfl)(hv:Vis X.env.scope x:=by first|exact bt rfl|exact i' (bt rfl)|exact i' (i' rfl))(hd:(x ==("__debug__":Str))=false:=by decide)(hcd:(x ==("__classdict__":Str))=false:=by decide):GE X (.Call (.Attribute (.Name x xp) "pop" apos) [e,f] [] pos) (Di i fe ff):=by
 intro ad s σ H Q I ⟨env,Fr,k,rs,q,c⟩;obtain⟨t0,e0,d0,q⟩:=aJ q;obtain⟨y0,ey,rs2⟩:=rs.slot e0;have na:isAny t0=false:=by cases t0 <;> first|rfl|cases d0
 obtain⟨w,rfl⟩:=jw rs2 na;obtain⟨a,rfl,hD⟩:=CN rs2.head d0;refine Wy m.base m.few m.line Vp Ts VP (thn (kL hN hv hd hcd ad s σ H (λx H1=>x=.ref a/\H1=H) I ⟨_,ey,rfl,rfl⟩) λu s1 ⟨x1,H1,I1,rx,e1,e2⟩=>?_);subst e1 e2;obtain rfl:u=RV a:=rx;obtain⟨t1,t2,_⟩:=Cm I1 hD;refine⟨t1,t2,?_⟩;rw[m.trees];refine To rfl (Uo (SU (thn (he ad s1 σ H1 _ I1 ⟨env,Fr,_,rs,q,λty al v H2 q2 rs3=>⟨al,_,_,rs3,q2,λtz bn vz H3 q3 rs4=>?_⟩⟩) λiv s2 ⟨y,H2,I2,ry,q2⟩=>SU (thn (hf ad s2 σ H2 (λzv H3=>∃am q b,H3 a=some (.dT am)/\y=.ref b/\H3 b=some (.tup (q.map kV))/\((∃j x,am[j]?=some (q,x)/\Q x (upd H3 a (.dT (am.eraseIdx j))))\/((∀p∈am,p.1≠q)/\Q zv H3))) I2 q2) λjv s3 ⟨z,H3,I3,rz,am,q3,b,h1,h2,h3,h4⟩=>U3 ?_))))
 ·subst h2;cases (show iv=RV b from ry);rcases h4 with⟨j,x2,h4,h5⟩|⟨h4,h5⟩
  ·exact Dw (mD hr) I3 h1 h3 h4 (.inr ⟨_,rfl⟩) λw' s' I' rw'=>⟨_,_,I',rw',h5⟩
  exact Iw (mD hr) I3 h1 h3 h4 λs' I'=>⟨_,_,I',rz,h5⟩
 obtain⟨t,et,g⟩:=aJ q3;obtain⟨y',ey',rs5⟩:=rs4.slot et;rw[ey]at ey';cases ey';have hi':i<bn.length:=(c_.mp et).1;have rp4:Rp X.K H3 ((t,some (.ref a))::(ty,some v)::(tz,some vz)::((bn.set i .any).zip σ++Fr)):=rs5.head.perm (.cons _ (t_ f_ (t_ (.cons _ f_) (.swap _ _ _))));obtain⟨a',am,q4,b,ea,h1,h2,h3,h4⟩:=GC rp4 g;cases ea;have back:∀(H':Hp) (t' u':T) (x:V),Rp X.K H' ((u',some x)::(t',some (.ref a))::((bn.set i .any).zip σ++Fr))->Rs X.K H' (bn.set i t') σ ((u',some x)::Fr):=λH' t' u' x rp5=>by have r5:Rs X.K H' (bn.set i .any) σ ((t',some (.ref a))::(u',some x)::Fr):=.of rs5.1 (rp5.perm (.trans (.swap _ _ _) (.cons _ f_.symm)));have r6:=Rs.nQ (i:=i) r5 (by rw[K_];exact hi') ey;rw[OJ]at r6;exact r6
 refine⟨am,q4,b,h1,h2,h3,?_⟩;rcases h4 with⟨j,x2,t',u',h4,kt,fin⟩|⟨h4,t',kt,rp5⟩
 ·exact .inl ⟨j,x2,h4,c _ _ _ _ kt (back _ _ _ _ (fin _ Put.up))⟩
 exact .inr ⟨h4,c _ _ _ _ kt (back _ _ _ _ rp5)⟩
theorem cj{fe ff:PF}{k:T->Ev->Prop}:Di i fe ff env k=gH (env[i]?) (k:=⟨λt0=>BF t0=true/\fe env λy al=>ff al λz bn=>gH (bn[i]?) (k:=⟨λt=>qb t y z λt' u=>k u (bn.set i t')⟩)⟩):=rfl
theorem EU{ks:List T}{z:T}{k:T->T->Prop}:qb (.dT true am) (.tup ks) z k=gH (j7 ks) (k:=⟨λq=>match kA am q with
   |some r=>k (.dT true r.2) r.1
   |none=>k (.dT true am) z⟩):=rfl
end
section
variable{X:Cx}
noncomputable def LK:P2
 | .bl a,.bl b,k=>k (.bl (a == b))
 | _,_,_=>False
noncomputable def HD:P2
 | .bl a,.bl b,k=>k (.bl (a != b))
 | _,_,_=>False
theorem fS{a b:Bool}{k:T->Prop}:LK (.bl a) (.bl b) k=k (.bl (a == b)):=rfl
theorem dr{a b:Bool}{k:T->Prop}:HD (.bl a) (.bl b) k=k (.bl (a != b)):=rfl
theorem JP:OpR X (RT .Is) (λx y H Q=>∃a b,x=.bl a/\y=.bl b/\Q (.bl (a == b)) H):=by intro ad s σ H x y v u Q I rx ry h;obtain⟨a,b,rfl,rfl,q⟩:=h;cases rx;cases ry;exact is_bool (zu I q rfl)
theorem Ge:OpR X (RT .IsNot) (λx y H Q=>∃a b,x=.bl a/\y=.bl b/\Q (.bl (a != b)) H):=by intro ad s σ H x y v u Q I rx ry h;obtain⟨a,b,rfl,rfl,q⟩:=h;cases rx;cases ry;exact isnot_bool (zu I q rfl)
theorem Hf:OpP X (RT .Is) LK:=.of JP λtx ty x y H Γ k Q rp g c=>by
 cases tx <;> cases ty <;> first|exact RL g|skip
 exact⟨_,_,jU rp.tail,jU rp,c _ _ _ g (dH rp.tail.tail λ_=>.bl)⟩
theorem mJ:OpP X (RT .IsNot) HD:=.of Ge λtx ty x y H Γ k Q rp g c=>by
 cases tx <;> cases ty <;> first|exact RL g|skip
 exact⟨_,_,jU rp.tail,jU rp,c _ _ _ g (dH rp.tail.tail λ_=>.bl)⟩
end
variable {n:Nat}{ts:List T}
section
variable{X:Cx}{κ:Nat->Bool}{es:List RI}{pos:Pos}{gs:pW}
theorem oT{prog:RC}{w:RK}{A:RS}{E:Rq->Ru->Prop}{s:Ru}{env:Env}{elts:List RI}{x1}{pos:Pos}{l:Rt}{items:Array Rq}{Q:Unit->Ru->Prop}(hh:A.handled=none)(hl:s.heap.IsList l items)
  (hn:(Sd elts env).length=items.size) (hstar:(Sd elts env).findIdx? (·.1)=none)
  (h:∀h',T9 s.heap.objs.size s.heap h'->RA (RJ prog w) A (UR ((Sd elts env).map (·.2)) items.toList) Q E {s with heap:=h'}) :
  RA (RJ prog w) A (TQ (.Tuple elts x1 pos) env (.ref l)) Q E s:=by
 rw[assign_Tuple];refine Ro (Tf ?_);unfold unpack;rw[hn,hstar];exact Ro (R1 (PySem.W.kun_itemsOf hh hl h))
theorem Io{k:Nat}{t:TGs}(hc:X.calm=true)(h:PGs X es t)
  (hn:(Sd es X.env).length=n:=by rfl) (hst:(Sd es X.env).findIdx? (·.1)=none:=by rfl):PG X (.Tuple es k pos) (λv σ H Q=>∃a xs,v=.ref a/\SqL X.K H a xs/\xs.length=n/\t xs σ H Q):=by
 intro ad s σ H v u Q I r hw;obtain⟨a,xs,e1,hq,hl,hw⟩:=hw;subst e1;cases r;obtain⟨be,rv,ht,hz⟩:=I.list hq;refine oT (I.ok.hd hc) ht.isList (by simp[hn,<-hl,rv.length]) hst λh' hx=>?_
 have I1:L2.Inv X ad σ H {s with heap:=h'}:=I.kept (t':=s.toks) λb o e=>hx b o (s_ (RE e)) e;exact h ad _ σ H xs _ Q I1 (by simpa using rv) hw
noncomputable def gTq(n:Nat)(f:pW):PG':=λt env k=>match t with
 | .tup ts=>ts.length=n/\f ts env k
 | .cst ts=>ts.length=n/\f ts env k
 | .lst _ ts=>ts.length=n/\f ts env k
 | _=>False
theorem eG{k:Ev->Prop}:gTq n gs (.tup ts) env k=(ts.length=n/\gs ts env k):=rfl
theorem e9{o:Bool}{k:Ev->Prop}:gTq n gs (.lst o ts) env k=(ts.length=n/\gs ts env k):=rfl
theorem A2{x1:Nat}(hc:X.calm=true)(h:GGs κ X es gs)(hn:(Sd es X.env).length=n:=by rfl)(hst:(Sd es X.env).findIdx? (·.1)=none:=by rfl):GG κ X (.Tuple es x1 pos) (gTq n gs):=by
 rintro ad s σ H v u Q I r ⟨t,env,Fr,k,rs,q,c⟩;cases t with
 |tup ts=>exact iX hc h hn hst ad s σ H v u Q I r ⟨.tup ts,env,Fr,k,rs,q,c⟩
 |cst ts=>exact iX hc h hn hst ad s σ H v u Q I r ⟨.cst ts,env,Fr,k,rs,q,c⟩
 |lst o ts=>
  obtain⟨a,vs,rfl,hq,l,rp⟩:=aG rfl rs.head;refine Io hc h hn hst ad s σ H _ u Q I r ⟨a,vs,rfl,hq,by rw[<-l];exact q.1,ts,env,Fr,k,l,⟨rs.1,?_⟩,q.2,c⟩;exact rp.perm (m_ _ _ _)
 | _=>exact RL q
end
open PySem L2
def uX:P1s
 | [.dT _ am],k=>∃ks:List (List Int),am.map (·.1)=ks.map kI/\(∀q∈ks,q≠[])/\(ks.Nodup->k (.lst true (ks.map iT)))
 | _,_=>False
section
variable{X:Cx}
theorem BH:∀{bs:List Rt}{am:List (List Key×V)}{ks:List (List Int)},Tv (λ(b:Rt) (p:List Key×V)=>H b=some (.tup (p.1.map kV))) bs am->am.map (·.1)=ks.map kI->(∀k∈ks,k≠[])->Cg H (bs.map V.ref) ks:=by
 intro bs am ks h;induction h generalizing ks with
 |nil=>
  intro e _;cases ks with
  |nil=>exact .nil
  |cons a b=>simp at e
 |cons h t ih=>
  intro e hn;cases ks with
  |nil=>simp at e
  |cons a b=>
   rw[e_,e_,Nn]at e;refine .cons ⟨hn a x_,_,rfl,?_⟩ (ih e.2 λk hk=>hn k (q_ _ hk));rw[h,e.1,Mo]
theorem jr(hc:X.calm=true):jV X (.type "list") uX:=by
 rintro ad s σ H xs us Q I r ⟨ts,Γ,k,l,rp,g,c⟩;unfold uX at g;split at g
 ·rename_i k o am;obtain⟨x,rfl⟩:=zz1 l rfl;have rp:Rp X.K H ((.dT o am,some x)::Γ):=rp;obtain⟨a,vs,rfl,hq,ek,dL⟩:=kC rp;obtain⟨ks,e1,e2,kt⟩:=g;refine z0 hc ad s σ H _ us Q I r ⟨a,vs,rfl,hq,λbs pr nd p H' hp g' e'=>?_⟩;have nd':ks.Nodup:=by rw[<-ek,e1]at nd;exact(Nc.mp nd).imp λ{a b} h z=>h (by rw[z])
  refine c _ _ _ (kt nd') ?_;obtain⟨f8,l3⟩:=rF (BH pr (by rw[<-ek];exact e1) e2) rp.tail;exact kc f8 l3 hp g' e'
 exact RL g
end
theorem Dk{o:Bool}{k:T->Prop}:uX [.dT o am] k=∃ks:List (List Int),am.map (·.1)=ks.map kI/\(∀q∈ks,q≠[])/\(ks.Nodup->k (.lst true (ks.map iT))):=rfl
variable {vs:List V}
section
variable{X:Cx}{pos np p p2:Pos}{a e k tg:RI}{fe fa fk:PF}{fr:PFs}
theorem Ex{t:T}{w:V}(h:Rp X.K H (zz ts vs++Γ))(e:ts[i]?=some t)(f:vs[i]?=some w)(n:aT t=true):Rp X.K H ((t,some w)::(zz ts vs++Γ)):=by obtain⟨r,p⟩:=wb e f;have h1:Rp X.K H ((t,some w)::(r++Γ)):=h.perm (p.append_right Γ);exact(mF h1 n).perm (.cons _ (p.symm.append_right Γ))
theorem xq(l:ts.length=vs.length)(n:bB ts=true)(h:Rp X.K H (zz ts vs++Γ)):∀(is:List Nat),Rp X.K H (zz (is.filterMap (ts[·]?)) (is.filterMap (vs[·]?))++(zz ts vs++Γ))/\(is.filterMap (ts[·]?)).length=(is.filterMap (vs[·]?)).length:=by
 intro is;induction is with
 |nil=>exact⟨h,rfl⟩
 |cons i is ih=>
  by_cases hi:i<ts.length
  ·have e1:ts[i]?=some ts[i]:=d_ hi;have e2:vs[i]?=some (vs[i]'(by omega)):=d_ _;rw[NX e1,NX e2];refine⟨?_,congrArg Rm ih.2⟩;have hn:aT ts[i]=true:=by rw[nO,NU]at n;exact n _ (Ni hi)
   have h2:=Ex (Γ:=zz (is.filterMap (ts[·]?)) (is.filterMap (vs[·]?))++Γ) (ih.1.perm (m_ _ _ _)) e1 e2 hn;exact h2.perm (.cons _ (m_ _ _ _))
  rw[NY (Nx (by omega)),NY (Nx (by omega))];exact ih
def Jb(fe fa fk:PF):PF:=λenv k=>fe env λt al=>fa al λu bn=>fk bn λv cl=>∃o ts i j,t=.lst o ts/\u=.int i/\v=.int j/\bB ts=true/\0<=i/\0<j/\k (.lst true (cU ts i j)) cl
theorem Bo(he:GE X e fe)(ha:GE X a fa)(hk:GE X k fk):GE X (.Subscript e (.Slice (some a) none (some k) p2) pos) (Jb fe fa fk):=by
 refine PE.imp (Bw he ha hk) ?_;rintro σ H Q ⟨env,Fr,k,rs,q,c⟩;refine⟨env,Fr,_,rs,q,λt al v H1 q1 ge=>⟨al,_,_,ge,q1,λu bn w H2 q2 rs2=>⟨bn,_,_,rs2,q2,λx cl y H3 q3 rs3=>?_⟩⟩⟩;obtain⟨o,ts,i,j,rfl,rfl,rfl,hn,h0,h1,q⟩:=q3;have ey:=b6 rs3.head;have ew:=b6 rs3.drop.head;obtain⟨a,vs,ea,hq,l,rp⟩:=aG rfl rs3.drop.drop.head;refine⟨i,j,a,vs,ew,ey,h0,h1,ea,hq,λp H' hp g e=>c _ _ _ _ q (.of rs3.1 ?_)⟩;obtain⟨r1,r2⟩:=xq l hn rp (T5 (max 0 (min i ts.length)) ts.length j);have r3:Rp X.K H3 (zz (cU ts i j) (cU vs i j)++(cl.zip σ++Fr)):=by unfold cU;rw[<-l];exact(r1.perm (m_ _ _ _)).part
 exact kc r3 (by unfold cU;rw[<-l];exact r2) hp g e
end
end PL
namespace L2
open PySem PySem.Spec PyProof.Rows
theorem Bl{α β:Type}{f:α->β}{o m:List β}(h:o.Perm m):∀(l:List α),l.map f=m->∃l':List α,l'.Perm l/\l'.map f=o:=by
 induction h with
 |nil=>exact λl e=>⟨l,.refl _,e⟩
 |cons x p ih=>
  intro l e;cases l with
  |nil=>cases e
  |cons a l=>
   rw[e_]at e;obtain⟨l',p',e'⟩:=ih l (Nb e).2;exact⟨a::l',p'.cons a,by rw[e_,e',(Nb e).1]⟩
 |swap x y l=>
  intro l2 e;cases l2 with
  |nil=>cases e
  |cons a l2=>
   cases l2 with
   |nil=>cases e
   |cons b l2=>
    rw[e_,e_]at e;have e1:=(Nb e).1;have e2:=(Nb (Nb e).2).1;exact⟨b::a::l2,.swap _ _ _,by rw[e_,e_,e1,e2,(Nb (Nb e).2).2]⟩
 |trans p q ih1 ih2=>
  intro l e;obtain⟨l2,p2,e2⟩:=ih2 l e;obtain⟨l1,p1,e1⟩:=ih1 l2 e2;exact⟨l1,p1.trans p2,e1⟩
section
variable{X:Cx}
theorem Mi{k:Nat}{A:RS}(r:Room k A):A.in1.in1.units<cLine:=by have:=r.un;show A.units+1+1<cLine;lia
noncomputable def uY:V->Rq
 | .ref b=>.ref b
 | _=>.none
end
end L2
namespace PL
open PySem PySem.Spec PyProof.Rows L2
theorem ED{α:Type}{g:α->T}:∀{ks:List α}{vs:List V},ks.length=vs.length->zz (ks.map g) vs=(vs.zip ks).map λe=>(g e.2,some e.1)
 | [],[],_=>rfl
 | [],_::_,l=>by cases l
 | _::_,[],l=>by cases l
 |k::ks,v::vs,l=>by show(g k,some v)::zz (ks.map g) vs=(g k,some v)::(vs.zip ks).map _;rw[ED (NZ l)]
theorem wQ{α:Type}{g:α->T}:∀(wk:List (V×α)),wk.map (λe=>(g e.2,some e.1))=zz ((wk.map (·.2)).map g) (wk.map (·.1))
 | []=>rfl
 |e::wk=>by show(g e.2,some e.1)::wk.map _=(g e.2,some e.1)::zz ((wk.map (·.2)).map g) (wk.map (·.1));rw[wQ wk]
end PL
namespace L2
open PySem PySem.Spec PyProof.Rows
theorem DM(be:List Rq){j:Int}(h1:0<j):UK be.toArray none none (some j)=(cU be 0 j).toArray:=by
 unfold UK cU;have e:SK none none (some j) be.toArray.size=(max 0 (min 0 (be.length:Int)),(be.length:Int),j):=by unfold SK;simp only[NW,g_];rw[if_pos h1,if_pos h1];congr 1
 rw[e];simp
section
variable{X:Cx}{e k:RI}{te tk:TE}{pos p2:Pos}
theorem zE(he:PE X e te)(hk:PE X k tk):PE X (.Subscript e (.Slice none none (some k) p2) pos) (λσ H Q=>te σ H λx H1=>tk σ H1 λz H3=>∃j l xs,z=.int j/\0<j/\x=.ref l/\SqL X.K H3 l xs/\New (.lst (cU xs 0 j)) H3 Q):=by
 intro ad s σ H Q I h;refine U5 (thn (he ad s σ H _ I h) λv s1 ⟨x,H1,I1,r1,q1⟩=>?_);refine WA ?_;rw[UW];refine Rv ?_;refine Rv ?_;rw[UX];refine thn (hk ad s1 σ H1 _ I1 q1) λvk s3 ⟨z,H3,I3,rz,q3⟩=>?_;obtain⟨j,l,xs,rfl,h1,rfl,hx,q⟩:=q3;obtain⟨tj,rfl⟩:=rz;cases r1;have J:Inv X ad σ H3 {s3 with heap:=s3.heap.push { cls:=.type "slice",data:=.fields #[.none,.none,.int j tj] } }:=I3.kept (t':=s3.toks) λb ob q=>Rx _ q;show RA (RJ X.prog X.w) X.A (Tg e (.Slice none none (some k) p2) (.ref l) (.ref s3.heap.objs.size)) (EP X ad σ Q) X.xe {s3 with heap:=s3.heap.push { cls:=.type "slice",data:=.fields #[.none,.none,.int j tj] } };obtain⟨be,r,ht,hz⟩:=J.list hx;have hlen:=r.length;refine WH (ops:=[.ref l,.ref s3.heap.objs.size]) ht.isList.typeIs slot_list_getitem.lookup ?_ (by with_unfolding_all rfl);refine TU ht.isList (UJ ..) .none .none (.int _ _) (λz=>by cases z;omega) ?_ (by rw[g_] <;> omega);rw[DM be h1];have hv:Vals (cU xs 0 j) (cU be 0 j):=by unfold cU;rw[hlen];exact uo r _
 exact⟨.ref _,_,J.laid (t':=s3.toks) (o:=.lst (cU xs 0 j)) (λb ob q=>Rx _ q) (b_ _) ⟨p_ (wX xs (Nr 0) h1) hz,_,0,hv,RF _ rfl⟩,rfl,q.at (J.hok.fresh (b_ _))⟩
end
end L2
namespace PL
open PySem PySem.Spec PyProof.Rows L2
section
variable{X:Cx}{e k:RI}{fe fk:PF}{pos p2:Pos}
def IJ(fe fk:PF):PF:=λenv k=>fe env λt al=>fk al λv cl=>∃o ts j,t=.lst o ts/\v=.int j/\bB ts=true/\0<j/\k (.lst true (cU ts 0 j)) cl
theorem yU(he:GE X e fe)(hk:GE X k fk):GE X (.Subscript e (.Slice none none (some k) p2) pos) (IJ fe fk):=by
 refine PE.imp (zE he hk) ?_;rintro σ H Q ⟨env,Fr,k,rs,q,c⟩;refine⟨env,Fr,_,rs,q,λt al v H1 q1 ge=>⟨al,_,_,ge,q1,λx cl y H3 q3 rs3=>?_⟩⟩;obtain⟨o,ts,j,rfl,rfl,hn,h1,q⟩:=q3;have ey:=b6 rs3.head;obtain⟨a,vs,ea,hq,l,rp⟩:=aG rfl rs3.drop.head;refine⟨j,a,vs,ey,h1,ea,hq,λp H' hp g e=>c _ _ _ _ q (.of rs3.1 ?_)⟩;obtain⟨r1,r2⟩:=xq l hn rp (T5 (max 0 (min 0 (ts.length:Int))) ts.length j);have r3:Rp X.K H3 (zz (cU ts 0 j) (cU vs 0 j)++(cl.zip σ++Fr)):=by unfold cU;rw[<-l];exact(r1.perm (m_ _ _ _)).part
 exact kc r3 (by unfold cU;rw[<-l];exact r2) hp g e
end
def slH(t:T)(i j:Int)[k:Th (T->Prop)]:Prop:=∃o ts,t=.lst o ts/\bB ts=true/\0<=i/\0<j/\k.v (.lst true (cU ts i j))
theorem EY{o:Bool}{ts:List T}{i j:Int}{k:Th (T->Prop)}(h0:0<=i)(h1:0<j)(hn:bB ts=true)(q:k.v (.lst true (cU ts i j))):slH (.lst o ts) i j (k:=k):=⟨o,ts,rfl,hn,h0,h1,q⟩
theorem dS{fe fk:PF}{env:Ev}{k:T->Ev->Prop}:IJ fe fk env k=fe env λt al=>fk al λv cl=>asI v (k:=⟨λj=>slH t 0 j (k:=⟨λu=>k u cl⟩)⟩):=by
 unfold IJ;refine congrArg (fe env) (funext λt=>funext λal=>congrArg (fk al) (funext λv=>funext λcl=>propext ?_));constructor
 ·rintro⟨o,ts,j,rfl,rfl,a,b,c⟩;exact⟨o,ts,rfl,a,Nr 0,b,c⟩
 intro h;cases v <;> first|exact RL h|skip
 obtain⟨o,ts,e,a,_,b,c⟩:=h;exact⟨o,ts,_,e,rfl,a,b,c⟩
theorem g9{fe fa fk:PF}{env:Ev}{k:T->Ev->Prop}:Jb fe fa fk env k=fe env λt al=>fa al λu bn=>fk bn λv cl=>asI u (k:=⟨λi=>asI v (k:=⟨λj=>slH t i j (k:=⟨λu=>k u cl⟩)⟩)⟩):=by
 unfold Jb;refine congrArg (fe env) (funext λt=>funext λal=>congrArg (fa al) (funext λu=>funext λbn=>congrArg (fk bn) (funext λv=>funext λcl=>propext ?_)));constructor
 ·rintro⟨o,ts,i,j,rfl,rfl,rfl,a,b,b2,c⟩;exact⟨o,ts,rfl,a,b,b2,c⟩
 intro h;cases u <;> first|exact RL h|skip
 have h:asI v (k:=_):=h;cases v <;> first|exact RL h|skip
 obtain⟨o,ts,e,a,b,b2,c⟩:=h;exact⟨o,ts,_,_,e,rfl,rfl,a,b,b2,c⟩
end PL
namespace L2
open PySem PySem.Spec PyProof.Rows
def Itf(o:Obj)(d:Rt):It:=
  ⟨λi H=>∃am,Rd H d (.frz o (.dT am))/\i<am.length,
   λi H v H'=>H'=H/\∀am,Rd H d (.frz o (.dT am))->∃k x b,am[i]?=some (k,x)/\v=.ref b/\H b=some (.tup (k.map kV)),
   λi H=>∃am,Rd H d (.frz o (.dT am))/\am.length<=i⟩
theorem G5{H:Hp}{d:Rt}{o:Obj}{a b:List (List Key×V)}(h:Rd H d (.frz o (.dT a)))(g:Rd H d (.frz o (.dT b))):a=b:=by rcases h with h|⟨o1,h⟩ <;> rcases g with g|⟨o2,g⟩ <;> rw[h]at g <;> cases g <;> rfl
theorem yg{X:Cx}{ad:List (Rt×Obj)}{σ:St}{H:Hp}{s:Ru}{o:Obj}{d:Rt}{am:List (List Key×V)}(I:Inv X ad σ H s)(e:Rd H d (.frz o (.dT am))) :
  s.heap.get? d=some o/\(d == R5)=false/\∃xs es ep,KT H am xs/\o.ExactDict/\o.data=.dict es ep/\es.toList=xs.map (Uj (Ti (cX X.prog X.w)))/\es.size=am.length:=by
 obtain⟨h0,h1,h2,xs,kt,o',es,ep,g1,g2,g3,g4,g5⟩:=(show cV X.prog X.w H s.heap d (.frz o (.dT am))from e.ok I.hok);rw[h0]at g1;cases g1;refine⟨h0,h2,xs,es,ep,kt,g2,g3,g4,?_⟩;rw[<-h_,g4,a_];exact(Sn kt).symm
theorem sM{P:RC}{w:RK}{K:Rr}{tg:RI}(o:Obj)(d it:Rt)(es:Array SY)(ep:Nat)(hdat:o.data=.dict es ep):Turn P w K tg (Itf o d) [it] it (λi h=>h.IsKeyIter it d i es.size ep) where
 mem:=by simp
 obj:=λi h st b hb=>by
  have e:b=it:=by simpa using hb
  subst e;obtain⟨oi,q1,q2,q3⟩:=st;exact⟨oi,q1,λv z=>by rw[q3]at z;cases z⟩
 keep:=λi h h' st k=>st.at λoo e=>k it (by simp) oo e
 item:=by
  intro X hP hw hK hc i ad s σ H E I hf st hg;subst hP hw hK;obtain⟨am,hq,hx⟩:=hg;obtain⟨h0,h1,xs,es',ep',kt,g2,g3,g4,g5⟩:=yg I hq;rw[hdat]at g3;cases g3;obtain⟨f0,f1,f2,f3,f4,f5⟩:=hf it (by simp);have hi:i<es.size:=by lia
  have hxs:i<xs.length:=by rw[<-h_,g4,a_]at hi;exact hi
  have he:es[i]?=some (Uj (Ti (cX X.prog X.w)) xs[i]):=by
   rw[<-i_,g4,k_,d_ hxs]
   rfl
  refine ZG.Hx st h0 hdat he λh' ap sb=>?_;have I1:Inv X ad σ H {s with heap:=h'}:=I.turned (t':=s.toks) (λb ob hb e=>(sb.2 b hb).trans e) f0 f1 f3 f4 f5;obtain⟨oi,q1,q2,q3⟩:=id ap;refine⟨_,rfl,AW (s:={s with heap:=h'}) q1 q2 q3 (by decide) ⟨.ref xs[i].2.1,H,I1,rfl,⟨rfl,λlm hk'=>?_⟩,ap,λb hb=>(hf b hb).1⟩⟩;cases G5 hq hk';obtain⟨p,p1,p2,p3,p4⟩:=sG kt (d_ hxs);exact⟨p.1,p.2,_,p1,rfl,p3⟩
 done:=by intro X hP hw hK hc i ad s σ H E I hf st hg;subst hP hw hK;obtain⟨am,hq,hx⟩:=hg;obtain⟨h0,h1,xs,es',ep',kt,g2,g3,g4,g5⟩:=yg I hq;rw[hdat]at g3;cases g3;obtain⟨f0,f1,f2,f3,f4,f5⟩:=hf it (by simp);exact ZG.LO (I.ok.hd hc) st h0 hdat (by rw[N_];lia) λh' eb=>⟨rfl,I.turned (t':=s.toks) (λb ob hb e=>eb b ob hb e) f0 f1 f3 f4 f5⟩
 self:=λ_ _ _ _ _ st h=>V4 st h
def KS(te:TE):TI:=λσ H R=>te σ H λx H1=>∃d am,x=.ref d/\((H1 d=some (.dT am)/\∀o H2,Put H1 d (.frz o (.dT am)) H2->R (Itf o d) H2)\/∃o,H1 d=some (.frz o (.dT am))/\R (Itf o d) H1)
theorem Ck{X:Cx}{tg l:RI}{tl:TE}(hl:PE X l tl):PI X tg l (KS tl):=by
 intro ad s σ H R I h;refine thn (hl ad s σ H _ I h) ?_;rintro v s1 ⟨x,H1,I1,r1,q1⟩;obtain⟨d,am,e,q1⟩:=q1;subst e;cases r1;have key:∀(o:Obj) (H2:Hp),Inv X ad σ H2 s1->H2 d=some (.frz o (.dT am))->R (Itf o d) H2->RA (RJ X.prog X.w) X.A (Vb (.ref d)) (PIE X ad σ tg R) X.xe s1:=λo H2 I2 e2 q2=>by
  obtain⟨h0,h1,xs,es,ep,kt,g2,g3,g4,g5⟩:=zW I2 e2;refine ZG.Ej h1 h0 g2 g3 ⟨s1.heap.objs.size,[s1.heap.objs.size],_,_,H2,rfl,I2.kept (t':=s1.toks) λb ob z=>Rx _ z,sM o d _ es ep g3,⟨_,RF _ rfl,rfl,rfl⟩,λb hb=>?_,q2⟩;have e:b=s1.heap.objs.size:=by simpa using hb
  subst e;exact I2.qM (b_ _) (I2.hok.fresh (b_ _))
 rcases q1 with⟨e1,q⟩|⟨o,e1,q⟩
 ·obtain⟨z,hd,xs,kt,o,es,ep,g1,g2,g3,g4,g5⟩:=(show cV X.prog X.w H1 s1.heap d (.dT am)from I1.hok d _ e1);refine key o (upd H1 d (.frz o (.dT am))) ?_ ba (q o _ Put.up);refine mU (h':=s1.heap) (t':=s1.toks) (ob:=.frz o (.dT am)) I1 (by rw[e1];exact SG) ⟨rfl,λ_ _=>rfl⟩ ⟨o,g1⟩ ⟨g1,z,hd,xs,KT.keeps kt λc zs ec=>?_,o,es,ep,g1,g2,g3,g4,g5⟩;rw[aS (wx ec e1 (λz=>nomatch z))];exact ec
 exact key o H1 I1 e1 q
end L2
namespace PL
open PySem PySem.Spec PyProof.Rows L2
noncomputable def kyI:Key->T
 | .inl i=>.int i
 | .inr (some s)=>.str s
 | .inr none=>.non
def kyT(k:List Key):T:=.tup (k.map kyI)
noncomputable def kpG(o:Obj)(d:Rt)(vs:List (List Key×V)):Hp:=λb=>if b=d then some (.frz o (.dT vs))else none
variable {vs:List (List Key×V)}
section
variable{K:Rr}
theorem qN{H H2:Hp}{d:Rt}{o:Obj}{ts:List (List Key×T)}{Γ:Fm}(h:Rp K H ((.dT false ts,some (.ref d))::Γ))(h1:H d=some (.dT vs)\/H d=some (.frz o (.dT vs)))(h2:H2 d=some (.frz o (.dT vs)))(h3:∀b,b≠d->H2 b=H b):Rp K H2 ((.kp (kpG o d vs),some .non)::(.dT false ts,some (.ref d))::Γ):=by
 obtain⟨Hz,N,h,nd,g,dj⟩:=h;have hz:∃w,Hz d=some w:=by
  cases h with
  |cons e h c=>
   rcases h with⟨z,_⟩|⟨v,ev,h⟩
   ·cases z
   cases ev;cases h with
   |dTZ r _=>exact Rd.some r
 let Z:Hp:=λb=>if b=d then some (.frz o (.dT vs))else Hz b
 have zd:Z d=some (.frz o (.dT vs)):=if_pos rfl;have ze:∀b,b≠d->Z b=Hz b:=λb hb=>if_neg hb;have gz:Gr Hz Z:=λb u r=>by
  by_cases e:b=d
  ·subst e;rcases g b u r with q|⟨o',q⟩ <;> rcases h1 with h1|h1 <;> rw[h1]at q <;> cases q
   ·exact .inr ⟨o,zd⟩
   ·exact .inl zd
   exact .inr ⟨o,zd⟩
  unfold Rd at *;rw[ze b e];exact r
 have gh:Gr Z H2:=λb u r=>by
  by_cases e:b=d
  ·subst e;unfold Rd at *;rw[zd]at r;rw[h2];exact r
  unfold Rd at r;rw[ze b e]at r;have:=g b u r;unfold Rd at *;rw[h3 b e];exact this
 have hd:∀b∈N,b≠d:=λb m z=>by obtain⟨w,e⟩:=hz;rw[<-z,dj b m]at e;cases e
 refine⟨Z,[]++N,.cons rfl (.inr ⟨_,rfl,.kp λb u r=>?_⟩) (h.move (λb xs e=>?_) gz λb m u e=>?_),nd,gh,λb m=>?_⟩
 ·by_cases e:b=d
  ·subst e;unfold Rd kpG at r;rw[if_pos rfl]at r;unfold Rd;rw[zd];exact r
  unfold Rd kpG at r;rw[if_neg e]at r;rcases r with r|⟨_,r⟩ <;> cases r
 ·by_cases z:b=d
  ·subst z;rcases h1 with h1|h1 <;> rw[h1]at e <;> cases e
  rw[h3 b z];exact e
 ·rw[h3 b (hd b m)];exact⟨e,λn=>n⟩
 have m:b∈N:=m;rw[ze b (hd b m)];exact dj b m
theorem vf{H:Hp}{Γ:Fm}:∀(k:List Key),Rp K H Γ->Rp K H (zz (k.map kyI) (k.map kV)++Γ)
 | [],h=>h
 | .inl _::r,h=>dH (vf r h) λ_=>.int
 | .inr (some _)::r,h=>dH (vf r h) λ_=>.str
 | .inr none::r,h=>dH (vf r h) λ_=>.non
theorem vw{o:Obj}{d:Rt}:ItOk K (Itf o d) (vs.map λp=>kyT p.1) [(.kp (kpG o d vs),some .non)] where
 turn:=λi t H Γ ei rp=>by
  have rd:Rd H d (.frz o (.dT vs)):=by
   obtain⟨Hz,N,h,_,g,_⟩:=rp;cases h with
   |cons e h c=>
    rcases h with⟨z,_⟩|⟨v,ev,h⟩
    ·cases z
    cases h with
    |kp gr=>exact g _ _ (gr d _ (.inl (if_pos rfl)))
  rw[k_]at ei;cases e:vs[i]? with
  |none=>rw[e]at ei;cases ei
  |some p=>
   rw[e]at ei;cases ei;refine⟨⟨vs,rd,(c_.mp e).1⟩,λx H' hy=>?_⟩;obtain⟨rfl,hy⟩:=hy;obtain⟨k,w,b,e1,rfl,hb⟩:=hy vs rd;rw[e]at e1;cases e1;exact kG (ts:=k.map kyI) (vs:=k.map kV) (vf k rp) (by rw[a_,a_]) .iW hb
 stop:=λH Γ rp=>by
  have rd:Rd H d (.frz o (.dT vs)):=by
   obtain⟨Hz,N,h,_,g,_⟩:=rp;cases h with
   |cons e h c=>
    rcases h with⟨z,_⟩|⟨v,ev,h⟩
    ·cases z
    cases h with
    |kp gr=>exact g _ _ (gr d _ (.inl (if_pos rfl)))
  exact⟨vs,rd,by rw[a_];exact b_ _⟩
end
def JL(fe:PF):PIt:=λenv k=>fe env λt al=>match t with
 | .dT _ am=>k (am.map λp=>kyT p.1) al
 | _=>False
section
variable{X:Cx}{pos:Pos}{e tg:RI}{fe:PF}
theorem A7(h:GE X e fe):GI X tg e (JL fe):=by
 rintro ad s σ H R I ⟨env,Fr,k,rs,q,c⟩;refine Ck h ad s σ H R I ⟨env,Fr,_,rs,q,λt al v H1 q1 ge=>?_⟩;cases t <;> first|exact q1.elim|skip
 rename_i o ts;have rf:Rp X.K H1 ((.dT false (erT ts),some v)::(al.zip σ++Fr)):=mG ge.head;obtain⟨d,vs,rfl,hq,ek,dL⟩:=kC rf;have ek2:ts.map (·.1)=vs.map (·.1):=by
  rw[<-ek];clear ek rf q1 ge dL;induction ts with
  |nil=>rfl
  |cons a l ih=>rw[erT,e_,e_,ih]
 have e3:(ts.map λp=>kyT p.1)=vs.map λp=>kyT p.1:=by have:=congrArg (MZ kyT) ek2;rw[z_,z_]at this;exact this
 have q1:k (ts.map λp=>kyT p.1) al:=q1;rw[e3]at q1;refine⟨d,vs,rfl,?_⟩;rcases hq with hq|⟨ob,hq⟩
 ·refine .inl ⟨hq,λob H2 p=>c _ _ _ [(.kp (kpG ob d vs),some .non)] _ q1 ?_ vw⟩;have r:=qN (o:=ob) (H2:=H2) rf (.inl hq) p.at_ λb hb=>p.else_ b hb;exact .of ge.1 (r.perm (.swap _ _ _)).tail
 refine .inr ⟨ob,hq,c _ _ _ [(.kp (kpG ob d vs),some .non)] _ q1 ?_ vw⟩;have r:=qN (o:=ob) (H2:=H1) rf (.inr hq) hq λb hb=>rfl;exact .of ge.1 (r.perm (.swap _ _ _)).tail
end
noncomputable def asD(t:T)[k:Th (List (List Key×T)->Prop)]:Prop:=match t with
 | .dT _ am=>k.v am
 | _=>False
theorem jG{o:Bool}{am:List (List Key×T)}{k:Th (List (List Key×T)->Prop)}:asD (.dT o am) (k:=k)=k.v am:=rfl
theorem gc{env:Ev}{fe:PF}{ki:List T->Ev->Prop}:JL fe env ki=fe env λt al=>asD t (k:=⟨λam=>ki (am.map λp=>kyT p.1) al⟩):=by unfold JL asD;refine congrArg (fe env) (funext λt=>funext λal=>?_);cases t <;> rfl
end PL
namespace ZD
open PySem PyProof.Rows
open AutoSeq1 (wpAny_loadPart')
theorem DF(l b:Rt)(es:Array SY)(ep eb:Nat)(dd dd2:Option Rt)(sl sl2:Array (Option Rq))(hl:(l == R5)=false)(hb:(b == R5)=false) :
  Meets (S4.«dict.__ne__» ⟨[.ref l,.ref b],[]⟩)
   (λA R s=>s.heap.get? l=some { cls:=.type "dict",dict:=dd,data:=.dict es ep,slots:=sl}/\s.heap.get? b=some { cls:=.type "dict",dict:=dd2,data:=.dict #[] eb,slots:=sl2}/\R (.ok (.ret (.bool (es.size != 0)))) s):=.of_wp λprog w A R s h=>by
 obtain⟨hp,g,d,tk,os⟩:=s;obtain⟨h1,h2,h⟩:=h;have f2:=F.sub_dict_dict
 wp_walk using Si h1 rfl,Si h2 rfl
 by_cases hz:es.size=0
 ·have e0:es=#[]:=Array.eq_empty_of_size_eq_zero hz;subst e0;rw[if_neg (by decide)];refine Ro (Us h1 rfl ?_);simp only[Array.size_empty,Wc,X_];rw[show List.range' 0 ((0-0+1-1)/1)=[]from rfl,Pb];exact Ro (Rv (Rv (Rv ⟨_,rfl,h⟩)))
 rw[if_pos (by simpa using hz)]
 wp_walk
 exact⟨_,rfl,by rw[show(false == false)=(es.size != 0) by simp[hz]];exact h⟩
end ZD
namespace L2
open PySem PySem.Spec PyProof.Rows
section
variable{X:Cx}
theorem JX{kr:Nat}(hr:Room kr X.A):OpR X (RT .NotEq) (λx y H Q=>∃a b am,x=.ref a/\y=.ref b/\Rd H a (.dT am)/\Rd H b (.dT [])/\Q (.bl (am.length != 0)) H):=by
 intro ad s σ H x y v u Q I rx ry h;obtain⟨a,b,am,rfl,rfl,ha,hb,q⟩:=h;cases rx;cases ry;obtain⟨z,lo,xs,kt,o,es,ep,g1,g2,g3,g4,g5⟩:=(show cV X.prog X.w H s.heap a (.dT am)from ha.ok I.hok);obtain⟨z',lo',xs',kt',o',es',ep',g1',g2',g3',g4',g5'⟩:=(show cV X.prog X.w H s.heap b (.dT [])from hb.ok I.hok);have e1:es.size=am.length:=by rw[<-h_,g4,a_];exact(Sn kt).symm
 have e2:es'=#[]:=by cases kt';exact Array.toList_inj.mp g4'
 subst e2;obtain⟨c1,c2,c3⟩:=g2;obtain⟨c1',c2',c3'⟩:=g2';obtain⟨cls,dd,dat,sl⟩:=o;obtain⟨cls',dd',dat',sl'⟩:=o';dsimp only at *;subst c1 c1' g3 g3';exact richCompare_meets_room (op:=.NotEq) ⟨_,g1,rfl⟩ ⟨_,g1',rfl⟩ F.slot_dict_ne F.entry_dict_ne (F.args_dict_ne_2 _ _) (ZD.DF a b es ep ep' dd dd' sl sl' lo lo') ⟨g1,g1',(λx=>nomatch x),.bl (am.length != 0),H,I,by rw[e1];rfl,q⟩ (by have:=Mi hr;exact MX (show X.A.units<=X.A.units+1+1 by omega) this)
end
end L2
namespace PL
open PySem PySem.Spec PyProof.Rows L2
noncomputable def L0:P2:=λt u k=>∃o am o',t=.dT o am/\u=.dT o' []/\k (.bl (am.length != 0))
theorem Gy{X:Cx}{kr:Nat}(hr:Room kr X.A):OpP X (RT .NotEq) L0:=.of (JX hr) λtx ty x y H Γ k Q rp g c=>by
 obtain⟨o,am,o',rfl,rfl,g⟩:=g;obtain⟨b,vs',rfl,hb,eb,_⟩:=kC rp;obtain⟨a,vs,rfl,ha,ea,_⟩:=kC rp.tail;have e0:vs'=[]:=Np.mp eb.symm;subst e0;have e1:am.length=vs.length:=by rw[<-a_ (f:=(·.1)),ea,a_]
 rw[e1]at g;exact⟨a,b,vs,rfl,rfl,ha,hb,c _ _ _ g (dH rp.tail.tail λ_=>.bl)⟩
theorem iw{o o':Bool}{am:List (List Key×T)}{k:T->Prop}:L0 (.dT o am) (.dT o' []) k=k (.bl (am.length != 0)):=propext ⟨λ⟨_,_,_,e1,_,g⟩=>by cases e1;exact g,λg=>⟨_,_,_,rfl,rfl,g⟩⟩
end PL
namespace ZS
open PySem PyProof.Rows
theorem Em:∀(x y:List Int),ZM.lx x y=ltL x y
 | [],[]=>rfl
 | [],_::_=>rfl
 | _::_,[]=>rfl
 |a::x,b::y=>by rw[ZM.lx,ltL,Em x y]
variable {m:Int}{x y:List Int}
theorem J9{n:Int}(h:n≠m):ltL (n::x) (m::y)=decide (n<m):=by rw[ltL,if_neg h]
theorem Ig{n:Int}(h:n=m):ltL (n::x) (m::y)=ltL x y:=by rw[ltL,if_pos h]
noncomputable def j7(h:RM):Rq->List Int
 | .ref a=>match h.get? a with
  |some o=>match o.data with
   | .seq xs _=>match xs.toList with
    | [.int n _,.ref c]=>n::oV h (.ref c)
    | _=>[]
   | _=>[]
  |none=>[]
 | _=>[]
theorem Ft{h:RM}{a c:Rt}{o:Obj}{t:Tok}{n:Nat}(e:h.get? a=some o)(d:o.data=.seq #[.int m t,.ref c] n):j7 h (.ref a)=m::oV h (.ref c):=by unfold j7;dsimp only;rw[e];dsimp only;rw[d]
end ZS
namespace L2
open PySem PySem.Spec PyProof.Rows
variable {H:Hp}{ad:List (Rt×Obj)}{s:Ru}{σ:St}
section
variable{X:Cx}
abbrev NK:=V×Int×List Int
noncomputable def pX(e:NK):List Int:=e.2.1::e.2.2
def NOk(K:Rr)(H:Hp)(e:NK):Prop:=∃b c,e.1=.ref b/\SqT K H b [.int e.2.1,.ref c]/\SqT K H c (e.2.2.map V.int)
theorem nk(I:Inv X ad σ H s){e:NK}(h:NOk X.K H e):∃b o n t c,uY e.1=.ref b/\s.heap.get? b=some o/\o.cls=.type "tuple"/\o.data=.seq #[.int e.2.1 t,.ref c] n/\SqT X.K H c (e.2.2.map V.int):=by
 obtain⟨b,c,e1,hb,hc⟩:=h;obtain⟨be,r,⟨o,ho,hcl,n,hd⟩,_⟩:=I.tuple hb;cases r with
 |cons r1 r2=>
  cases r2 with
  |cons r3 r4=>
   cases r4;obtain⟨t,rfl⟩:=r1;cases r3;exact⟨b,o,n,t,c,by rw[e1];rfl,ho,hcl,hd,hc⟩
theorem Jo{A:RS}{E:Rq->Ru->Prop}(hu:A.units+3<cLine)(I:Inv X ad σ H s){e f:NK}(he:NOk X.K H e)(hf:NOk X.K H f){Q:Bool->Ru->Prop}(q:Q (ZS.ltL (pX e) (pX f)) s):RA (RJ X.prog X.w) A (keyLt' (Wn true) (uY e.1) (uY f.1)) Q E s:=by
 obtain⟨a,oa,na,ta,c,ea,ga,ca,da,hc⟩:=nk I he;obtain⟨b,ob,nb,tb,d,eb,gb,cb,db,hd⟩:=nk I hf;rw[ea,eb];refine Xl ga da gb db ?_;unfold pX at q;refine Vj (Ua ?_);by_cases z:e.2.1=f.2.1
 ·rw[ZS.Ig z]at q;rw[show(e.2.1 == f.2.1)=true by simpa using z];have ed:=DY (A:=A) I (by lia) hc hd;refine Vw (Vj (ed _ _ _ _ ?_));by_cases y:e.2.2=f.2.2
  ·rw[decide_eq_true y];rw[y,ZS.vJ]at q;exact Vw (Uv q)
  rw[decide_eq_false y];refine VN (W7 _ _ ?_);obtain⟨be,r1,⟨o1,g1,k1,n1,d1⟩,_⟩:=I.tuple hc;obtain⟨jts,r2,⟨o2,g2,k2,n2,d2⟩,_⟩:=I.tuple hd;refine ZM.Jr g1 k1 d1 g2 k2 d2 (by lia) (oz r1) (oz r2) ?_;rw[ZS.Em];exact q
 rw[ZS.J9 z]at q;rw[show(e.2.1 == f.2.1)=false by simpa using z];refine VN ?_;exact oneLt_int q
theorem lF(I:Inv X ad σ H s){e:NK}(h:NOk X.K H e):ZS.j7 s.heap (uY e.1)=pX e:=by
 obtain⟨a,oa,na,ta,c,ea,ga,ca,da,hc⟩:=nk I h;obtain⟨be,r1,⟨o1,g1,k1,n1,d1⟩,_⟩:=I.tuple hc;obtain⟨ps,e1,e2⟩:=gD r1;rw[ea,ZS.Ft ga da,ZS.rb g1 d1];unfold pX;congr 1;show be.map ZS.qJ=_;rw[e1,z_,<-e2]
 rfl
theorem K0{A:RS}(hu:A.units+2<cLine)(I:Inv X ad σ H s){e f:NK}(he:NOk X.K H e)(hf:NOk X.K H f):V1 A s (uY e.1) (uY f.1) (e.2 == f.2):=by
 have k1:=lF I he;have k2:=lF I hf;obtain⟨a,oa,na,ta,c,ea,ga,ca,da,hc⟩:=nk I he;obtain⟨b,ob,nb,tb,d,eb,gb,cb,db,hd⟩:=nk I hf;rw[ea]at k1 ⊢;rw[eb]at k2 ⊢;refine xj ?_ ?_
 ·have g:=Ww (A:=A) (e:=λj=>if j=0 then e.2.1 == f.2.1 else decide (e.2.2=f.2.2)) ⟨oa,ga,ca,na,da⟩ ⟨ob,gb,cb,nb,db⟩ (by lia) (λj h1 h2=>by
   rcases j with-|-| j
   ·exact .int_int _ _ _ _
   ·exact DY I (show A.units+1<cLine by lia) hc hd
   exact absurd h1 (by simp))
  rw[show(e.2 == f.2)=((w_ (min 2 2)).all (λj=>if j=0 then e.2.1 == f.2.1 else decide (e.2.2=f.2.2))&&2 == 2) by
   rw[<-O0];show _=((e.2.1 == f.2.1&&(e.2.2 == f.2.2&&true))&&true);rw[NN,NN]
   rfl]
  exact g
 rintro rfl;rw[k1]at k2;unfold pX at k2;injection k2 with k3 k4
 rw[show e.2=f.2 from Oq k3 k4];exact beq_self_eq_true _
theorem rA{K:Rr}:∀{l:List NK}{vs:List Rq},(∀e∈l,NOk K H e)->Vals (l.map (·.1)) vs->l.map (λe=>uY e.1)=vs:=by
 intro l;induction l with
 |nil=>intro vs _ r;cases r;rfl
 |cons e l ih=>
  intro vs h r;rw[e_]at r;cases r with
  |cons r1 r2=>
   obtain⟨b,c,e1,_⟩:=h e x_;rw[e1]at r1;cases r1;rw[e_,ih (λe he=>h e (q_ _ he)) r2,e1]
   rfl
theorem JF{kr:Nat}(hr:Room kr X.A):OpR X (RT .NotEq) (λx y H Q=>∃p q,∃vk wk:List NK,x=.ref p/\y=.ref q/\SqL X.K H p (vk.map (·.1))/\SqL X.K H q (wk.map (·.1))/\(∀e∈vk,NOk X.K H e)/\(∀e∈wk,NOk X.K H e)/\Q (.bl (!decide (vk.map (·.2)=wk.map (·.2)))) H):=by
 rintro ad s σ H x y v u Q I rx ry ⟨p,q,vk,wk,rfl,rfl,s1,s2,h1,h2,g⟩;cases rx;cases ry;have hu:X.A.units+3<cLine:=PL.wC hr (n:=3) (by decide);obtain⟨us,r1,p1,_⟩:=I.list s1;obtain⟨vs,r2,p2,_⟩:=I.list s2;have e1:=rA h1 r1;have e2:=rA h2 r2;subst e1 e2;have key:=xR (0,[]) (vk.map (·.2)) (wk.map (·.2));rw[a_,a_]at key;by_cases e:vk.length=wk.length
 ·have k:=UM (A:=X.A) (e:=λj=>(vk.map (·.2)).getD j (0,[]) ==(wk.map (·.2)).getD j (0,[])) p1.isList p2.isList (by rw[g_,g_,a_,a_,e]) (by lia) (λj g1 g2=>by rw[g_,a_]at g1 g2;rw[Ov,Ov,OX,OX,A',A',k_,k_,d_ g1,d_ g2];exact K0 (show X.A.units+1+2<cLine by lia) I (h1 _ (Ni g1)) (h2 _ (Ni g2)))
  rw[g_,a_]at k;rw[<-e,PZ,beq_self_eq_true,NN]at key;rw[key]at k;exact k _ _ _ _ ⟨.bl _,H,I,rfl,g⟩
 rw[decide_eq_false λz=>e (by rw[<-a_ (·.2),z,a_])]at g;exact Xz p1.isList p2.isList (by rw[g_,g_,a_,a_];exact bne_iff_ne.mpr e) (by lia) _ _ _ _ ⟨.bl true,H,I,rfl,g⟩
theorem v3{k:Nat}(hr:Room k X.A):dJ X (.builtin "sorted") (λxs H Q=>∃p,∃vk:List NK,xs=[.ref p]/\SqL X.K H p (vk.map (·.1))/\(∀e∈vk,NOk X.K H e)/\∀wk:List NK,wk.Perm vk->(wk.map pX).Pairwise (λx y=>ZS.ltL y x=false)->New (.lst (wk.map (·.1))) H Q):=by
 intro ad s σ H xs us Q I r h;obtain⟨p,vk,rfl,hq,hr2,q⟩:=h;obtain⟨u,rfl,ru⟩:=vals1 r;cases ru;obtain⟨be,rv,pl,hz⟩:=I.list hq;have hlen:=rv.length;have f2:=rA hr2 rv;have f3:∀v∈be,∃e∈vk,uY e.1=v:=λv hv=>by rw[<-f2]at hv;exact o_.mp hv
 have hun:X.A.in1.in1.units+3<cLine:=by have:=hr.un;show X.A.units+1+1+3<cLine;lia
 refine ZS.su (kd:=Wn true) (rk:=λx=>ZS.rnk ZS.ltL (vk.map pX) (ZS.j7 s.heap x.1)) (S:=λx=>x.1∈be) pl.isList (by lia) (λv hv=>hv) (λh' kp {Q}{E} jp q=>?_)
  (λh' E kp x y st Q sx sy kd q=>?_) λo a c h' op os ha kp e=>?_
 ·have mk:∀(l:List Rq),(∀v∈l,v∈be)->∃fs,W8 h' l fs/\ZS.AllInt fs/\fs.length=l.length:=by
   intro l;induction l with
   |nil=>exact λ_=>⟨[],Wa,λv hv=>(nomatch hv),rfl⟩
   |cons v r ih=>
    intro hl;obtain⟨fs,k1,k2,k3⟩:=ih λv hv=>hl v (.tail _ hv);obtain⟨e,he,rfl⟩:=f3 v (hl v (.head _));obtain⟨a,oa,na,ta,c,ea,ga,ca,da,hc⟩:=nk I (hr2 e he);rw[ea];refine⟨.int e.2.1 ta::fs,V3 (kp _ _ ga) ca da rfl k1,λv hv=>?_,by rw[j_,j_,k3]⟩;rcases n_.mp hv with e|e
    ·exact⟨_,_,e⟩
    exact k2 v e
  obtain⟨fs,k1,k2,k3⟩:=mk be λv hv=>hv;refine WR (s:={s with heap:=h'}) (T:=.type "int") k1 ?_ (λv hv=>?_) rfl q
  ·rw[k3];exact N2.mpr jp
  obtain⟨i,t,rfl⟩:=k2 v hv;exact .now
 ·obtain⟨e1,m1,g1⟩:=f3 _ sx;obtain⟨e2,m2,g2⟩:=f3 _ sy;have J:Inv X ad σ H {s with heap:=h'}:=I.kept (t':=s.toks) kp;rw[lt'_eq];refine RB (TF ?_);rw[kd,<-g1,<-g2];refine RB (Vi (S6 (Jo (A:=X.A.in1.in1) hun J (hr2 e1 m1) (hr2 e2 m2) ⟨rfl,?_⟩)));refine RH ?_;dsimp only at q;rw[ZS.Ax ZS.vy (show ZS.j7 s.heap x.1∈vk.map pX by rw[<-g1,lF I (hr2 e1 m1)];exact I_ m1),<-g1,<-g2,lF I (hr2 e1 m1),lF I (hr2 e2 m2)]at q;exact q
 rw[<-f2]at op;obtain⟨wk,wp,we⟩:=Bl op vk rfl;have mem:∀e∈wk,e∈vk:=λe he=>wp.mem_iff.mp he;have vv:∀(l:List NK),(∀e∈l,e∈vk)->Vals (l.map (·.1)) (l.map λe=>uY e.1):=by
  intro l;induction l with
  |nil=>exact λ_=>.nil
  |cons e l ih=>
   intro h;obtain⟨b,_,eb,_⟩:=hr2 e (h e (.head _));exact .cons (by dsimp only;rw[eb];rfl) (ih λe he=>h e (.tail _ he))
 have v1:=vv wk mem;rw[we]at v1;refine⟨.ref a,_,I.laid (t':=s.toks) kp ha (show cV X.prog X.w _ h' _ (.lst (wk.map (·.1)))from⟨by rw[a_,wp.length_eq,<-a_ (f:=(·.1))];lia,o,c,v1,e⟩),rfl,(q wk wp ?_).at (I.hok.fresh ha)⟩;rw[Nc];rw[<-we,Nc]at os;refine OI (λ{x y} hx hy hxy=>?_) os;cases z:ZS.ltL (pX y) (pX x)
 ·rfl
 have:=ZS.zr ZS.vy (ks:=vk.map pX) (I_ (mem y hy)) z;dsimp only at hxy;rw[lF I (hr2 x (mem x hx)),lF I (hr2 y (mem y hy))]at hxy;exact absurd this (QY.mpr hxy)
end
end L2
namespace PL
open PySem PySem.Spec PyProof.Rows L2
abbrev Nk:=Int×List Int
def nkT(e:Nk):T:=.tup [.int e.1,iT e.2]
noncomputable def nkL(e:Nk):List Int:=e.1::e.2
noncomputable def unN(k:List Int):Nk:=(k.headD 0,k.tail)
def srN(ks:List Nk):List Nk:=(rG (ks.map nkL)).map unN
theorem Ep(ks:List Nk):(srN ks).Perm ks:=by unfold srN;refine((jj (ks.map nkL)).map unN).trans (.of_eq ?_);rw[z_];exact QG ks
def CZ(t:T)[k:Th (T->Prop)]:Prop:=∃(o:Bool) (ks:List Nk),t=.lst o (ks.map nkT)/\k.v (.lst true ((srN ks).map nkT))
def sJ:P1s:=λts k=>match ts with
 | [t]=>CZ t (k:=⟨k⟩)
 | _=>False
theorem aX{t:T}{k:T->Prop}:sJ [t] k=CZ t (k:=⟨k⟩):=rfl
theorem E1{o:Bool}(ks:List Nk){t:T}{k:Th (T->Prop)}(e:t=.lst o (ks.map nkT))(q:k.v (.lst true ((srN ks).map nkT))):CZ t (k:=k):=⟨o,ks,e,q⟩
theorem zF{K:Rr}{H:Hp}{Γ:Fm}{o:Bool}{ks:List Nk}{x:V}(rp:Rp K H ((.lst o (ks.map nkT),some x)::Γ)):∃a vs,x=.ref a/\Rd H a (.lst vs)/\ks.length=vs.length/\(∀e∈vs.zip ks,NOk K H e)/\Rp K H ((vs.zip ks).map (λe=>(nkT e.2,some e.1))++Γ):=by obtain⟨a,vs,rfl,hq,l2,dL⟩:=lj rp;rw[a_]at l2;rw[ED l2]at dL;refine⟨a,vs,rfl,hq,l2,λe he=>?_,dL⟩;obtain⟨s1,s2,es⟩:=List.append_of_mem he;rw[es,l_,e_]at dL;have f8:=dL.perm (f_.append_right Γ);obtain⟨b,ws,eb,hb,l3,rp4⟩:=nA (ts:=[.int e.2.1,iT e.2.2]) f8;obtain⟨w1,w2,rfl⟩:=zz2 l3 rfl;have rp4:Rp K H ((.int e.2.1,some w1)::(iT e.2.2,some w2)::_):=rp4;have ew:=b6 rp4;subst ew;obtain⟨c',us',ec,hc,l5,rp5⟩:=nA rp4.tail;have eu:=jY l5 rp5;subst eu;subst ec;exact⟨b,c',eb,SqT.of hb,SqT.of hc⟩
theorem tK{X:Cx}{kr:Nat}(hr:Room kr X.A):jV X (.builtin "sorted") sJ:=by
 rintro ad s σ H xs us Q I r ⟨ts,Γ,k,l,rp,g,c⟩;unfold sJ at g;split at g
 ·rename_i t;obtain⟨o,ks,rfl,kt⟩:=g;obtain⟨x,rfl⟩:=zz1 l rfl;have rp:Rp X.K H ((.lst o (ks.map nkT),some x)::Γ):=rp;obtain⟨a,vs,rfl,hq,l2,nok,dL⟩:=zF rp;have e1:(vs.zip ks).map (·.1)=vs:=P7 (Ng l2.symm);have e2:(vs.zip ks).map (·.2)=ks:=P8 (Ng l2);refine v3 hr ad s σ H _ us Q I r ⟨a,vs.zip ks,rfl,.inl (by rw[e1];exact hq),nok,λwk wp sm p H' hp g' e'=>c _ _ _ kt ?_⟩;have es:wk.map (·.2)=srN ks:=by unfold srN;have e3:wk.map pX=rG (ks.map nkL):=qU ZS.vy (by rw[<-e2,z_];exact wp.map _) sm;rw[<-e3,z_];exact nw λe _=>rfl
  rw[<-es];have f8:=dL.perm ((wp.symm.map λe=>((nkT e.2,some e.1):T×Option V)).append_right Γ);rw[wQ]at f8;exact kc f8 (by rw[a_,a_,a_]) hp g' e'
 exact RL g
end PL
namespace L2
open PySem PySem.Spec PyProof.Rows
def Mm(K:Rr)(tl:TE):TI:=λσ H R=>tl σ H λx H1=>(∃b a xs,x=.ref a/\SqG b K H1 a xs/\R (Its K b a) H1)\/∃d am,x=.ref d/\((H1 d=some (.dT am)/\∀o H2,Put H1 d (.frz o (.dT am)) H2->R (Itf o d) H2)\/∃o,H1 d=some (.frz o (.dT am))/\R (Itf o d) H1)
theorem Ip{X:Cx}{tg l:RI}{tl:TE}(hl:PE X l tl):PI X tg l (Mm X.K tl):=by
 intro ad s σ H R I h;refine thn (hl ad s σ H _ I h) ?_;rintro v s1 ⟨x,H1,I1,r1,q1⟩;rcases q1 with q1|q1
 ·obtain⟨b,a,xs,rfl,hq,q⟩:=q1;cases r1;cases b with
  |true=>
   obtain⟨be,rv,p,hz⟩:=I1.tuple hq;refine R9 (show s1.heap.IsTuple a be.toArray from p) ⟨s1.heap.objs.size,[s1.heap.objs.size],_,_,H1,rfl,I1.kept (t':=s1.toks) λb o e=>Rx _ e,rZ a _,⟨_,RF _ rfl,rfl,rfl⟩,λb hb=>?_,q⟩;have e:b=s1.heap.objs.size:=by simpa using hb
   subst e;exact I1.qM (b_ _) (I1.hok.fresh (b_ _))
  |false=>
   obtain⟨be,rv,p,hz⟩:=I1.list hq;refine Sy p.isList ⟨s1.heap.objs.size,[s1.heap.objs.size],_,_,H1,rfl,I1.kept (t':=s1.toks) λb o e=>Rx _ e,tY a _,⟨_,RF _ rfl,rfl,rfl⟩,λb hb=>?_,q⟩;have e:b=s1.heap.objs.size:=by simpa using hb
   subst e;exact I1.qM (b_ _) (I1.hok.fresh (b_ _))
 obtain⟨d,am,e,q1⟩:=q1;subst e;cases r1;have key:∀(o:Obj) (H2:Hp),Inv X ad σ H2 s1->H2 d=some (.frz o (.dT am))->R (Itf o d) H2->RA (RJ X.prog X.w) X.A (Vb (.ref d)) (PIE X ad σ tg R) X.xe s1:=λo H2 I2 e2 q2=>by
  obtain⟨h0,h1,xs,es,ep,kt,g2,g3,g4,g5⟩:=zW I2 e2;refine ZG.Ej h1 h0 g2 g3 ⟨s1.heap.objs.size,[s1.heap.objs.size],_,_,H2,rfl,I2.kept (t':=s1.toks) λb ob z=>Rx _ z,sM o d _ es ep g3,⟨_,RF _ rfl,rfl,rfl⟩,λb hb=>?_,q2⟩;have e:b=s1.heap.objs.size:=by simpa using hb
  subst e;exact I2.qM (b_ _) (I2.hok.fresh (b_ _))
 rcases q1 with⟨e1,q⟩|⟨o,e1,q⟩
 ·obtain⟨z,hd,xs,kt,o,es,ep,g1,g2,g3,g4,g5⟩:=(show cV X.prog X.w H1 s1.heap d (.dT am)from I1.hok d _ e1);refine key o (upd H1 d (.frz o (.dT am))) ?_ ba (q o _ Put.up);refine mU (h':=s1.heap) (t':=s1.toks) (ob:=.frz o (.dT am)) I1 (by rw[e1];exact SG) ⟨rfl,λ_ _=>rfl⟩ ⟨o,g1⟩ ⟨g1,z,hd,xs,KT.keeps kt λc zs ec=>?_,o,es,ep,g1,g2,g3,g4,g5⟩;rw[aS (wx ec e1 (λz=>nomatch z))];exact ec
 exact key o H1 I1 e1 q
end L2
namespace PL
open PySem PySem.Spec PyProof.Rows L2
def Df:T->Option (List T)
 | .dT _ am=>some (am.map λp=>kyT p.1)
 |t=>items t
def LW(fe:PF):PIt:=λenv k=>fe env λt al=>got (Df t) λts=>k (erL ts) al
theorem fv{env:Ev}{fe:PF}{ki:List T->Ev->Prop}:LW fe env ki=fe env λt al=>gH (Df t) (k:=⟨λts=>ki (erL ts) al⟩):=rfl
theorem H0(am:List (List Key×T)):erL (am.map λp=>kyT p.1)=am.map λp=>kyT p.1:=by rw[bf];refine nw λp _=>?_;show er (.tup (p.1.map kyI))=.tup (p.1.map kyI);rw[er,bf];exact congrArg T.tup (nw λk _=>by rcases k with _ | _ | _ <;> rfl)
section
variable{X:Cx}{pos:Pos}{e tg:RI}{fe:PF}
theorem Jv(h:GE X e fe):GI X tg e (LW fe):=by
 rintro ad s σ H R I ⟨env,Fr,k,rs,q,c⟩;refine Ip h ad s σ H R I ⟨env,Fr,_,rs,q,λt al v H1 q1 ge=>?_⟩;obtain⟨us,e1,kt⟩:=aJ q1;by_cases hd:∃o ts,t=.dT o ts
 ·obtain⟨o,ts,rfl⟩:=hd;have rf:Rp X.K H1 ((.dT false (erT ts),some v)::(al.zip σ++Fr)):=mG ge.head;obtain⟨d,vs,rfl,hq,ek,dL⟩:=kC rf;have ek2:ts.map (·.1)=vs.map (·.1):=by
   rw[<-ek];clear ek rf q1 ge dL e1;induction ts with
   |nil=>rfl
   |cons a l ih=>rw[erT,e_,e_,ih]
  have e3:(ts.map λp=>kyT p.1)=vs.map λp=>kyT p.1:=by have:=congrArg (MZ kyT) ek2;rw[z_,z_]at this;exact this
  have e4:us=ts.map λp=>kyT p.1:=(F_ e1).symm;rw[e4,H0,e3]at kt;refine .inr ⟨d,vs,rfl,?_⟩;rcases hq with hq|⟨ob,hq⟩
  ·refine .inl ⟨hq,λob H2 p=>c _ _ _ [(.kp (kpG ob d vs),some .non)] _ kt ?_ vw⟩;have r:=qN (o:=ob) (H2:=H2) rf (.inl hq) p.at_ λb hb=>p.else_ b hb;exact .of ge.1 (r.perm (.swap _ _ _)).tail
  refine .inr ⟨ob,hq,c _ _ _ [(.kp (kpG ob d vs),some .non)] _ kt ?_ vw⟩;have r:=qN (o:=ob) (H2:=H1) rf (.inr hq) hq λb hb=>rfl;exact .of ge.1 (r.perm (.swap _ _ _)).tail
 have e1:items t=some us:=by cases t <;> first|exact e1|exact absurd ⟨_,_,rfl⟩ hd
 have rf:Rp X.K H1 ((er t,some v)::(al.zip σ++Fr)):=mG ge.head;obtain⟨e2,e3⟩:=mE e1;obtain⟨a,vs,rfl,hq,l,dL⟩:=aG e2 rf;exact .inl ⟨lJ (er t),a,vs,rfl,hq,c _ _ _ _ _ kt (Rs.of (Fr:=Fr) ge.1 rf) (Eb e2 (aK t))⟩
end
def r9:P1s
 | [.lst _ ts],k=>got (rowsOf ts) λks=>k (.lst true ((rG ks).map iT))
 | _,_=>False
theorem gw{X:Cx}:jV X (.builtin "sorted") r9:=by
 rintro ad s σ H xs us Q I r ⟨ts,Γ,k,l,rp,g,c⟩;unfold r9 at g;split at g
 ·rename_i k o ts;obtain⟨x,rfl⟩:=zz1 l rfl;have rp:Rp X.K H ((.lst o ts,some x)::Γ):=rp;obtain⟨a,vs,rfl,hq,l2,dL⟩:=lj rp;obtain⟨ks,ek,kt⟩:=aJ g;obtain⟨et,ne⟩:=uQ ek;subst et;obtain⟨rv,ex⟩:=x6 ne l2 dL;refine vD ad s σ H _ us Q I r ⟨a,vs,ks,rfl,.inl hq,rv,λzs ls rz mem pm sm p H' hp g' e'=>c _ _ _ kt ?_⟩;have es:ls=rG ks:=qU ZS.vy pm sm;rw[<-es];have rH:=FF (λv hv b eb xs hs=>by obtain⟨b',k',e1,e2⟩:=ex v (mem v hv);rw[eb]at e1;cases e1;rw[e2,I.pP hs (SqT.of e2)]) rz
  obtain⟨f8,l3⟩:=rF rH rp.tail;exact kc f8 l3 hp g' e'
 exact RL g
def Jx(t u:T):Option Bool:=match t with
 | .int i=>match u with
  | .int j=>some (decide (i=j))
  | _=>none
 | .str i=>match u with
  | .str j=>some (decide (i=j))
  | _=>none
 | .bl i=>match u with
  | .bl j=>some (i == j)
  | _=>none
 | _=>(items t).bind λts=>(items u).bind λus=>(intsOf ts).bind λa=>(intsOf us).bind λb=>if lJ t=lJ u then some (decide (a=b))else none
def eqS:P2:=λt u k=>got (Jx t u) λb=>k (.bl b)
def neS:P2:=λt u k=>got (Jx t u) λb=>k (.bl (!b))
theorem CL{K:Rr}{H:Hp}{Γ:Fm}{t u:T}{x y:V}{b:Bool}(rp:Rp K H ((u,some y)::(t,some x)::Γ))(e:Jx t u=some b):EqS K H x y b:=by
 have seq:∀{t:T},Rp K H ((u,some y)::(t,some x)::Γ)->((items t).bind λts=>(items u).bind λus=>(intsOf ts).bind λa=>(intsOf us).bind λb=>if lJ t=lJ u then some (decide (a=b))else none)=some b->EqS K H x y b:=by
  intro t rp e;obtain⟨ts,e1,f1⟩:=N5.mp e;obtain⟨us,e2,f2⟩:=N5.mp f1;obtain⟨a,e3,f3⟩:=N5.mp f2;obtain⟨c,e4,f4⟩:=N5.mp f3;clear e f1 f2 f3;have e5:=k7 e3;have e6:=k7 e4;subst e5 e6;by_cases h:lJ t=lJ u
  ·rw[if_pos h]at f4;cases f4;obtain⟨p,xs,rfl,s1,l1,r1⟩:=aG e1 rp.tail;obtain⟨q,ys,rfl,s2,l2,r2⟩:=aG e2 rp;have v1:=jY l1 r1;have v2:=jY l2 r2;subst v1 v2;rw[h]at s1;exact .inr (.inr (.inr ⟨_,p,q,a,c,rfl,rfl,rfl,s1,s2⟩))
  rw[if_neg h]at f4;cases f4
 cases t <;> try exact seq rp e
 ·cases u <;> cases e
  rw[jU rp,jU rp.tail];exact .inr (.inr (.inl ⟨_,_,rfl,rfl,rfl⟩))
 ·cases u <;> cases e
  rw[b6 rp,b6 rp.tail];exact .inl ⟨_,_,rfl,rfl,rfl⟩
 cases u <;> cases e
 rw[kZ rp,kZ rp.tail];exact .inr (.inl ⟨_,_,rfl,rfl,rfl⟩)
section
variable{X:Cx}
theorem cS{k:Nat}(hr:Room k X.A):OpP X (RT .Eq) eqS:=.of (Ew (wC hr (n:=0) (by decide))) λtx ty x y H Γ k Q rp g c=>by obtain⟨b,e,g⟩:=aJ g;refine⟨b,CL rp e,?_⟩;rw[Q5];exact c _ _ _ g (dH rp.tail.tail λ_=>.bl)
theorem rg{k:Nat}(hr:Room k X.A):OpP X (RT .NotEq) neS:=.of (IW (wC hr (n:=0) (by decide))) λtx ty x y H Γ k Q rp g c=>by obtain⟨b,e,g⟩:=aJ g;refine⟨b,CL rp e,?_⟩;rw[Q9];exact c _ _ _ g (dH rp.tail.tail λ_=>.bl)
end
section
variable{i j:Int}{x y:Str}{b c:Bool}{k:T->Prop}
theorem iD:eqS (.int i) (.int j) k=k (.bl (decide (i=j))):=rfl
theorem iU:neS (.str x) (.str y) k=k (.bl (!decide (x=y))):=rfl
theorem i8:neS (.bl b) (.bl c) k=k (.bl (!(b == c))):=rfl
theorem IV{a b c d:Int}:neS (.tup [.int a,.int b]) (.tup [.int c,.int d]) k=k (.bl (!decide (a=c/\b=d))):=by show k (.bl (!decide ([a,b]=[c,d])))=_;simp only[Nn,and_true]
end
def B9(b:Bool):P2:=λx y k=>match y with
 | .dT _ am=>match x with
  | .tup ts=>got (j7 ts) λq=>k (.bl (b !=(kJ am q).isSome))
  | _=>False
 | _=>False
variable{X:Cx}
theorem E8{kr:Nat}(hr:Room kr X.A):OpP X (RT .In) (B9 false):=by
 rintro ad s σ H x y v u Q I rx ry ⟨tx,ty,Γ,k,rp,g,c⟩;cases ty <;> first|exact RL g|skip
 rename_i o am;cases tx <;> first|exact RL g|skip
 rename_i ts;obtain⟨q,eq,g⟩:=aJ g;obtain⟨b,rfl,hb⟩:=ni eq rp.tail;obtain⟨a,vs,rfl,hq,ek,dL⟩:=kC rp;cases ry;rw[pR q ek,Q6]at g;exact MO (mD hr) I (.inr ⟨vs,q,b,hq,rfl,hb,rfl⟩) rx λs' I'=>⟨.bl _,H,I',rfl,c _ _ _ g (dH rp.tail.tail λ_=>.bl)⟩
theorem n5{kr:Nat}(hr:Room kr X.A):OpP X (RT .NotIn) (B9 true):=by
 rintro ad s σ H x y v u Q I rx ry ⟨tx,ty,Γ,k,rp,g,c⟩;cases ty <;> first|exact RL g|skip
 rename_i o am;cases tx <;> first|exact RL g|skip
 rename_i ts;obtain⟨q,eq,g⟩:=aJ g;obtain⟨b,rfl,hb⟩:=ni eq rp.tail;obtain⟨a,vs,rfl,hq,ek,dL⟩:=kC rp;cases ry;rw[pR q ek,Ra]at g;exact Fp (mD hr) I (.inr ⟨vs,q,b,hq,rfl,hb,rfl⟩) rx λs' I'=>⟨.bl _,H,I',rfl,c _ _ _ g (dH rp.tail.tail λ_=>.bl)⟩
variable {am:List (List Key×T)}{ts:List T}
theorem i7{o:Bool}{k:T->Prop}:B9 false (.tup ts) (.dT o am) k=gH (j7 ts) (k:=⟨λq=>k (.bl (kJ am q).isSome)⟩):=by
 show got (j7 ts) _=got (j7 ts) _;congr 1;funext q;rw[Q6]
 rfl
theorem hU{o:Bool}{k:T->Prop}:B9 true (.tup ts) (.dT o am) k=gH (j7 ts) (k:=⟨λq=>k (.bl (!(kJ am q).isSome))⟩):=by
 show got (j7 ts) _=got (j7 ts) _;congr 1;funext q;rw[Ra]
 rfl
end PL
namespace L2
open PySem PySem.Spec PyProof.Rows
theorem DA{X:Cx}{ad:List (Rt×Obj)}{σ:St}{H:Hp}{s:Ru}(hu:X.A.units<cLine)(I:Inv X ad σ H s){p q:Rt}{vs:List V}(s1:SqL X.K H p vs)(s2:SqL X.K H q []):W0 X.A s (.ref p) (.ref q) (decide (vs=[]))/\XN X.A s (.ref p) (.ref q) (!decide (vs=[])):=by
 obtain⟨us,r1,p1,_⟩:=I.list s1;obtain⟨ws,r2,p2,_⟩:=I.list s2;cases r2;cases r1 with
 |nil=>exact⟨WO (e:=λ_=>true) p1.isList p2.isList rfl hu λj h=>absurd h (Qc j),UM (e:=λ_=>true) p1.isList p2.isList rfl hu λj h=>absurd h (Qc j)⟩
 |cons r1 r2=>exact⟨.lists_lengths p1.isList p2.isList rfl hu,.lists_lengths p1.isList p2.isList rfl hu⟩
end L2
namespace PL
open PySem PySem.Spec PyProof.Rows L2
variable{X:Cx}{kr:Nat}
noncomputable def eq0:P2:=λt u k=>∃o ts o',t=.lst o ts/\u=.lst o' []/\k (.bl (decide (ts=[])))
noncomputable def ne0:P2:=λt u k=>∃o ts o',t=.lst o ts/\u=.lst o' []/\k (.bl (!decide (ts=[])))
variable {o o':Bool}
theorem E3{K:Rr}{H:Hp}{Γ:Fm}{ts:List T}{x y:V}(rp:Rp K H ((.lst o' [],some y)::(.lst o ts,some x)::Γ)):∃p q vs,x=.ref p/\y=.ref q/\SqL K H p vs/\SqL K H q []/\decide (ts=[])=decide (vs=[]):=by obtain⟨q,ws,rfl,hq,l,_⟩:=lj rp;obtain⟨p,vs,rfl,hp,m,_⟩:=lj rp.tail;have e:ws=[]:=M_ l.symm;subst e;refine⟨p,q,vs,rfl,rfl,.inl hp,.inl hq,decide_eq_decide.mpr ?_⟩;rw[<-Qa,<-Qa,m]
theorem A6(hr:Room kr X.A):OpP X (RT .Eq) eq0:=by rintro ad s σ H x y v u Q I rx ry ⟨tx,ty,Γ,k,rp,⟨o,ts,o',rfl,rfl,g⟩,c⟩;obtain⟨p,q,vs,rfl,rfl,s1,s2,e⟩:=E3 rp;cases rx;cases ry;rw[e]at g;exact(DA (wC hr (n:=0) (by decide)) I s1 s2).1 _ _ _ _ ⟨.bl _,H,I,rfl,c _ _ _ g (dH rp.tail.tail λ_=>.bl)⟩
theorem FV(hr:Room kr X.A):OpP X (RT .NotEq) ne0:=by rintro ad s σ H x y v u Q I rx ry ⟨tx,ty,Γ,k,rp,⟨o,ts,o',rfl,rfl,g⟩,c⟩;obtain⟨p,q,vs,rfl,rfl,s1,s2,e⟩:=E3 rp;cases rx;cases ry;rw[e]at g;exact(DA (wC hr (n:=0) (by decide)) I s1 s2).2 _ _ _ _ ⟨.bl _,H,I,rfl,c _ _ _ g (dH rp.tail.tail λ_=>.bl)⟩
theorem HJ{α:Type}{f:α->T}{l:List α}{k:T->Prop}:eq0 (.lst o (l.map f)) (.lst o' []) k=k (.bl (decide (l=[]))):=propext ⟨λ⟨_,_,_,e1,_,g⟩=>by cases e1;rw[decide_eq_decide.mpr Np]at g;exact g,λg=>⟨_,_,_,rfl,rfl,by rw[decide_eq_decide.mpr Np];exact g⟩⟩
theorem Ks{α:Type}{f:α->T}{l:List α}{k:T->Prop}:ne0 (.lst o (l.map f)) (.lst o' []) k=k (.bl (!decide (l=[]))):=propext ⟨λ⟨_,_,_,e1,_,g⟩=>by cases e1;rw[decide_eq_decide.mpr Np]at g;exact g,λg=>⟨_,_,_,rfl,rfl,by rw[decide_eq_decide.mpr Np];exact g⟩⟩
def neN:P2:=λt u k=>∃(o:Bool) (a:List Nk) (o':Bool) (b:List Nk),t=.lst o (a.map nkT)/\u=.lst o' (b.map nkT)/\k (.bl (!decide (a=b)))
theorem Hi(hr:Room kr X.A):OpP X (RT .NotEq) neN:=.of (JF hr) λtx ty x y H Γ k Q rp g c=>by obtain⟨o,a,o',b,rfl,rfl,g⟩:=g;obtain⟨q,ws,rfl,hq,e2,n2,_⟩:=zF rp;obtain⟨p,vs,rfl,hp,e1,n1,_⟩:=zF rp.tail;rw[<-P8 (l₁:=vs) (l₂:=a) (Ng e1),<-P8 (l₁:=ws) (l₂:=b) (Ng e2)]at g;exact⟨p,q,vs.zip a,ws.zip b,rfl,rfl,by rw[P7 (Ng e1.symm)];exact .inl hp,by rw[P7 (Ng e2.symm)];exact .inl hq,n1,n2,c _ _ _ g (dH rp.tail.tail λ_=>.bl)⟩
theorem L9{a b:List Nk}{k:T->Prop}(q:k (.bl (!decide (a=b)))):neN (.lst o (a.map nkT)) (.lst o' (b.map nkT)) k:=⟨o,a,o',b,rfl,rfl,q⟩
end PL
namespace Mp
open PySem L2
noncomputable def top(i:Nat):RW:=PySem.Challenge.pw_millpath_k22_papers_of_what_is_left.main.body.getD i (.Pass ⟨0,0,0,0⟩)
abbrev mQ:RW:=top 1
abbrev sT:RW:=top 2
abbrev kD:RW:=top 3
abbrev kE:RW:=top 6
abbrev pS:RW:=top 8
abbrev w9:RW:=top 9
abbrev vT:RW:=top 10
abbrev kH:RW:=top 11
abbrev pF:RW:=top 12
abbrev vg:RW:=top 13
abbrev pN:RW:=top 15
abbrev jR:RW:=top 17
abbrev vx:RW:=top 18
abbrev nT:RW:=top 20
abbrev jN:RW:=top 21
abbrev jQ:RW:=top 22
abbrev lM:RW:=top 23
abbrev nW:RW:=top 24
abbrev lG:RW:=top 25
abbrev qZ:RW:=top 27
abbrev vC:RW:=top 28
abbrev EO:RW:=top 30
abbrev rD:RW:=top 31
abbrev pV:RW:=top 32
abbrev zA:RW:=top 33
abbrev pE:RW:=top 34
abbrev sF:RW:=top 35
abbrev qr:RW:=top 36
abbrev yT:RW:=top 37
abbrev sN:RW:=top 38
abbrev sZ:RW:=top 39
abbrev t9:RW:=top 40
abbrev rh:RW:=top 41
abbrev uZ:RW:=top 42
abbrev qp:RW:=top 43
abbrev sS:RW:=top 44
abbrev vo:RW:=top 45
abbrev CK:RW:=top 46
abbrev vp:RW:=top 47
abbrev yC:RW:=top 48
abbrev m4:RW:=top 49
abbrev mM:RW:=top 50
variable {am:List (Key×V)}
theorem xW{k:Key}{v:V}:jL ((k,v)::am) k=some v:=by
 unfold jL;rw[MT,show(decide ((k,v).1=k))=true from decide_eq_true rfl]
 rfl
theorem uz{k k':Key}{v:V}(h:¬k=k'):jL ((k,v)::am) k'=jL am k':=by unfold jL;rw[MT,show(decide ((k,v).1=k'))=false from decide_eq_false h]
theorem key_ne:¬((RX (some ("cells":Str)):Key)=RX (some ("turn":Str))):=by decide +kernel
noncomputable def stK(c:Rt)(t:Int):List (Key×V):=[(RX (some ("cells":Str)),V.ref c),(RX (some ("turn":Str)),V.int t)]
theorem xh(c:Rt)(t:Int):jL (stK c t) (RX (some ("cells":Str)))=some (.ref c):=xW
theorem Ac(c:Rt)(t:Int):jL (stK c t) (RX (some ("turn":Str)))=some (.int t):=by unfold stK;rw[uz key_ne];exact xW
theorem Kh(c:Rt)(t u:Int):putK (stK c t) (RX (some ("turn":Str))) (.int u)=stK c u:=by
 have e:((stK c t).any λkv=>decide (kv.1=(RX (some ("turn":Str)):Key)))=true:=by rw[o6,Ac];rfl
 unfold putK;rw[if_pos e];show [(if(RX (some ("cells":Str)):Key)=RX (some ("turn":Str))then _ else _),(if(RX (some ("turn":Str)):Key)=RX (some ("turn":Str))then _ else _)]=stK c u;rw[if_neg key_ne,if_pos rfl]
 rfl
structure StAt (H:Hp) (st c:Rt) (cs:List Int) (t:Int):Prop where
 d:H st=some (.dK (stK c t))
 l:H c=some (.lst (cs.map V.int))
 pos:0<cs.length
 len:cs.length<=63
variable {H:Hp}{cs:List Int}{st:Rt}
theorem StAt.ne {c:Rt}{t:Int}(S:StAt H st c cs t):st≠c:=wx S.d S.l (by intro z;cases z)
variable {H':Hp}
theorem StAt.same {c:Rt}{t:Int}(S:StAt H st c cs t)(e:gB H H'):StAt H' st c cs t:=⟨e _ _ S.d,e _ _ S.l,S.pos,S.len⟩
structure Txt (mg:Str->Option Rq):Prop where
 len:mg "len"=none
 list:mg "list"=none
 divmod:mg "divmod"=none
 isinstance:mg "isinstance"=none
 dict:mg "dict"=none
 tuple:mg "tuple"=none
 str:mg "str"=none
 int:mg "int"=none
 bool:mg "bool"=none
 all:mg "all"=none
 any:mg "any"=none
 zip:mg "zip"=none
 range:mg "range"=none
 max:mg "max"=none
 min:mg "min"=none
 abs:mg "abs"=none
 sum:mg "sum"=none
 sorted:mg "sorted"=none
 enumerate:mg "enumerate"=none
 set:mg "set"=none
 reversed:mg "reversed"=none
def Fu(K:Rr):Sp:=λvs H Q _=>∃(a:Rt) (ns:List Int),vs=[.ref a]/\SqL K H a (ns.map V.int)/\ns.length<=63/\∀(st c:Rt) (cs:List Int) (H':Hp),H st=none->H c=none->StAt H' st c cs 0->gB H H'->Q (.ref st) H'
def J8:Sp:=λvs H Q _=>∃(st c:Rt) (cs:List Int) (t m:Int),vs=[.ref st,.int m]/\StAt H st c cs t/\0<=t/\t<2 ^ 40/\0<m/\m<1073741824/\
 ∀(r:Int) (cs':List Int) (H':Hp),0<=r->r<m->StAt H' st c cs' (t+1)->Kp st c H H'->Q (.int r) H'
variable {f:Rt}{fd:RP}
section
variable{P:RC}{w:RK}{K:Rr}{mg:Str->Option Rq}{base:RM}
theorem scB:FnScope ["_law_script","_law_cells"] ["_law_script"] (aA qZ):=⟨rfl,rfl,rfl,by decide +kernel,rfl,by decide +kernel,by decide +kernel⟩
theorem Cf(F:Fun K "_law_begin" "_law_begin" qZ f fd)(T:Txt mg):FnOk P w K mg base CX0 1 f fd ["_law_script"] (Fu K):=by
 refine F.ok scB (λvs H Q E h=>?_) (λcdv A outer s H vs Q E hr h=>?_)
 ·obtain⟨a,ns,rfl,_⟩:=h
  rfl
 obtain⟨a,ns,rfl,hS,h63,q⟩:=h;have sc:=@scB;refine⟨_,(gI (ml (i:=1) sc.nd rfl (bt rfl) (uN oU (by rfl) T.list (by decide +kernel) (kq (yk A0 (pv 0) Ai (zS iF)) nL)))
  (gI (CO (vP (Ew (Nat.lt_of_succ_lt (mD hr))) (pv 1) (DH nL) (aM _)) (ox (ml (i:=1) sc.nd rfl (bt rfl) (DH (kq iF nL)))) vV)
  (ox (vM (Ha (wM nY (pv 1) (wM nY iF Hn)) rfl rfl (by intro z;cases z) (by decide)))))),?_⟩
 refine⟨_,rfl,_,rfl,a,_,rfl,hS,λp hp=>⟨p,_,rfl,.inl (SqL.of ba),λl hl=>?_⟩⟩;obtain⟨zs,ez,lz⟩:∃zs:List Int,mi (ns.map V.int) none (some 63)=zs.map V.int/\zs.length<=63:=by refine⟨_,by unfold mi;rw[<-Py,<-Pz],?_⟩;exact p_ (List.length_take_le' _ _) (p_ (by rw[F'];omega) h63)
 have hp0:H p=none:=hp;have hl0:H l=none:=(fO hp _).none hl;have g1:gB H (upd (upd H p (.lst (mi (ns.map V.int) none (some 63)))) l (.lst (mi (ns.map V.int) none (some 63)))):=(fO hp _).trans' (fO hl _);refine⟨_,rfl,(by show 0<=sizeLine;decide),λe he=>?_⟩;have hul:∀o,upd (upd (upd H p (.lst (mi (ns.map V.int) none (some 63)))) l (.lst (mi (ns.map V.int) none (some 63)))) e o l=some (.lst (zs.map V.int)):=λo=>by rw[aS (gy ba he),ba,ez]
 have he0:H e=none:=g1.none he;have g2:=g1.trans' (fO he (.lst []));refine⟨decide (zs=[]),.inr (.inr (.inr ⟨false,_,_,zs,[],rfl,rfl,rfl,SqL.of (hul _),SqL.of ba⟩)),_,rfl,?_⟩;have fin:∀(c:Rt) (cs:List Int) (H2:Hp),H c=none->gB H H2->H2 c=some (.lst (cs.map V.int))->0<cs.length->cs.length<=63->∀p,H2 p=none->StAt (upd (upd H2 p (.dK [])) p (.dK (lV [] [(RX (some ("cells":Str)),V.ref c),(RX (some ("turn":Str)),V.int 0)]))) p c cs 0/\gB H (upd (upd H2 p (.dK [])) p (.dK (lV [] [(RX (some ("cells":Str)),V.ref c),(RX (some ("turn":Str)),V.int 0)]))):=λc cs H2 hc g h1 h2 h3 p hp=>by
  have em:lV [] [((RX (some ("cells":Str)):Key),V.ref c),(RX (some ("turn":Str)),V.int 0)]=stK c 0:=by
   show putK (putK ([]:List (Key×V)) (RX (some ("cells":Str))) (V.ref c)) (RX (some ("turn":Str))) (V.int 0)=stK c 0;rw[ow _ (show jL ([]:List (Key×V)) (RX (some ("cells":Str)))=none from rfl),O6,ow _ (show jL [((RX (some ("cells":Str)):Key),V.ref c)] (RX (some ("turn":Str)))=none by rw[uz key_ne];rfl)]
   rfl
  rw[em,Fc];exact⟨⟨ba,by rw[aS (gy h1 hp)];exact h1,h2,h3⟩,g.trans' (fO hp _)⟩
 refine Le (λc=>?_) (λc=>?_)
 ·
  refine⟨(by show 1<=sizeLine;decide),λc7 h7=>?_⟩;have g3:=g2.trans' (fO h7 (.lst [V.int 7]));intro p' hp';obtain⟨S,g4⟩:=fin c7 [7] _ (g2.none h7) g3 ba (by decide) (by decide) p' hp';refine⟨_,rfl,?_,[(RX (some ("cells":Str)),V.ref c7),(RX (some ("turn":Str)),V.int 0)],rfl,(by show 2<=15;decide),?_⟩
  ·exact ba
  exact q p' c7 [7] _ (g3.none hp') (g2.none h7) S g4
 have c0:0<zs.length:=by
  cases zs with
  |nil=>exact absurd c (by decide)
  |cons a r=>exact N0 _
 intro p' hp';obtain⟨S,g4⟩:=fin l zs _ hl0 g2 (hul _) c0 lz p' hp';refine⟨_,rfl,?_,[(RX (some ("cells":Str)),V.ref l),(RX (some ("turn":Str)),V.int 0)],rfl,(by show 2<=15;decide),?_⟩
 ·exact ba
 exact q p' l zs _ (g2.none hp') hl0 S g4
theorem scT:FnScope ["_law_state","_law_many","_law_turn","_law_place","_law_cell","_law_digit","_law_mixed"] ["_law_state","_law_many"] (aA vC):=⟨rfl,rfl,rfl,by decide +kernel,rfl,by decide +kernel,by decide +kernel⟩
theorem Gu(F:Fun K "_law_take" "_law_take" vC f fd)(T:Txt mg):FnOk P w K mg base CX0 1 f fd ["_law_state","_law_many"] J8:=by
 refine F.ok scT (λvs H Q E h=>?_) (λcdv A outer s H vs Q E hr h=>?_)
 ·obtain⟨st,c,cs,t,m,rfl,_⟩:=h
  rfl
 obtain⟨st,c,cs,t,m,rfl,S,ht0,ht,hm0,hm1,q⟩:=h;have sc:=@scT;have hu:=mD hr;refine⟨_,(gI (ml (i:=2) sc.nd rfl (bt rfl) (jd rT (qO hu (pv 0) nY (λ_ _=>rfl)) iF))
  (gI (Fs hu (pv 0) nY (pv 2) rfl)
  (gI (ml (i:=3) sc.nd rfl (bt rfl) (jd nM (pv 2) (sV pA (by rfl) T.len (by decide +kernel) (kq (qO hu (pv 0) nY (λ_ _=>rfl)) nL))))
  (gI (ml (i:=4) sc.nd rfl (bt rfl) (HB Am (qO hu (pv 0) nY (λ_ _=>rfl)) (pv 3) (λ_ _=>rfl)))
  (gI (CO (vP Lv (pv 4) (jd Jl iF iF) (aM _)) (gI (C5 (sV xA (by rfl) T.divmod (by decide +kernel) (kq (pv 4) (kq (pv 1) nL))) (Ek rfl (sh (ES (qO hu (pv 0) nY (λ_ _=>rfl)) (pv 3) set_list) (sh (Ad (i:=5) sc.nd rfl (bt rfl)) Ag))))
  (ox (vM (pv 5)))) vV)
  (gI (ml (i:=6) sc.nd rfl (bt rfl) (jd nM (jd nX (jd rT (jd rT (jd nM (pv 4) iF) (jd nX (jd nX (pv 2) (pv 2)) iF)) iF) iF) iF))
  (gI (ml (i:=6) sc.nd rfl (bt rfl) (jd nM (jd nX (pv 6) (pv 6)) iF))
  (ox (vM (jd nM (jd AG (jd nM (jd nX (jd rT (pv 6) (jd nX (pv 2) iF)) iF) iF) iF) (pv 1))))))))))),?_⟩
 have D0:pB H st (.str ("turn":Str)) (some (.int t)):=by rw[<-Ac c t];exact pB.k (k:=RX (some ("turn":Str))) S.d
 refine⟨_,rfl,st,_,rfl,D0,_,_,rfl,rfl,?_⟩;have hP:BM H st (.str ("turn":Str)) (.int (t+1)) (upd H st (.dK (stK c (t+1)))):=by rw[<-Kh c t (t+1)];exact BM.k (k:=RX (some ("turn":Str))) S.d (by show 2<sizeLine;decide)
 refine⟨_,rfl,_,rfl,st,_,rfl,hP,?_⟩;have S1:StAt (upd H st (.dK (stK c (t+1)))) st c cs (t+1):=⟨ba,by rw[aS S.ne.symm];exact S.l,S.pos,S.len⟩;have K1:Kp st c H (upd H st (.dK (stK c (t+1)))):=λb o e n1 n2=>by rw[aS n1];exact e
 generalize upd H st (.dK (stK c (t+1)))=H1 at S1 K1 ⊢;have D1:pB H1 st (.str ("cells":Str)) (some (.ref c)):=by rw[<-xh c (t+1)];exact pB.k (k:=RX (some ("cells":Str))) S1.d
 have hl:(cs.map V.int).length=cs.length:=a_ _;have hpos:(0:Int)<(((cs.map V.int).length:Nat):Int):=by rw[hl];have:=S.pos;omega
 refine⟨_,rfl,_,rfl,st,_,rfl,D1,c,_,rfl,.inl (SqL.of S1.l),_,_,rfl,rfl,hpos,?_⟩;have j0:0<=(t+1)%(((cs.map V.int).length:Nat):Int):=O7 _ (by omega);have j1:(t+1)%(((cs.map V.int).length:Nat):Int)<(cs.length:Int):=by have:=OL (t+1) hpos;rw[hl]at this ⊢;exact this
 obtain⟨v,hat⟩:∃v:Int,atI (cs.map V.int) ((t+1)%(((cs.map V.int).length:Nat):Int))=some (.int v):=⟨_,DV j0 j1⟩;refine⟨_,rfl,st,_,rfl,D1,_,rfl,c,_,_,_,rfl,rfl,SqL.of S1.l,hat,?_⟩;refine⟨_,rfl,_,_,rfl,rfl,⟨by decide,by decide,by decide⟩,_,_,rfl,rfl,_,rfl,?_⟩;refine Le (λhc=>?_) (λhc=>?_)
 ·
  refine⟨_,rfl,_,rfl,_,_,rfl,⟨hm0,hm1⟩,λp hp=>?_⟩;have g:=fO hp (.tup [.int (v/m),.int (v%m)]);have S2:=S1.same g;have D2:pB (upd H1 p (.tup [.int (v/m),.int (v%m)])) st (.str ("cells":Str)) (some (.ref c)):=by rw[<-xh c (t+1)];exact pB.k (k:=RX (some ("cells":Str))) S2.d
  refine⟨p,_,rfl,SqT.of ba,rfl,_,_,rfl,?_⟩;refine⟨_,rfl,st,_,rfl,D2,_,rfl,c,_,_,((t+1)%(((cs.map V.int).length:Nat):Int)).toNat,rfl,rfl,S2.l,A3 j0 (by rw[hl];rw[hl]at j1;exact j1),?_⟩;refine⟨_,_,rfl,rfl,?_⟩;refine⟨_,rfl,?_⟩;have es:∀j:Nat,(cs.map V.int).set j (.int (v/m))=(cs.set j (v/m)).map V.int:=λj=>by rw[List.map_set]
  refine q (v%m) (cs.set ((t+1)%(((cs.map V.int).length:Nat):Int)).toNat (v/m)) _ (O7 _ (by omega)) (OL _ hm0) ⟨?_,?_,?_,?_⟩ ?_
  ·rw[aS S2.ne];exact S2.d
  ·rw[ba,es]
  ·rw[K_];exact S.pos
  ·rw[K_];exact S.len
  intro b o e n1 n2;rw[aS n2];exact g b o (K1 b o e n1 n2)
 
 have mulR:∀(x y:Int),-(2 ^ 64)<y->y<2 ^ 64->yO x y:=λx y h1 h2=>.inr ⟨h1,h2⟩;refine⟨_,rfl,_,_,rfl,rfl,(by show(0:Int)<2147483629;decide),_,rfl,_,rfl,_,_,rfl,rfl,mulR _ _ (by omega) (by omega),_,_,rfl,rfl,mulR _ _ (by decide) (by decide),_,_,rfl,rfl,_,_,rfl,rfl,_,_,rfl,rfl,mulR _ _ (by decide) (by decide),_,_,rfl,rfl,(by show(0:Int)<2147483647;decide),?_⟩;generalize hM:(v%2147483629+(t+1)*(t+1)*7919+11)*48271%2147483647=M;have m0:0<=M:=by rw[<-hM];exact O7 _ (by decide)
 have m1:M<2147483647:=by rw[<-hM];exact OL _ (by decide)
 refine⟨_,rfl,_,rfl,_,_,rfl,rfl,mulR _ _ (by omega) (by omega),_,_,rfl,rfl,(by show(0:Int)<2147483587;decide),?_⟩;refine⟨_,rfl,_,rfl,_,_,rfl,rfl,mulR _ _ (by decide) (by decide),_,_,rfl,rfl,_,_,rfl,rfl,mulR _ _ (by decide) (by decide),_,_,rfl,rfl,(by show(0:Int)<2147483629;decide),_,_,rfl,rfl,⟨by decide,by decide⟩,_,rfl,_,_,rfl,rfl,hm0,?_⟩;exact q _ cs H1 (O7 _ (by omega)) (OL _ hm0) S1 K1
end
open PySem L2 PL
structure Cells where
 cs:List Int
 pos:0<cs.length
 len:cs.length<=63
noncomputable def stT(c:Cells)(n:Nat):T:=.dK true [(RX (some ("cells":Str)),.lst true (c.cs.map T.int)),(RX (some ("turn":Str)),.int (n:Int))]
variable {n:Nat}
theorem gv{c:Cells}:isAny (stT c n)=false:=rfl
def Scr(K:Rr)(t:T)(ns:List Int):Prop:=t=.lst false (ns.map T.int)\/∃a,t=.hole (.ref a)/\∀H,SqL K H a (ns.map V.int)
def vX(K:Rr):FP:=λts k=>∃t,∃ns:List Int,ts=[t]/\Scr K t ns/\ns.length<=63/\∀c,k (stT c 0) ts
def kl:FP:=λts k=>∃c n m,ts=[stT c n,.int m]/\n<2 ^ 40/\0<m/\m<1073741824/\∀r c',0<=r->r<m->k (.int r) [stT c' (n+1),.int m]
variable {Γ:Fm}{α β:Type}
section
variable{P:RC}{w:RK}{K:Rr}{mg:Str->Option Rq}{base:RM}
theorem wo{l:List (α×β)}{a b:α}(h:[a,b]=l.map (·.1)):∃v w,l=[(a,v),(b,w)]:=by
 cases l with
 |nil=>cases h
 |cons x l=>
  cases l with
  |nil=>cases h
  |cons y l=>
   cases l with
   |nil=>
    have h1:=(Nb h).1;have h2:=(Nb (Nb h).2).1;exact⟨x.2,y.2,by rw[h1,h2]⟩
   |cons z l=>cases (Nb (Nb h).2).2
theorem x8{a:Rt}{o:HO}(h:H a=some o):Put H a o H:=⟨h,λ_ _=>rfl⟩
theorem LC{c:Cells}{v:V}(h:Rp K H ((stT c n,some v)::Γ)):∃st l,v=.ref st/\StAt H st l c.cs n/\Rp K H ((.bare,some (.ref st))::(.bare,some (.ref l))::Γ):=by
 obtain⟨st,am,ev,hs,ek,h2⟩:=t6 h;cases ev;obtain⟨v1,v2,rfl⟩:=wo ek;have h2:Rp K H ((.bare,some (.ref st))::(.lst true (c.cs.map T.int),some v1)::(.int (n:Int),some v2)::Γ):=h2;have e2:v2=.int n:=b6 h2.tail.tail;subst e2;have h3:=h2.perm (.swap _ _ _);obtain⟨l,vs,el,hl,ll,h4⟩:=kB h3;cases el;have ev:vs=c.cs.map V.int:=jY ll h4.tail;subst ev;refine⟨st,l,rfl,⟨hs,hl,c.pos,c.len⟩,?_⟩;have h5:Rp K H ((.bare,some (.ref l))::(.bare,some (.ref st))::(.int (n:Int),some (.int n))::Γ):=by have:Rp K H (zz (c.cs.map T.int) (c.cs.map V.int)++((.bare,some (.ref l))::(.bare,some (.ref st))::(.int (n:Int),some (.int n))::Γ)):=h4.perm f_.symm;exact this.part
 exact(h5.perm (by refine t_ (.cons _ (.swap _ _ _)) ?_;refine t_ (.swap _ _ _) ?_;exact .cons _ (.swap _ _ _))).tail
theorem yl{H:Hp}{Γ:Fm}:∀(ns:List Int),Rp K H Γ->Rp K H (zz (ns.map T.int) (ns.map V.int)++Γ)
 | [],h=>h
 |n::r,h=>dH (yl r h) λ_=>.int
theorem Eo{l:Rt}(S:StAt H st l cs n)(h:Rp K H ((.bare,some (.ref st))::(.bare,some (.ref l))::Γ)):∃c,Rp K H ((stT c n,some (.ref st))::Γ):=by
 refine⟨⟨cs,S.pos,S.len⟩,?_⟩;have h1:Rp K H ((.bare,some (.ref l))::(zz (cs.map T.int) (cs.map V.int)++((.bare,some (.ref st))::Γ))):=(yl cs (h.perm (.swap _ _ _))).perm f_;have h2:=kj h1 (by rw[a_,a_]) (x8 S.l);have h3:Rp K H ((.bare,some (.ref st))::((.lst true (cs.map T.int),some (.ref l))::(.int (n:Int),some (.int n))::Γ)):=by refine(dH (t:=.int (n:Int)) h2 λ_=>.int).perm ?_;refine t_ (.swap _ _ _) ?_;refine t_ (.cons _ (.swap _ _ _)) ?_;exact .swap _ _ _
 exact tZ (ts:=[(RX (some ("cells":Str)),.lst true (cs.map T.int)),(RX (some ("turn":Str)),.int (n:Int))]) (vs:=stK l n) h3 rfl (x8 S.d)
theorem KI{a c:Rt}(h:Rp K H ((.bare,some (.ref a))::(.bare,some (.ref c))::Γ))(k:Kp a c H H')(ha:∃u,H' a=some u/\∀xs,u≠.tup xs)(hc:∃u,H' c=some u/\∀xs,u≠.tup xs):Rp K H' ((.bare,some (.ref a))::(.bare,some (.ref c))::Γ):=by
 obtain⟨ua,ea,na⟩:=ha;obtain⟨uc,ec,nc⟩:=hc;obtain⟨Hz,N,h,nd,g,d⟩:=h;cases h with
 |cons e1 h1 c1=>
  cases c1 with
  |cons e2 h2 c2=>
   rcases h1 with⟨z,_⟩|⟨v1,ev1,h1⟩
   ·cases z
   rcases h2 with⟨z,_⟩|⟨v2,ev2,h2⟩
   ·cases z
   cases ev1;cases ev2;cases h1;cases h2;rename_i M u1 hu1 nt1 u2 hu2 nt2;subst e2;subst e1;have nd':(a::c::M).Nodup:=nd;rw[J_,J_]at nd';have keep:∀b o,H b=some o->b≠a->b≠c->H' b=some o:=k;have tk:TK H H':=λb xs r=>keep b _ r (λz=>nt1 xs (z▸r)) (λz=>nt2 xs (z▸r));have za:Hz a=none:=d a x_;have zc:Hz c=none:=d c (q_ _ x_);have g':Gr Hz H':=λb u r=>by
    obtain⟨w',q⟩:=Rd.some r;have b1:b≠a:=λz=>by rw[z,za]at q;cases q
    have b2:b≠c:=λz=>by rw[z,zc]at q;cases q
    rcases g b u r with r|⟨o,r⟩
    ·exact .inl (keep b _ r b1 b2)
    exact .inr ⟨o,keep b _ r b1 b2⟩
   refine⟨Hz,[a]++([c]++M),.cons rfl (.inr ⟨_,rfl,.bare ea λxs z=>?_⟩) (.cons rfl (.inr ⟨_,rfl,.bare ec λxs z=>?_⟩) (c2.move tk .iW λb m u e=>?_)),nd,g',d⟩
   ·rw[ea]at z;exact na xs (F_ z)
   ·rw[ec]at z;exact nc xs (F_ z)
   have b1:b≠a:=λz=>nd'.1 (by rw[<-z];exact q_ _ m)
   have b2:b≠c:=λz=>nd'.2.1 (by rw[<-z];exact m)
   exact⟨keep b u e b1 b2,λnt xs r=>nt xs (by rw[keep b u e b1 b2]at r;exact e.trans r)⟩
theorem G3{a c:Rt}(h:Rp K H Γ)(ha:H a=none)(hc:H c=none)(ne:a≠c)(s:gB H H')(ea:∃u,H' a=some u/\∀xs,u≠.tup xs)(ec:∃u,H' c=some u/\∀xs,u≠.tup xs):Rp K H' ((.bare,some (.ref a))::(.bare,some (.ref c))::Γ):=by
 obtain⟨ua,ea,na⟩:=ea;obtain⟨uc,ec,nc⟩:=ec;obtain⟨Hz,N,h,nd,g,d⟩:=h;have n1:a ∉ N:=λm=>by obtain⟨⟨u,e⟩,_⟩:=h.there a m;rw[ha]at e;cases e
 have n2:c ∉ N:=λm=>by obtain⟨⟨u,e⟩,_⟩:=h.there c m;rw[hc]at e;cases e
 refine⟨Hz,[a]++([c]++N),.cons rfl (.inr ⟨_,rfl,.bare ea λxs z=>?_⟩) (.cons rfl (.inr ⟨_,rfl,.bare ec λxs z=>?_⟩) (h.move (gB.tk s) .iW λb m u e=>ny s b u e)),?_,g.trans (.of s),?_⟩
 ·rw[ea]at z;exact na xs (F_ z)
 ·rw[ec]at z;exact nc xs (F_ z)
 ·show(a::c::N).Nodup;rw[J_,J_];exact⟨λm=>(n_.mp m).elim (λz=>ne z) n1,n2,nd⟩
 intro b m;have m:b∈a::c::N:=m;rcases n_.mp m with rfl|m
 ·exact g.none ha
 rcases n_.mp m with rfl|m
 ·exact g.none hc
 exact d b m
theorem Ct(D:Dfn K mg "_law_take" vC ["_law_state","_law_many"])(TX:Txt mg):Cal P w K mg base 1 "_law_take" ["_law_state","_law_many"] (aI K 2 kl):=by
 refine(D.cal λ_ _ F=>Gu F TX).imp ?_;rintro vs H Q E ⟨ts,Fr,k,l,hn,rp,⟨c,n,m,rfl,h1,h2,h3,pk⟩,q⟩;obtain⟨x,y,rfl⟩:=zz2 l rfl;have rp:Rp K H ((stT c n,some x)::(.int m,some y)::Fr):=rp;have ey:=b6 rp.tail;subst ey;obtain⟨st,lc,rfl,S,dL⟩:=LC rp;refine⟨st,lc,c.cs,n,m,rfl,S,by omega,by omega,h2,h3,λr cs' H' hr0 hr1 S' kp=>?_⟩;have f8:=KI dL kp ⟨_,S'.d,λ_ z=>by cases z⟩ ⟨_,S'.l,λ_ z=>by cases z⟩;have S'':StAt H' st lc cs' ((n+1:Nat):Int):=by push_cast;exact S'
 obtain⟨c',rp4⟩:=Eo S'' f8;exact q _ _ _ _ (pk r c' hr0 hr1) (dH rp4 λ_=>.int)
theorem zp{w y:V}(h:Rp K H ((.hole w,some y)::Γ)):y=w:=by
 obtain⟨_,_,r,_⟩:=kK h rfl;cases r
 rfl
theorem C2(D:Dfn K mg "_law_begin" qZ ["_law_script"])(TX:Txt mg):Cal P w K mg base 1 "_law_begin" ["_law_script"] (aI K 1 (vX K)):=by
 refine(D.cal λ_ _ F=>Cf F TX).imp ?_;rintro vs H Q E ⟨ts,Fr,k,l,hn,rp,⟨t,ns,rfl,hs,h1,pk⟩,q⟩;obtain⟨x,rfl⟩:=zz1 l rfl;have rp:Rp K H ((t,some x)::Fr):=rp;obtain⟨a,rfl,hq⟩:∃a,x=.ref a/\SqL K H a (ns.map V.int):=by
  rcases hs with rfl|⟨a,rfl,hs⟩
  ·obtain⟨a,us,rfl,hq,l2,dL⟩:=aG rfl rp;have eu:=jY l2 dL;subst eu;exact⟨a,rfl,hq⟩
  exact⟨a,zp rp,hs H⟩
 refine⟨a,ns,rfl,hq,h1,λst lc cs H' hs hl S g=>?_⟩;have f8:=G3 rp hs hl S.ne g ⟨_,S.d,λ_ z=>by cases z⟩ ⟨_,S.l,λ_ z=>by cases z⟩;obtain⟨c,rp4⟩:=Eo (n:=0) S f8;exact q _ _ _ _ (pk c) rp4
def Cj(K:Rr):FP:=λts k=>∃t,∃ns:List Int,ts=[t]/\Scr K t ns/\ns.length<=63/\∀z,k (.bl true) [z]
def AB(K:Rr):Sp:=λvs H Q _=>∃(a:Rt) (ns:List Int),vs=[.ref a]/\SqL K H a (ns.map V.int)/\ns.length<=63/\∀H',Q (.bl true) H'
theorem xS{Hz H:Hp}:∀(ns:List Int),RepTs K Hz H (ns.map T.int) (ns.map V.int) []
 | []=>.nil
 | _::r=>.cons rfl .int (xS r)
theorem IF{k:Nat}(F:FnOk P w K mg base CX0 k f fd ["_law_script"] (aI K 1 (Cj K))):FnOk P w K mg base CX0 k f fd ["_law_script"] (AB K):=by
 refine F.imp ?_;rintro vs H Q E ⟨a,ns,rfl,hq,h1,q⟩;have key:∀t,Scr K t ns->(∀Hz,RepT K H Hz t (.ref a) [])->aI K 1 (Cj K) [.ref a] H Q E:=λt sc ht=>
  ⟨[t],[],λt _=>t=.bl true,rfl,rfl,⟨H,[],.cons rfl (.inr ⟨_,rfl,ht H⟩) .nil,Qn,.iW,λ_ m=>by cases m⟩,⟨t,ns,rfl,sc,h1,λ_=>rfl⟩,λt ts' v H' e rp=>by subst e;rw[jU rp];exact q H'⟩
 rcases hq with hq|hq
 ·exact key _ (.inl rfl) λHz=>.lstZ hq (xS ns)
 exact key _ (.inr ⟨a,rfl,λH=>.inr hq⟩) λHz=>.hole
end
open PySem L2 PL
abbrev As:T:=.cst [.cst [.int 3,.int 2],.cst [.int 2,.int 3],.cst [.int 1,.int 2],.cst [.int 2,.int 1]]
abbrev Pt:=Int×Int
noncomputable def ptP(p:Pt):T:=pt p.1 p.2
variable {p:Pt}
theorem hJ:er (ptP p)=ptP p:=rfl
theorem dg:dO (ptP p)=true:=rfl
theorem bS:aT (ptP p)=true:=rfl
theorem cv:isAny (ptP p)=false:=rfl
theorem fA{k:T->Prop}:ixT (ptP p) (.int 0) k=k (.int p.1):=rfl
theorem fu{k:T->Prop}:ixT (ptP p) (.int 1) k=k (.int p.2):=rfl
variable {env:Ev}
theorem eD{gs:pW}{k:Ev->Prop}:gTp n gs (ptP p) env k=gTp n gs (.tup [.int p.1,.int p.2]) env k:=rfl
variable {i:Nat}
theorem map_take{g:α->β}{l:List α}{x:α}(h:l[i]?=some x):MZ g (l.take (i+1))=MZ g (l.take i)++[g x]:=by rw[Nm,h,l_];rfl
theorem sizeLine_eq:sizeLine=16777216:=rfl
abbrev Qt:=Int×Int×Nat
noncomputable def qtT(q:Qt):T:=.tup [.int q.1,.int q.2.1,.int (q.2.2:Int)]
variable {q:Qt}
theorem iJ:er (qtT q)=qtT q:=rfl
theorem dk:dO (qtT q)=true:=rfl
theorem cp:aT (qtT q)=true:=rfl
theorem cF:isAny (qtT q)=false:=rfl
theorem eE{k:T->Prop}:ixT (qtT q) (.int 2) k=k (.int (q.2.2:Int)):=rfl
theorem f6{k:T->Prop}:ixT (qtT q) (.int 0) k=k (.int q.1):=rfl
theorem fD{k:T->Prop}:ixT (qtT q) (.int 1) k=k (.int q.2.1):=rfl
theorem eh{gs:pW}{k:Ev->Prop}:gTp n gs (qtT q) env k=gTp n gs (.tup [.int q.1,.int q.2.1,.int (q.2.2:Int)]) env k:=rfl
theorem bU:uD (qtT q)=false:=rfl
theorem f9:isV (qtT q)=true:=rfl
noncomputable def Mb:List Pt:=[(3,2),(2,3),(1,2),(2,1)]
noncomputable def inn(s:Nat):Pt:=Mb.getD s (0,0)
variable {s:Nat}
theorem Jj(h:s<4):atI [T.cst [.int 3,.int 2],.cst [.int 2,.int 3],.cst [.int 1,.int 2],.cst [.int 2,.int 1]] (s:Int)=some (.cst [.int (inn s).1,.int (inn s).2]):=by
 match s,h with
 |0,_=>rfl
 |1,_=>rfl
 |2,_=>rfl
 |3,_=>rfl
def vj(q:Qt):Pt:=(4*q.1+(inn q.2.2).1,4*q.2.1+(inn q.2.2).2)
theorem c4(x:Int):yO 4 x:=.inl ⟨by decide,by decide⟩
variable {t:T}
theorem cL:lS (er t)=lS t:=by cases t <;> rfl
theorem gC{c:Ty}(h:lS t=some c):isAny (er t)=false:=by cases t <;> first|rfl|cases h
theorem fF{x:T}{n:String}{k:T->Prop}:AI [x,.ty n] k=gH (lS x) (k:=⟨λt=>gH (zl n) (k:=⟨λc=>k (.bl (isA t c))⟩)⟩):=rfl
variable {ts:List T}
theorem gm{x:T}{k:T->Prop}:AI [x,.tup ts] k=gH (lS x) (k:=⟨λt=>gH (uJ ts) (k:=⟨λcs=>k (.bl (cs.any (isA t)))⟩)⟩):=rfl
theorem dE:zl "int"=some .int:=rfl
theorem bP:zl "bool"=some .bl:=rfl
theorem dq:uJ [.ty "list",.ty "tuple"]=some [.lst,.tup]:=rfl
def EW(c:Ty):Bool:=[Ty.lst,Ty.tup].any (isA c)
def Kd(t:T):Prop:=(∃c,lS t=some c)/\∀us,items t=some us->∀u∈us,∃c,lS u=some c
def isI(t:T):Bool:=decide (lS t=some .int)
def nums(t:T)(n:Nat):Bool:=match items t with
 |some us=>decide (us.length=n)&&us.all isI
 |none=>false
mutual
theorem C7:∀t:T,er (er t)=er t
 | .tup ts=>by rw[er,er,gx ts]
 | .cst ts=>by rw[er,er,gx ts]
 | .lst _ ts=>by rw[er,er,gx ts]
 | .dK _ ts=>by rw[er,er,EV ts]
 | .dT _ ts=>by rw[er,er,E4 ts]
 | .bare=>rfl
 | .any=>rfl
 | .hole _=>rfl
 | .kp _=>rfl
 | .non=>rfl
 | .bl _=>rfl
 | .int _=>rfl
 | .str _=>rfl
 | .ty _=>rfl
theorem gx:∀t:List T,erL (erL t)=erL t
 | []=>rfl
 |t::r=>by rw[erL,erL,C7 t,gx r]
theorem EV:∀t:List (Key×T),erK (erK t)=erK t
 | []=>rfl
 | (_,t)::r=>by rw[erK,erK,C7 t,EV r]
theorem E4:∀t:List (List Key×T),erT (erT t)=erT t
 | []=>rfl
 | (_,t)::r=>by rw[erT,erT,C7 t,E4 r]
end
theorem yy:isI (er t)=isI t:=by unfold isI;rw[cL]
theorem jy(f:α->β)(l:List α):l.flatMap (λx=>[f x])=l.map f:=by
 induction l with
 |nil=>rfl
 |cons x l ih=>rw[List.flatMap_cons,ih];rfl
theorem tR{c:Ty}(h:lS t=some c):(items t).isSome=EW c:=by cases t <;> first|cases h;rfl|cases h
theorem ji:items (er t)=(items t).map erL:=by cases t <;> rfl
theorem aU(f:α->Bool)(l:List α):boolsOf (l.map λx=>T.bl (f x))=some (l.map f):=by
 induction l with
 |nil=>rfl
 |cons x l ih=>rw[e_,boolsOf,ih];rfl
variable {us:List T}
theorem zV{k:T->Prop}(h:items t=some us)(q:k (.int us.length)):Fi [t] k:=by cases t <;> first|cases h;exact q|cases h
structure Oc where
 a:Int
 b:Int
 c:Int
 d:Int
 e:Int
 f:Int
 g:Int
 h:Int
noncomputable def ocT(o:Oc):T:=.tup [.int o.a,.int o.b,.int o.c,.int o.d,.int o.e,.int o.f,.int o.g,.int o.h]
theorem iS{o:Oc}:er (ocT o)=ocT o:=rfl
theorem dm{o:Oc}:dO (ocT o)=true:=rfl
theorem cJ{o:Oc}:aT (ocT o)=true:=rfl
theorem bV{o:Oc}:isAny (ocT o)=false:=rfl
noncomputable def BN(o q:Oc):Oc:=⟨o.a+q.a,o.b+q.b,o.c+q.c,o.d+q.d,o.e+q.e,o.f+q.f,o.g+q.g,o.h+q.h⟩
noncomputable def oc1(p:Pt):Oc:=⟨p.1,p.1,p.2,p.2,p.1+p.2,p.1+p.2,p.1-p.2,p.1-p.2⟩
noncomputable def ocL(o:Oc):List Int:=[o.a,o.b,o.c,o.d,o.e,o.f,o.g,o.h]
theorem iy{o:Oc}{i:Int}{k:T->Prop}:ixT (ocT o) (.int i) k=ixT (.tup [.int o.a,.int o.b,.int o.c,.int o.d,.int o.e,.int o.f,.int o.g,.int o.h]) (.int i) k:=rfl
noncomputable def gO(j:Nat)(p:Pt):Int:=[p.1,p.2,p.1+p.2,p.1-p.2].getD j 0
def Hv(ps:List Pt)(o:Oc):Prop:=((jS (ps.map (gO 0)) o.a/\jT (ps.map (gO 0)) o.b)/\(jS (ps.map (gO 1)) o.c/\jT (ps.map (gO 1)) o.d))/\(jS (ps.map (gO 2)) o.e/\jT (ps.map (gO 2)) o.f)/\jS (ps.map (gO 3)) o.g/\jT (ps.map (gO 3)) o.h
variable {m:Int}
theorem DC{f:Nat->Int×Int}{M:Int}:(w_ (i+1)).flatMap (λj=>[T.int (if j=i then(m,M)else f j).1,T.int (if j=i then(m,M)else f j).2])=(w_ i).flatMap (λj=>[T.int (f j).1,T.int (f j).2])++[T.int m]++[T.int M]:=by
 rw[NA,OC,gV];have ec:(w_ i).flatMap (λj=>[T.int (if j=i then(m,M)else f j).1,T.int (if j=i then(m,M)else f j).2])=(w_ i).flatMap λj=>[T.int (f j).1,T.int (f j).2]:=by rw[QR,QR];refine congrArg List.flatten (nw λj hj=>?_);have:=NS.mp hj;rw[if_neg (by lia)]
 rw[ec];congr 1;show [T.int (if i=i then(m,M)else f i).1,T.int (if i=i then(m,M)else f i).2]++[]=_;rw[if_pos rfl]
 rfl
theorem du{ps:List α}{g:α->Int}:intsOf (ps.map λp=>T.int (g p))=some (ps.map g):=by
 induction ps with
 |nil=>rfl
 |cons p ps ih=>rw[e_,intsOf,ih];rfl
theorem LP{o:Oc}(h:Hv [p] o):o=oc1 p:=by
 obtain⟨⟨⟨h1,h2⟩,h3,h4⟩,⟨h5,h6⟩,h7,h8⟩:=h;have k:∀{x y:Int},jS [x] y->y=x:=λh=>C_.mp h.1;have k':∀{x y:Int},jT [x] y->y=x:=λh=>C_.mp h.1;obtain⟨a,b,c,d,e,f,g,h⟩:=o;have e1:=k h1;have e2:=k' h2;have e3:=k h3;have e4:=k' h4;have e5:=k h5;have e6:=k' h6;have e7:=k h7;have e8:=k' h8;dsimp only at e1 e2 e3 e4 e5 e6 e7 e8;rw[e1,e2,e3,e4,e5,e6,e7,e8]
 rfl
def mkO(r k:Int)(p:Pt):Oc:=BN ⟨-r,r,-r,r,-(r+k),r+k,-(r+k),r+k⟩ (oc1 p)
noncomputable def yh(o:Oc):Bool:=decide (o.a=o.b) || (decide (o.c=o.d) || (decide (o.e=o.f) || decide (o.g=o.h)))
noncomputable def inP(o:Oc)(x y:Int):Prop:=(4*o.a<x/\x<4*o.b)/\(4*o.c<y/\y<4*o.d)/\(4*o.e<x+y/\x+y<4*o.f)/\4*o.g<x-y/\x-y<4*o.h
instance (o:Oc) (x y:Int):Decidable (inP o x y):=by unfold inP;infer_instance
def inO(o:Oc)(q:Qt):Bool:=decide (inP o (vj q).1 (vj q).2)
noncomputable def cellQ(f:Nat->Bool)(x y:Int):List Qt:=((w_ 4).filter f).map λs=>(x,y,s)
theorem pZ(f:Nat->Bool)(x y:Int):(cellQ f x y).length<=4:=by unfold cellQ;rw[a_];exact Oo _ (w_ 4)
variable {x y:Int}
theorem kU{f:Nat->Bool}(h:q∈cellQ f x y):q.1=x/\q.2.1=y/\q.2.2<4/\f q.2.2=true:=by obtain⟨s,m,rfl⟩:=o_.mp h;have:=Nd.mp m;exact⟨rfl,rfl,NS.mp this.1,this.2⟩
noncomputable def tH(f:Int->List α)(a:Int)(n:Nat):List α:=(w_ n).flatMap λ(j:Nat)=>f (a+j)
variable {a:Int}
theorem jm{f:Int->List α}:tH f a (n+1)=tH f a n++f (a+n):=by unfold tH;rw[NA,OC,Qh]
theorem kX{f:Int->List α}{x:α}(h:x∈tH f a n):∃j:Nat,j<n/\x∈f (a+j):=by obtain⟨j,m,e⟩:=List.mem_flatMap.mp h;exact⟨j,NS.mp m,e⟩
theorem vQ{f:Int->List α}{c:Nat}(h:∀y,(f y).length<=c)(n:Nat):(tH f a n).length<=c*n:=by
 induction n with
 |zero=>exact b_ _
 |succ n ih=>
  rw[jm,f',Nat.mul_succ];exact Nat.add_le_add ih (h _)
theorem tS{R:α->α->Prop}{f:Int->List α}(hp:∀y,(f y).Pairwise R)(hR:∀y y',y<y'->∀u∈f y,∀v∈f y',R u v):(tH f a n).Pairwise R:=by
 induction n with
 |zero=>exact .nil
 |succ n ih=>
  rw[jm,D_];refine⟨ih,hp _,λu mu v mv=>?_⟩;obtain⟨j,hj,mj⟩:=kX mu;exact hR _ _ (by lia) u mj v mv
noncomputable def tJ(o:Oc)(x:Int):Int:=max (max o.c (o.e-x-1)) (x-o.h)
noncomputable def BS(o:Oc)(x:Int):Int:=min (min o.d (o.f-x)) (x+1-o.g)
def ocC(o:Oc)(x:Int)(n:Nat):List Qt:=tH (λy=>cellQ (λs=>inO o (x,y,s)) x y) (tJ o x) n
def ocN(o:Oc)(n:Nat):List Qt:=tH (λx=>ocC o x (BS o x-tJ o x).toNat) o.a n
noncomputable def bdO(o:Oc):Prop:=(((-100<=o.a/\o.a<=100)/\-100<=o.b/\o.b<=100)/\(-100<=o.c/\o.c<=100)/\-100<=o.d/\o.d<=100)/\((-100<=o.e/\o.e<=100)/\-100<=o.f/\o.f<=100)/\(-100<=o.g/\o.g<=100)/\-100<=o.h/\o.h<=100
theorem Dg{o:Oc}(h:bdO o)(h0:-100<=x)(h1:x<=100):-100<=tJ o x/\tJ o x<=300/\-300<=BS o x/\BS o x<=100:=by obtain⟨⟨⟨⟨a0,a1⟩,b0,b1⟩,⟨c0,c1⟩,d0,d1⟩,⟨⟨e0,e1⟩,f0,f1⟩,⟨g0,g1⟩,h0,h1⟩:=h;exact⟨K' c0 (K' (Q0 ..) (Q0 ..)),Rk.mpr ⟨Rk.mpr ⟨by lia,by lia⟩,by lia⟩,Rl.mpr ⟨Rl.mpr ⟨by lia,by lia⟩,by lia⟩,K' (Q1 ..) (K' (Q1 ..) d1)⟩
theorem AH{o:Oc}(n:Nat):(ocC o x n).length<=4*n:=vQ (λy=>pZ _ _ _) n
theorem Aw{o:Oc}(h:bdO o)(n:Nat)(hn:(n:Int)<=o.b-o.a):(ocN o n).length<=800*n:=by
 induction n with
 |zero=>exact b_ _
 |succ n ih=>
  unfold ocN at *;rw[jm,f'];have h1:=ih (by lia);have h2:=AH (o:=o) (x:=o.a+n) (BS o (o.a+n)-tJ o (o.a+n)).toNat;have h3:=Dg (x:=o.a+n) h (by have:=h.1.1.1.1;lia) (by have:=h.1.1.2.2;lia);lia
abbrev Tl:=Int×Int×Int×Int×Int
noncomputable def tlL(t:Tl):List T:=[.int t.1,.int t.2.1,.int t.2.2.1,.int t.2.2.2.1,.int t.2.2.2.2]
def tlT(b o:Bool)(t:Tl):T:=if b then .lst o (tlL t)else .tup (tlL t)
variable {b o:Bool}
theorem gG{t:Tl}:er (tlT b o t)=tlT b false t:=by cases b <;> rfl
theorem cI{t:Tl}:isAny (tlT b o t)=false:=by cases b <;> rfl
theorem bX{t:Tl}:aT (tlT b false t)=true:=by have:er (tlT b false t)=tlT b false t:=gG;rw[<-this];exact aK _
theorem eC{t:Tl}{k:T->Prop}:ixT (tlT b o t) (.int 0) k=k (.int t.1):=by cases b <;> rfl
theorem eW{t:Tl}{k:T->Prop}:ixT (tlT b o t) (.int 1) k=k (.int t.2.1):=by cases b <;> rfl
noncomputable def tlO(t:Tl):Prop:=2<=t.1/\t.1<=4/\1<=t.2.1/\t.2.1<t.1
def mk0(t:Tl):Oc:=mkO t.1 t.2.1 (0,0)
def nrQ(t:Tl):List Qt:=ocN (mk0 t) ((mk0 t).b-(mk0 t).a).toNat
theorem E9{t:Tl}(h:tlO t):yh (mk0 t)=false/\bdO (mk0 t):=by obtain⟨h1,h2,h3,h4⟩:=h;unfold mk0 yh bdO mkO BN oc1;dsimp only;refine⟨?_,by omega⟩;rw[O8,O8,O8];exact⟨decide_eq_false (by lia),decide_eq_false (by lia),decide_eq_false (by lia),decide_eq_false (by lia)⟩
theorem qe{t:Tl}(h:tlO t):(nrQ t).length<=9600:=by
 have:=Aw (E9 h).2 ((mk0 t).b-(mk0 t).a).toNat (by obtain⟨h1,h2,h3,h4⟩:=h;unfold mk0 mkO BN oc1;dsimp only;lia)
 refine p_ this ?_;obtain⟨h1,h2,h3,h4⟩:=h;unfold mk0 mkO BN oc1;dsimp only;lia
noncomputable def Bh(q:Qt):List Int:=[q.1,q.2.1,(q.2.2:Int)]
def qbT(b o:Bool)(q:Qt):T:=if b then .lst o [.int q.1,.int q.2.1,.int (q.2.2:Int)]else qtT q
theorem gR:er (qbT b o q)=qbT b false q:=by cases b <;> rfl
theorem cx:isAny (qbT b o q)=false:=by cases b <;> rfl
theorem cA:aT (qbT b false q)=true:=by cases b <;> rfl
theorem fZ{k:T->Prop}:qi [qbT b o q] k=k (.tup [.int q.1,.int q.2.1,.int (q.2.2:Int)]):=by cases b <;> rfl
theorem fj{k:T->Prop}:ixT (qbT b o q) (.int 0) k=k (.int q.1):=by cases b <;> rfl
theorem eS{k:T->Prop}:ixT (qbT b o q) (.int 1) k=k (.int q.2.1):=by cases b <;> rfl
theorem dU{k:T->Prop}:ixT (qbT b o q) (.int 2) k=k (.int (q.2.2:Int)):=by cases b <;> rfl
def rgT(c o b u:Bool)(qs:List Qt):T:=if c then .tup (qs.map (qbT b u))else .lst o (qs.map (qbT b u))
variable {qs:List Qt}{u:Bool}
theorem DT:erL (qs.map (qbT b u))=qs.map (qbT b false):=by rw[bf];exact nw λk _=>gR
variable {c:Bool}
theorem gL:er (rgT c o b u qs)=rgT c false b false qs:=by
 cases c
 ·show er (.lst o (qs.map (qbT b u)))=.lst false (qs.map (qbT b false));rw[er,DT]
 show er (.tup (qs.map (qbT b u)))=.tup (qs.map (qbT b false));rw[er,DT]
theorem cg:items (rgT c o b u qs)=some (qs.map (qbT b u)):=by cases c <;> rfl
theorem bR:isAny (rgT c o b u qs)=false:=by cases c <;> rfl
theorem cE:aT (rgT c false b false qs)=true:=by have:er (rgT c false b false qs)=rgT c false b false qs:=gL;rw[<-this];exact aK _
theorem Fy{κ:Type}[DecidableEq κ]{v:T}(l:List κ)(x:κ):kJ (l.map λk=>(k,v)) x=if x∈l then some v else none:=by
 unfold kJ;induction l with
 |nil=>rfl
 |cons a l ih=>
  rw[e_,MT];by_cases e:a=x
  ·rw[decide_eq_true e,if_pos (by rw[e];exact x_)]
   rfl
  rw[decide_eq_false e];show QX _ (List.find? _ (l.map λk=>(k,v)))=_;rw[ih];by_cases m:x∈l
  ·rw[if_pos m,if_pos (q_ _ m)]
  rw[if_neg m,if_neg λh=>(n_.mp h).elim (λz=>e z.symm) m]
theorem GH{κ:Type}[DecidableEq κ]{v:T}{l:List κ}{x:κ}(h:x ∉ l):oM (l.map λk=>(k,v)) x v=(l++[x]).map λk=>(k,v):=by
 unfold oM;rw[if_neg,l_]
 ·rfl
 intro g;obtain⟨kv,m,e⟩:=Oy.mp g;obtain⟨a,ma,rfl⟩:=o_.mp m;exact h (of_decide_eq_true e▸ma)
def kQ(q:Qt):List Key:=kI (Bh q)
theorem Dz{r:Qt}(h:kQ q=kQ r):q=r:=by have h:=Js h;unfold Bh at h;simp only[Nn,and_true]at h;exact Oq h.1 (Oq h.2.1 (by have:=h.2.2;lia))
def dQ(qs:List Qt):List (List Key×T):=(qs.map kQ).map λk=>(k,T.bl true)
theorem yr(h:q ∉ qs):oM (dQ qs) (kQ q) (.bl true)=dQ (qs++[q]):=by unfold dQ;rw[show(qs++[q]).map kQ=qs.map kQ++[kQ q]from l_ ..,GH];intro m;obtain⟨r,mr,e⟩:=o_.mp m;exact h (Dz e▸mr)
theorem rO(qs:List Qt):(dQ qs).length=qs.length:=by unfold dQ;rw[a_,a_]
theorem ql:(kJ (dQ qs) (kQ q)).isSome=decide (q∈qs):=by
 unfold dQ;rw[Fy];by_cases m:q∈qs
 ·rw[if_pos (I_ m),decide_eq_true m]
  rfl
 rw[if_neg λh=>?_,decide_eq_false m]
 ·rfl
 obtain⟨r,mr,e⟩:=o_.mp h;exact m (Dz e▸mr)
theorem gM(qs:List Qt):erT (dQ qs)=dQ qs:=by
 unfold dQ;induction qs with
 |nil=>rfl
 |cons a l ih=>rw[e_,e_,erT,ih];rfl
theorem bO(qs:List Qt):pG (dQ qs)=true:=by
 unfold dQ;induction qs with
 |nil=>rfl
 |cons a l ih=>rw[e_,e_,pG,ih];rfl
theorem d6(qs:List Qt):qv (dQ qs)=true:=by
 unfold dQ;induction qs with
 |nil=>rfl
 |cons a l ih=>rw[e_,e_,qv,ih];rfl
theorem je(qs:List Qt):(dQ qs).map (λp=>kyT p.1)=qs.map qtT:=by
 unfold dQ;rw[z_,z_]
 rfl
theorem C6{l:List α}{x:α}(h:l.Nodup)(e:l[i]?=some x):x ∉ l.take i:=by intro m;obtain⟨j,hj,ej⟩:=List.mem_take_iff_getElem.mp m;obtain⟨hi,e⟩:=c_.mp e;have:=(QN h).mp (ej.trans e.symm);lia
noncomputable def jW(p:Pt):List Int:=[p.1,p.2]
noncomputable def unP(k:List Int):Pt:=(k.getD 0 0,k.getD 1 0)
theorem A9(l:List Pt):∀q∈l.map jW,q≠[]:=λq m=>by obtain⟨r,_,rfl⟩:=o_.mp m;exact QS _ _
def srP(l:List Pt):List Pt:=(rG (l.map jW)).map unP
theorem vd(ks:List (List Int)){k:T->Prop}(e:t=.lst o (ks.map iT))(h:∀q∈ks,q≠[])(q:k (.lst true ((rG ks).map iT))):r9 [t] k:=by subst e;show got (rowsOf (ks.map iT)) _;rw[yL h];exact q
theorem ya(l:List Pt):(rG (l.map jW)).map iT=(srP l).map ptP:=by
 unfold srP;rw[z_];refine nw λk m=>?_;obtain⟨p,_,rfl⟩:=o_.mp ((jj _).mem_iff.mp m)
 rfl
theorem pf(l:List Pt):(srP l).length=l.length:=by unfold srP;rw[a_,(jj _).length_eq,a_]
def nrT(z o:Bool)(M:List Qt):T:=if z then .dT o (dQ M)else .lst o (M.map qtT)
variable {M:List Qt}{z:Bool}
theorem gQ:er (nrT z o M)=nrT z false M:=by
 cases z
 ·show er (.lst o (M.map qtT))=.lst false (M.map qtT);rw[er,bf]
  rfl
 show er (.dT o (dQ M))=.dT false (dQ M);rw[er,gM]
theorem cq:isAny (nrT z o M)=false:=by cases z <;> rfl
theorem cc:aT (nrT z false M)=true:=by have:er (nrT z false M)=nrT z false M:=gQ;rw[<-this];exact aK _
theorem dv:Df (nrT z o M)=some (M.map qtT):=by
 cases z
 ·rfl
 show some ((dQ M).map λp=>kyT p.1)=_;rw[je]
noncomputable def abL(M:List Qt)(q:Qt):List Pt:=(M.filter λm=>m.2.2 == q.2.2).map λm=>(q.1-m.1,q.2.1-m.2.1)
theorem qQ(M:List Qt)(q:Qt):(abL M q).length<=M.length:=by unfold abL;rw[a_];exact Oo _ _
theorem xr{m:Qt}(e:M[i]?=some m):abL (M.take (i+1)) q=abL (M.take i) q++if(m.2.2:Int)=q.2.2 then [(q.1-m.1,q.2.1-m.2.1)]else []:=by
 unfold abL;rw[Nm,e,OM,l_];congr 1;show MZ _ (Qi _ [m])=_;rw[N1];by_cases h:m.2.2=q.2.2
 ·rw[if_pos (by simpa using h),if_pos (by lia)]
  rfl
 rw[if_neg (by simpa using h),if_neg (by lia)]
 rfl
theorem HZ(l:List Pt):(l.map jW).map iT=l.map ptP:=by rw[z_];rfl
noncomputable def mvQ(p:Pt)(m:Qt):Qt:=(p.1+m.1,p.2+m.2.1,m.2.2)
def fsQ(p:Pt)(rs:List Qt):List Qt->Option Qt
 | []=>none
 |m::M=>if mvQ p m∈rs then fsQ p rs M else some (mvQ p m)
def oqT:Option Qt->T
 |none=>.non
 |some q=>qtT q
variable {rs rs':List Qt}
theorem Dj(h:∀q,q∈rs↔q∈rs')(M:List Qt):fsQ p rs M=fsQ p rs' M:=by
 induction M with
 |nil=>rfl
 |cons m M ih=>
  rw[fsQ,fsQ,ih];by_cases g:mvQ p m∈rs
  ·rw[if_pos g,if_pos ((h _).mp g)]
  rw[if_neg g,if_neg λz=>g ((h _).mpr z)]
abbrev Rw:=Nat×Pt×Qt
def nK(r:Rw):T:=.tup [.int (r.1:Int),ptP r.2.1,qtT r.2.2]
def wyC(M:List Qt)(rs:List Qt)(n:Nat):List Pt->Option (List Rw)
 | []=>some []
 |c::cs=>(fsQ c rs M).bind λz=>(wyC M rs n cs).map ((n,c,z)::·)
def wyN(rs:List Qt)(q:Qt):Nat->List (List Qt)->Option (List Rw)
 | _,[]=>some []
 |n,M::Ms=>(wyC M rs n (srP (abL M q))).bind λa=>(wyN rs q (n+1) Ms).map (a++·)
def wyU(o:Bool):Option (List Rw)->T
 |none=>.non
 |some l=>.lst o (l.map nK)
abbrev wyT(W:Option (List Rw)):T:=wyU true W
variable {W:Option (List Rw)}
theorem gJ:er (wyU o W)=wyU false W:=by
 cases W with
 |none=>rfl
 |some l=>show er (.lst o (l.map nK))=.lst false (l.map nK);rw[er,bf];rfl
theorem cH:aT (wyU false W)=true:=by have:er (wyU false W)=wyU false W:=gJ;rw[<-this];exact aK _
theorem cK:isAny (wyU o W)=false:=by cases W <;> rfl
theorem fH:isV (wyU o W)=true:=by cases W <;> rfl
theorem bW:uD (wyU o W)=W.isNone:=by cases W <;> rfl
theorem dB:dO (wyU true W)=true:=by
 cases W with
 |none=>rfl
 |some l=>show dO (.lst true (l.map nK))=true;rw[dO,aR];exact cO l
theorem BX(h:∀q,q∈rs↔q∈rs')(cs:List Pt):wyC M rs n cs=wyC M rs' n cs:=by
 induction cs with
 |nil=>rfl
 |cons c cs ih=>rw[wyC,wyC,ih,Dj h]
theorem Bb(h:∀q,q∈rs↔q∈rs')(Ms:List (List Qt)):∀n,wyN rs q n Ms=wyN rs' q n Ms:=by
 induction Ms with
 |nil=>intro n;rfl
 |cons M Ms ih=>intro n;rw[wyN,wyN,ih,BX h]
theorem lu{l:List α}{x:α}(e:l[i]?=some x):l.drop i=x::l.drop (i+1):=by obtain⟨h,e⟩:=c_.mp e;rw[OD h,e]
theorem oj{g:α->T}{l:List α}(hn:n=l.length)(h:(Rc (λ(i:Nat) (x:T)=>T.tup [.int (i:Int),x]) (w_ n) (l.map g))[i]?=some t):∃x,l[i]?=some x/\t=.tup [.int (i:Int),g x]:=by
 subst hn;rw[Qp]at h;cases e:l[i]? with
 |none=>
  rw[k_,e]at h;cases hr:(w_ l.length)[i]? <;> rw[hr]at h <;> cases h
 |some x=>
  have hi:i<l.length:=(c_.mp e).1;rw[k_,e,N3 hi]at h;cases h;exact⟨x,rfl,rfl⟩
theorem lX{g:α->T}{l:List α}(hn:n=l.length):(Rc (λ(i:Nat) (x:T)=>T.tup [.int (i:Int),x]) (w_ n) (l.map g)).length=l.length:=by rw[Qx,NC,a_,hn,PZ]
theorem AY{z:Qt}{a:List Rw}{B D:Option (List Rw)}:(B.bind λb=>D.map (b++·)).map (a++[(n,p,z)]++·)=(Option.bind ((some z).bind λz=>B.map ((n,p,z)::·)) λb=>D.map (b++·)).map (a++·):=by
 cases B with
 |none=>rfl
 |some b=>
  cases D with
  |none=>rfl
  |some d=>
   show some (a++[(n,p,z)]++(b++d))=some (a++((n,p,z)::b++d));rw[gV]
   rfl
def tgT(c o b u:Bool)(ts:List Tl):T:=if c then .tup (ts.map (tlT b u))else .lst o (ts.map (tlT b u))
theorem Dy{ts:List Tl}:erL (ts.map (tlT b u))=ts.map (tlT b false):=by rw[bf];exact nw λk _=>gG
theorem gK{ts:List Tl}:er (tgT c o b u ts)=tgT c false b false ts:=by
 cases c
 ·show er (.lst o (ts.map (tlT b u)))=.lst false (ts.map (tlT b false));rw[er,Dy]
 show er (.tup (ts.map (tlT b u)))=.tup (ts.map (tlT b false));rw[er,Dy]
theorem cf{ts:List Tl}:items (tgT c o b u ts)=some (ts.map (tlT b u)):=by cases c <;> rfl
theorem bQ{ts:List Tl}:isAny (tgT c o b u ts)=false:=by cases c <;> rfl
theorem bJ{ts:List Tl}:aT (tgT c false b false ts)=true:=by have:er (tgT c false b false ts)=tgT c false b false ts:=gK;rw[<-this];exact aK _
variable {o':Bool}
theorem G4{k:T->Prop}(q:k (.bl (decide (qs=[])))):eq0 (.lst o (qs.map qtT)) (.lst o' []) k:=by rw[HJ];exact q
theorem F5{k:T->Prop}(q:k (.bl (!decide (qs=[])))):ne0 (.lst o (qs.map qtT)) (.lst o' []) k:=by rw[Ks];exact q
def o9(qs:List Qt):List (List Int):=qs.map Bh
theorem Hk(qs:List Qt):(dQ qs).map (·.1)=(o9 qs).map kI:=by
 unfold dQ o9;rw[z_,z_,z_]
 rfl
theorem vE(qs:List Qt):(o9 qs).map iT=qs.map qtT:=by
 unfold o9;rw[z_]
 rfl
theorem AZ(qs:List Qt):∀q∈o9 qs,q≠[]:=λq m=>by obtain⟨r,_,rfl⟩:=o_.mp m;exact QS _ _
theorem oO{k:T->Prop}(h:k (.lst true (qs.map qtT))):uX [.dT u (dQ qs)] k:=by rw[Dk];exact⟨o9 qs,Hk qs,AZ qs,λ_=>by rw[vE];exact h⟩
theorem xt(qs:List Qt)(j:Nat):(dQ qs).eraseIdx j=dQ (qs.eraseIdx j):=by unfold dQ;rw[<-jg,<-jg]
theorem HV:j7 [.int q.1,.int q.2.1,.int (q.2.2:Int)]=some (kQ q):=rfl
theorem CW{z:T}{k:T->T->Prop}(h:∀rs u,Rf rs qs->k (.dT true (dQ rs)) u):qb (.dT true (dQ qs)) (qtT q) z k:=by
 unfold qtT;rw[EU];refine aZ HV ?_;show match kA (dQ qs) (kQ q)with
   |some r=>k (.dT true r.2) r.1
   |none=>k (.dT true (dQ qs)) z
 cases e:kA (dQ qs) (kQ q)with
 |none=>exact h qs _ (List.Sublist.refl _)
 |some r=>
  obtain⟨j,_,e2⟩:=sP e;show k (.dT true r.2) r.1;rw[e2,xt];exact h _ _ (Om _ _)
theorem Gq{k:T->T->Prop}(m:q∈qs)(h:∀rs u,Rf rs qs->k (.dT true (dQ rs)) u):sA (.dT true (dQ qs)) (qtT q) k:=by
 unfold qtT;rw[AU];refine aZ HV ?_;show gH (kA (dQ qs) (kQ q)) (k:=⟨λr=>k (.dT true r.2) r.1⟩);have e0:(kJ (dQ qs) (kQ q)).isSome=true:=by rw[ql,decide_eq_true m]
 cases e:kA (dQ qs) (kQ q)with
 |none=>
  exfalso;unfold kA at e;cases e1:(dQ qs).findIdx? λkv=>decide (kv.1=kQ q)with
  |none=>
   have e1:=PQ.mp e1;have mm:(kQ q,T.bl true)∈dQ qs:=I_ (I_ m);have:=e1 _ mm;simp at this
  |some j=>
   rw[e1,MY]at e;obtain⟨hj,_,_⟩:=NR.mp e1;rw[d_ hj]at e;cases e
 |some r=>
  obtain⟨j,_,e2⟩:=sP e;refine aZ rfl ?_;show k (.dT true r.2) r.1;rw[e2,xt];exact h _ _ (Om _ _)
theorem dy{k:T->Prop}:Aq [qtT q] k=k (.lst true [.int q.1,.int q.2.1,.int (q.2.2:Int)]):=rfl
noncomputable def oR(n i:Nat):Nat:=if i=0 then n-1 else i-1
theorem xJ{g:α->T}{l:List α}(h:i<l.length)(z:α):atI (l.map g) ((i:Int)-1)=some (g (l.getD (oR l.length i) z)):=by
 unfold atI oR;rw[a_];by_cases hi:i=0
 ·subst hi;rw[if_pos rfl];have:ixN l.length (((0:Nat):Int)-1)=some (l.length-1):=by unfold ixN;rw[if_neg (by decide),if_pos (by lia)];congr 1;lia
  rw[this,MY,k_,A',d_ (by lia)]
  rfl
 rw[if_neg hi];have:ixN l.length ((i:Int)-1)=some (i-1):=by unfold ixN;rw[if_pos (by lia)];rw[if_pos (by lia)];congr 1;lia
 rw[this,MY,k_,A',d_ (by omega)]
 rfl
noncomputable def sm(p:Pt):Prop:=-8388608<p.1/\p.1<8388608/\-8388608<p.2/\p.2<8388608
noncomputable def bd(m:Int)(z:Int):Prop:=-m<=z/\z<=m
def bdP(m:Int)(p:Pt):Prop:=bd m p.1/\bd m p.2
def bdL(m:Int):List Pt->Prop
 | []=>True
 |p::l=>bdP m p/\bdL m l
theorem jq:∀{l:List Pt},bdL m l->p∈l->bdP m p:=by
 intro l;induction l with
 |nil=>intro _ h;cases h
 |cons x l ih=>
  intro h q;rcases n_.mp q with rfl|q
  ·exact h.1
  exact ih h.2 q
theorem rJ:∀{l:List Pt},(∀p∈l,bdP m p)->bdL m l:=by
 intro l;induction l with
 |nil=>intro _;trivial
 |cons x l ih=>exact λh=>⟨h x (x_ ..),ih λp q=>h p (q_ _ q)⟩
theorem qx{n z:Int}(h:bd m z)(l:m<=n):bd n z:=⟨by have:=h.1;lia,by have:=h.2;lia⟩
theorem E7{n:Int}(h:bdP m p)(l:m<=n):bdP n p:=⟨qx h.1 l,qx h.2 l⟩
variable {w:Int}
theorem bd_ad{x r w:Int}(h:bd 50 x)(g:0<=r)(l:r<w)(e:w<=30):bd 80 (x+r):=⟨K' (by decide) (Int.add_le_add h.1 g),K' (Int.add_le_add h.2 (K' (Int.le_of_lt l) e)) (by decide)⟩
theorem bd_a3{x u:Int}(h:bd 80 x)(a: -3<=u)(b:u<=3):bd 110 (x+u):=⟨K' (by decide) (Int.add_le_add h.1 a),K' (Int.add_le_add h.2 b) (by decide)⟩
theorem bd_a1{x r w:Int}(h:bd 80 x)(g:0<=r)(l:r<w)(e:w<=29):bd 110 (x+(1+r)):=⟨K' (by decide) (Int.add_le_add h.1 (Int.add_le_add_left g 1)),K' (Int.add_le_add h.2 (K' (Int.add_comm 1 r ▸ l) e)) (by decide)⟩
theorem FG(h0:bd m x)(h1:bd m (x+w))(g0:0<=a)(g1:a<=w):bd m (x+a):=⟨K' h0.1 (Int.le_add_of_nonneg_right g0),K' (Int.add_le_add_left g1 x) h1.2⟩
theorem FZ(h0:bd m x)(h1:bd m (x+w))(g0:0<=a)(g1:a<=w):bd m (x+w-a):=⟨K' h0.1 (by lia),K' (Int.sub_le_self _ g0) h1.2⟩
theorem yc{l r:List Pt}(h:bdL m l)(e:∀p∈r,p∈l):bdL m r:=rJ λp q=>jq h (e p q)
theorem wu:∀{l:List Int},0<l.length->∃r,jS l r
 | [a],_=>⟨a,.head _,λx m=>by rw[C_.mp m];exact Nr _⟩
 |a::b::l,_=>by
  obtain⟨r,m,h⟩:=wu (l:=b::l) (N0 _);by_cases e:a<=r
  ·exact⟨a,.head _,λx mx=>(n_.mp mx).elim (λz=>by lia) (λz=>by have:=h x z;lia)⟩
  exact⟨r,.tail _ m,λx mx=>(n_.mp mx).elim (λz=>by lia) (h x)⟩
theorem Fo{l:List Int}(h:0<l.length):∃r,jT l r:=by obtain⟨r,m,k⟩:=wu (l:=l.map λx=>-x) (by rw[a_];exact h);obtain⟨y,my,rfl⟩:=o_.mp m;exact⟨y,my,λx mx=>by have:=k (-x) (o_.mpr ⟨x,mx,rfl⟩);lia⟩
theorem GX{l:List Int}{b:Int}(h:jS l a)(g:jS l b):a=b:=by have:=h.2 b g.1;have:=g.2 a h.1;lia
theorem Hm{l:List Int}{b:Int}(h:jT l a)(g:jT l b):a=b:=by have:=h.2 b g.1;have:=g.2 a h.1;lia
variable {d:Int}
theorem JJ{ps:List Pt}(h:bdL m ps){b c:Int}(h1:jS (ps.map (·.1)) a)(h2:jT (ps.map (·.1)) b)(h3:jS (ps.map (·.2)) c)(h4:jT (ps.map (·.2)) d):(-m<=a/\a<=b/\b<=m)/\-m<=c/\c<=d/\d<=m:=by have l1:=h2.2 a h1.1;have l2:=h4.2 c h3.1;obtain⟨p,mp,rfl⟩:=o_.mp h1.1;obtain⟨q,mq,rfl⟩:=o_.mp h2.1;obtain⟨r,mr,rfl⟩:=o_.mp h3.1;obtain⟨t,mt,rfl⟩:=o_.mp h4.1;exact⟨⟨(jq h mp).1.1,l1,(jq h mq).1.2⟩,(jq h mr).2.1,l2,(jq h mt).2.2⟩
theorem KQ{b:Int}{c:Prop}[Decidable c]:atI [T.int a,.int b] (if c then 1 else 0)=some (.int (if c then b else a)):=by
 by_cases h:c
 ·rw[if_pos h,if_pos h];rfl
 rw[if_neg h,if_neg h];rfl
theorem Lz(d:Int):-1<=d/max 1 (d.natAbs:Int)/\d/max 1 (d.natAbs:Int)<=1:=by
 rcases Int.lt_trichotomy d 0 with h|h|h
 ·have e:=Int.neg_ediv_self (-d) (by lia);rw[Int.neg_neg]at e;rw[show max 1 (d.natAbs:Int)=-d by lia,e];lia
 ·rw[h,Int.zero_ediv];lia
 rw[show max 1 (d.natAbs:Int)=d by lia,Int.ediv_self (by lia)];lia
noncomputable def ltQ(a b:Qt):Prop:=a.1<b.1\/a.1=b.1/\(a.2.1<b.2.1\/a.2.1=b.2.1/\a.2.2<b.2.2)
def upQ(qs:List Qt):Prop:=qs.Pairwise ltQ
noncomputable def okQ(q:Qt):Prop:=(-1000<=q.1/\q.1<=1000)/\(-1000<=q.2.1/\q.2.1<=1000)/\q.2.2<4
variable {X:Int}
theorem LN{b Y:Int}{c:Nat}(h:a<X\/a=X/\(b<Y\/b=Y/\c<s)):a<X\/a=X/\(b<Y\/b=Y/\c<s+1):=h.imp_right (PC (Or.imp_right (PC PH)))
theorem Mr{b Y Z:Int}{P:Prop}(h:a<X\/a=X/\(b<Y\/b=Y/\P))(e:Y<Z):a<X\/a=X/\b<Z:=h.imp_right (PC λg=>g.elim (λl=>Rg l e) λl=>by rw[l.1];exact e)
theorem Mq{Z:Int}{P:Prop}(h:a<X\/a=X/\P)(e:X<Z):a<Z:=h.elim (λl=>Rg l e) λl=>by rw[l.1];exact e
theorem Hh(h:upQ qs)(g:∀r∈qs,ltQ r q):upQ (qs++[q]):=by refine D_.mpr ⟨h,OP _ _,λa ma b mb=>?_⟩;rw[C_.mp mb];exact g a ma
theorem J1(g:∀r∈qs,ltQ r q):q ∉ qs:=λm=>by have:=g q m;unfold ltQ at this;lia
theorem HS(h:upQ qs):qs.Nodup:=h.imp λ{a b} g z=>by subst z;unfold ltQ at g;lia
theorem GP{P R:Qt->Prop}(h:∀r∈qs,P r)(g:∀r,P r->R r)(gq:R q):∀r∈qs++[q],R r:=λr m=>by
 rcases B_.mp m with m|m
 ·exact g r (h r m)
 rw[C_.mp m];exact gq
theorem DZ(h:s<4):(∃v,atI [T.int 6,.int 4,.int 2,.int 4] (s:Int)=some (.int v))/\∃v,atI [T.int 5,.int 7,.int 3,.int 1] (s:Int)=some (.int v):=by
 match s,h with
 |0,_=>exact⟨⟨_,rfl⟩,_,rfl⟩
 |1,_=>exact⟨⟨_,rfl⟩,_,rfl⟩
 |2,_=>exact⟨⟨_,rfl⟩,_,rfl⟩
 |3,_=>exact⟨⟨_,rfl⟩,_,rfl⟩
noncomputable def yb(x y w h a b c d:Int):List Pt:=[(x+a,y),(x+w-b,y),(x+w,y+b),(x+w,y+h-c),(x+w-c,y+h),(x+d,y+h),(x,y+h-d),(x,y+a)]
noncomputable def ddl:Pt->List Pt->List Pt
 | _,[]=>[]
 |p,q::l=>if q=p then ddl q l else q::ddl q l
def qk(x y w h a b c d:Int):List Pt:=ddl (x,y+a) (yb x y w h a b c d)
theorem Fn{x:Pt}:∀{l:List Pt}{p:Pt},ddl p (l++[x])=ddl p l++(if x=l.getLastD p then []else [x]):=by
 intro l;induction l with
 |nil=>intro p;rfl
 |cons q l ih=>
  intro p;have e:(q::l).getLastD p=l.getLastD q:=by rw[List.getLastD_cons]
  rw[e,MV,ddl,ddl,ih];split
  ·rfl
  rfl
theorem DO{l:List Pt}{z x:Pt}(hp:l.getD (l.length-1) z=p)(e:l[i]?=some x):ddl p (l.take (i+1))=ddl p (l.take i)++(if x=l.getD (oR l.length i) z then []else [x]):=by
 have hi:i<l.length:=(c_.mp e).1;have ek:(l.take i).getLastD p=l.getD (oR l.length i) z:=by
  unfold oR;by_cases h:i=0
  ·subst h;rw[if_pos rfl,hp];rfl
  rw[if_neg h,List.getLastD_eq_getLast?,List.getLast?_eq_getElem?,y_,N7 (by lia),PR (by lia),A',d_ (by omega)]
  rfl
 rw[Nm,e,<-ek];exact Fn
theorem Gg{q:Pt}:∀{l:List Pt}{p:Pt},q∈ddl p l->q∈l:=by
 intro l;induction l with
 |nil=>intro p h;exact h
 |cons x l ih=>
  intro p h;rw[ddl]at h;split at h
  ·exact q_ _ (ih h)
  rcases n_.mp h with rfl|h
  ·exact x_ ..
  exact q_ _ (ih h)
theorem zX:∀{l:List Pt}{p:Pt},(ddl p l).length<=l.length:=by
 intro l;induction l with
 |nil=>intro p;exact b_ _
 |cons x l ih=>
  intro p;rw[ddl];split
  ·exact QI ih
  exact P9 ih
theorem Ff{q:Pt}:∀{l:List Pt}{p:Pt},ddl p l=[]->q∈l->q=p:=by
 intro l;induction l with
 |nil=>intro p _ h;cases h
 |cons x l ih=>
  intro p h m;rw[ddl]at h;split at h
  ·rename_i e;rcases n_.mp m with rfl|m
   ·exact e
   rw[<-e];exact ih h m
  cases h
variable {h:Int}
theorem y9{b c:Int}(hw:w≠0):0<(qk x y w h a b c d).length:=by refine Nh λz=>?_;have e:=Ff (M_ z) (show((x+w,y+b):Pt)∈yb x y w h a b c d from .tail _ (.tail _ (.head _)));have:=congrArg Rh e;dsimp only at this;lia
theorem FH{b c:Int}(h0:bd m x)(h1:bd m y)(h2:bd m (x+w))(h3:bd m (y+h))(h4:bd m (x+a))(h5:bd m (x+w-b))(h6:bd m (y+b))(h7:bd m (y+h-c))(h8:bd m (x+w-c))(h9:bd m (x+d))(h10:bd m (y+h-d))(h11:bd m (y+a)):bdL m (qk x y w h a b c d):=
 rJ λp q=>jq (l:=yb x y w h a b c d) ⟨⟨h4,h1⟩,⟨h5,h1⟩,⟨h2,h6⟩,⟨h2,h7⟩,⟨h8,h3⟩,⟨h9,h3⟩,⟨h0,h10⟩,⟨h0,h11⟩,trivial⟩ (Gg q)
theorem D6{b c M:Int}(h0:bd m x)(h1:bd m y)(h2:bd m (x+w))(h3:bd m (y+h))(mw:M<=w)(mh:M<=h)(ha:0<=a/\a<=M)(hb:0<=b/\b<=M)(hc:0<=c/\c<=M)(hd:0<=d/\d<=M):bdL m (qk x y w h a b c d):=
 have l {z:Int} (g:0<=z/\z<=M):z<=w:=K' g.2 mw;have k {z:Int} (g:0<=z/\z<=M):z<=h:=K' g.2 mh
 FH h0 h1 h2 h3 (FG h0 h2 ha.1 (l ha)) (FZ h0 h2 hb.1 (l hb)) (FG h1 h3 hb.1 (k hb)) (FZ h1 h3 hc.1 (k hc)) (FZ h0 h2 hc.1 (l hc)) (FG h0 h2 hd.1 (l hd)) (FZ h1 h3 hd.1 (k hd)) (FG h1 h3 ha.1 (k ha))
theorem Cp{u v:Int}(h0:bd m x)(h1:bd m y)(h2:bd m (x+u))(h3:bd m (y+v)):bdL m [(x,y),(x+u,y),(x,y+v)]:=⟨⟨h0,h1⟩,⟨h2,h1⟩,⟨h0,h3⟩,trivial⟩
theorem qX{l:List α}{i:Int}(h0:0<=i)(h1:i<l.length):∃x,x∈l/\atI l i=some x:=by
 have h:i.toNat<l.length:=by lia
 refine⟨l[i.toNat],Ni h,?_⟩;have:=j8 (xs:=l) (j:=i.toNat) (d_ h);rwa[Int.toNat_of_nonneg h0]at this
variable {ns:List Int}
theorem mY(P:Int->Prop){i:Int}(h0:0<=i)(h1:i<ns.length)(hp:∀x∈ns,P x):∃v,atI (ns.map T.int) i=some (.int v)/\P v:=by obtain⟨t,m,e⟩:=qX (l:=ns.map T.int) h0 (by rw[a_];exact h1);obtain⟨v,mv,rfl⟩:=o_.mp m;exact⟨v,e,hp v mv⟩
theorem four{P:Int->Prop}(h:cs.length=4)(hp:∀v∈cs,P v):∃a b c d,cs=[a,b,c,d]/\P a/\P b/\P c/\P d:=by
 match cs,h with
 | [a,b,c,d],_=>exact⟨a,b,c,d,rfl,hp a (.head _),hp b (.tail _ (.head _)),hp c (.tail _ (.tail _ (.head _))),hp d (.tail _ (.tail _ (.tail _ (.head _))))⟩
theorem Mh:nB ts (some (n:Int)) none=ts.drop n:=by
 unfold nB;rw[HT.t5,HT.ra];rcases Nat.le_total n ts.length with h|h
 ·rw[N7 h,MQ (by rw[F'];lia)]
 rw[OY h,Qj (b_ _),Qj h,Qv]
theorem Hw(h:0<=m)(h2:m<ts.length):nB ts (some m) none=ts.drop m.toNat/\nB ts none (some m)=ts.take m.toNat:=by
 obtain⟨n,rfl⟩:=Int.eq_ofNat_of_zero_le h;refine⟨Mh,?_⟩;unfold nB;rw[HT.t5,HT.ra,N7 (by lia)]
 rfl
theorem Jz{p q:Pt}{k:T->Prop}:neS (ptP p) (ptP q) k=k (.bl (decide (p≠q))):=by unfold ptP;rw[IV,<-decide_not];congr 2;rw[decide_eq_decide];exact not_congr ⟨λh=>Oq h.1 h.2,λh=>by rw[h];exact⟨rfl,rfl⟩⟩
noncomputable def edL:List (List Pt):=[[(1,0),(1,1)],[(0,1),(1,1)],[(0,0),(0,1)],[(0,0),(1,0)]]
noncomputable def ptM(q:Qt):List Pt:=(2*q.1+1,2*q.2.1+1)::(edL.getD q.2.2 []).map λe=>(2*(q.1+e.1),2*(q.2.1+e.2))
def inM(t:Tl)(q:Qt):Bool:=(ptM q).all λp=>decide ((p.1.natAbs:Int)+p.2.natAbs<=2*(t.1+t.2.1))
theorem An(h:s<4):atI [T.lst true [.tup [.int 1,.int 0],.tup [.int 1,.int 1]],.lst true [.tup [.int 0,.int 1],.tup [.int 1,.int 1]],.lst true [.tup [.int 0,.int 0],.tup [.int 0,.int 1]],.lst true [.tup [.int 0,.int 0],.tup [.int 1,.int 0]]] (s:Int)=some (.lst true ((edL.getD s []).map ptP))/\(edL.getD s []).length=2:=by
 match s,h with
 |0,_=>exact⟨rfl,rfl⟩
 |1,_=>exact⟨rfl,rfl⟩
 |2,_=>exact⟨rfl,rfl⟩
 |3,_=>exact⟨rfl,rfl⟩
theorem F0{t:Tl}:upQ (nrQ t):=by
 unfold upQ nrQ ocN ocC;refine tS (λx=>tS (λy=>?_) λy y' hy u mu v mv=>?_) λx x' hx u mu v mv=>?_
 ·refine Nc.mpr (List.Pairwise.imp (R:=λa b=>a<b) (λ{a b} h=>.inr ⟨rfl,.inr ⟨rfl,h⟩⟩) ?_);exact List.Pairwise.filter _ List.pairwise_lt_range
 ·have:=kU mu;have:=kU mv;unfold ltQ;lia
 obtain⟨j,_,mj⟩:=kX mu;obtain⟨j',_,mj'⟩:=kX mv;have:=kU mj;have:=kU mj';unfold ltQ;lia
theorem Ii{a b:Qt}(h:ltQ a b):ZS.ltL (Bh b) (Bh a)=false:=by
 unfold ltQ at h;unfold Bh;rw[ZS.ltL,ZS.ltL,ZS.ltL,ZS.ltL];split
 ·split
  ·split
   ·rfl
   exact decide_eq_false (by lia)
  exact decide_eq_false (by lia)
 exact decide_eq_false (by lia)
theorem K9(h:upQ qs):rG (o9 qs)=o9 qs:=(qU ZS.vy (Q7 _) (Nc.mpr (h.imp Ii))).symm
theorem o7{k:T->Prop}(h:upQ qs)(q:k (.lst true (qs.map qtT))):r9 [.lst o (qs.map qtT)] k:=by refine vd (o:=o) (o9 qs) (by rw[vE]) (AZ qs) ?_;rw[K9 h,vE];exact q
def mkC(r k x:Int)(m:Nat):List Qt:=tH (λy=>cellQ (λs=>inM (r,k,0,0,0) (x,y,s)) x y) (-r) m
def mkN(r k:Int)(n:Nat):List Qt:=tH (λx=>mkC r k x (r - -r).toNat) (-r) n
theorem six{r k:Int}(h1:2<=r)(h2:r<=4)(h3:1<=k)(h4:k<r):(r=2/\k=1\/r=3/\k=1\/r=3/\k=2)\/r=4/\k=1\/r=4/\k=2\/r=4/\k=3:=by lia
theorem mk_eq{t:Tl}(h:tlO t):mkN t.1 t.2.1 (t.1 - -t.1).toNat=nrQ t:=by obtain⟨r,k,a,b,c⟩:=t;obtain⟨h1,h2,h3,h4⟩:=h;show mkN r k (r - -r).toNat=nrQ (r,k,0,0,0);dsimp only at h1 h2 h3 h4;have e:=six h1 h2 h3 h4;rcases e with (⟨rfl,rfl⟩|⟨rfl,rfl⟩|⟨rfl,rfl⟩)|⟨rfl,rfl⟩|⟨rfl,rfl⟩|⟨rfl,rfl⟩ <;> decide +kernel
theorem Jm{r k:Int}{j:Nat}:((-r+(i:Int),-r+(j:Int),s):Qt) ∉ mkN r k i++mkC r k (-r+i) j++((w_ s).filter λs=>inM (r,k,0,0,0) (-r+i,-r+j,s)).map λs=>(-r+(i:Int),-r+(j:Int),s):=by
 intro h;unfold mkN mkC at h;rcases B_.mp h with h|h
 ·rcases B_.mp h with h|h
  ·obtain⟨k,hk,mk⟩:=kX h;obtain⟨k',_,mk'⟩:=kX mk;have:=(kU mk').1;dsimp only at this;lia
  obtain⟨k,hk,mk⟩:=kX h;have:=(kU mk).2.1;dsimp only at this;lia
 obtain⟨s',m',e⟩:=o_.mp h;have:=NS.mp (Nd.mp m').1;have:=(Ri.mp (Ri.mp e).2).2;dsimp only at this;omega
theorem Ir{r k:Int}{j:Nat}(hm:(r - -r).toNat<=100):(mkN r k i++mkC r k (-r+i) j++((w_ s).filter λs=>inM (r,k,0,0,0) (-r+i,-r+j,s)).map λs=>((-r+(i:Int),-r+(j:Int),s):Qt)).length<=400*i+4*j+s:=by have lc:∀x m,(mkC r k x m).length<=4*m:=λx m=>vQ (λy=>pZ _ _ _) m;have l1:(mkN r k i).length<=400*i:=vQ (λx=>p_ (lc x _) (by lia)) i;have l2:=lc (-r+i) j;have l3:=Oo (λs=>inM (r,k,0,0,0) (-r+i,-r+j,s)) (w_ s);rw[NC]at l3;rw[f',f',a_];lia
theorem x4(f:α->β)(l:List α)(a k:Int):cU (l.map f) a k=(cU l a k).map f:=by unfold cU;rw[a_,List.map_filterMap];exact congrArg (λg=>Q8 g _) (funext λi=>k_ ..)
theorem sl2(n:Nat):T5 (max 0 (min 0 (n:Int))) n 2=(w_ ((n+1)/2)).map (2*·)/\T5 (max 0 (min 1 (n:Int))) n 2=(w_ (n/2)).map (2*·+1):=by
 rcases Nat.eq_zero_or_pos n with rfl|h
 ·exact⟨rfl,rfl⟩
 have h1:(0:Int)<n:=Int.ofNat_lt.mpr h;rw[Q2 (Int.le_of_lt h1),Int.max_self,Q2 (show(1:Int)<=n from h1),Int.max_eq_right (by decide)];unfold T5;refine⟨?_,?_⟩
 ·have e:(if(2:Int) > 0 then(if 0<(n:Int)then((n:Int)-0+2-1)/2 else 0)else(if(0:Int) > n then(0-(n:Int)-2-1)/(-2)else 0)).toNat=(n+1)/2:=by rw[if_pos (by decide),if_pos h1];lia
  dsimp only;rw[e];exact nw λk _=>by lia
 have e:(if(2:Int) > 0 then(if 1<(n:Int)then((n:Int)-1+2-1)/2 else 0)else(if(1:Int) > n then(1-(n:Int)-2-1)/(-2)else 0)).toNat=n/2:=by rw[if_pos (by decide)];split <;> lia
 dsimp only;rw[e];exact nw λk _=>by lia
theorem FX:∀n:Nat,((w_ ((n+1)/2)).map (2*·)++(w_ (n/2)).map (2*·+1)).Perm (w_ n):=by
 intro n;induction n with
 |zero=>exact Q7 _
 |succ n ih=>
  rw[NA];refine t_ ?_ (ih.append_right [n]);rcases Nat.mod_two_eq_zero_or_one n with h|h
  ·rw[show(n+1+1)/2=(n+1)/2+1 by lia,show(n+1)/2=n/2 by lia,NA,l_,gV,gV];refine L_ _ ?_;rw[show MZ (2*·) [n/2]=[n] by show [2*(n/2)]=[n];congr 1;lia];exact Na
  rw[show(n+1+1)/2=(n+1)/2 by lia,show(n+1)/2=n/2+1 by lia,NA (n:=n/2),l_ (f:=(2*·+1)),gV];refine L_ _ (L_ _ ?_);rw[show MZ (2*·+1) [n/2]=[n] by show [2*(n/2)+1]=[n];congr 1;lia]
theorem BR(l:List α):(cU l 0 2++cU l 1 2).Perm l:=by
 unfold cU;rw[(sl2 l.length).1,(sl2 l.length).2,<-List.filterMap_append];refine((FX l.length).filterMap _).trans (Q3 ?_);induction l with
 |nil=>rfl
 |cons a l ih=>
  rw[j_,List.range_succ_eq_map];show a::Q8 (λx=>(a::l)[x]?) (MZ Rm (w_ l.length))=a::l;rw[QA];exact congrArg (a::·) ih
def Sml(t:T)(n m:Nat):Prop:=isD t=true/\shD (dt t)=true/\dpt (dt t)<=n/\(toPy (dt t)).bulk<=m
def tN(ts:List T)(n m:Nat):Prop:=vZ ts=true/\shL (dtL ts)=true/\wH (dtL ts)<=n/\VQ (iY (dtL ts))<=m
theorem Af{i:Int}(n:Nat)(h:i.natAbs<10 ^ 12):Sml (.int i) n 0:=⟨rfl,by rw[dt,shD];exact decide_eq_true h,by rw[dt,dpt.eq_def];exact A_ _,by rw[dt,toPy,WD.eq_def];exact b_ _⟩
theorem sC{i:Int}(n:Nat)(h0:-3000<=i)(h1:i<=3000):Sml (.int i) n 0:=Af n (by lia)
theorem HL(n:Nat)(h:s<4):Sml (.int (s:Int)) n 0:=Af n (by lia)
theorem mP(n:Nat):tN [] n 0:=⟨rfl,by rw[dtL,shL],by rw[dtL,wH];exact A_ _,by rw[dtL,iY,VQ.eq_def];exact b_ _⟩
theorem dP{m k:Nat}(h:Sml t n m)(r:tN ts n k):tN (t::ts) n (m+1+k):=by refine⟨by rw[vZ,h.1,r.1];rfl,by rw[dtL,shL,h.2.1,r.2.1];rfl,by rw[dtL,wH];exact Nat.max_le.mpr ⟨h.2.2.1,r.2.2.1⟩,?_⟩;rw[dtL,iY,VQ.eq_def];have:=h.2.2.2;have:=r.2.2.2;show _+1+_<=_;lia
theorem xi{g:α->T}{l:List α}{m:Nat}(h:∀x∈l,Sml (g x) n m):tN (l.map g) n (l.length*(m+1)):=by
 induction l with
 |nil=>rw[Oi,N6,Nat.zero_mul];exact mP n
 |cons x l ih=>
  have:=dP (h x (x_ ..)) (ih λy my=>h y (q_ _ my));rw[e_,j_,Nat.succ_mul,Nat.add_comm];exact this
theorem nv{m:Nat}(h:tN ts n m):Sml (.lst o ts) (n+1) m:=⟨by rw[isD];exact h.1,by rw[dt,shD];exact h.2.1,by rw[dt,dpt];exact P9 h.2.2.1,by rw[dt,toPy,WD.eq_def];exact h.2.2.2⟩
theorem p9{m:Nat}(h:tN ts n m):Sml (.tup ts) (n+1) m:=⟨by rw[isD];exact h.1,by rw[dt,shD];exact h.2.1,by rw[dt,dpt];exact P9 h.2.2.1,by rw[dt,toPy,WD.eq_def];exact h.2.2.2⟩
theorem Iu{K:Rr}(h:Scr K t ns):er t=t/\isAny t=false:=by
 rcases h with rfl|⟨a,rfl,_⟩
 ·exact⟨by simp only[er,bf],rfl⟩
 exact⟨rfl,rfl⟩
theorem EE{c:Cells}:dO (stT c n)=true:=by simp only[stT,dO,rX,aR,cO,Nu,NN]
theorem de{t:Tl}{k:T->Prop}:Aq [tlT b o t] k=k (tlT true true t):=by cases b <;> rfl
theorem LG(h:okQ q):Sml (qbT b o q) 1 3:=by
 obtain⟨⟨h1,h2⟩,⟨h3,h4⟩,h5⟩:=h;have l:tN [T.int q.1,.int q.2.1,.int (q.2.2:Int)] 0 3:=dP (sC 0 (K' (by decide) h1) (K' h2 (by decide))) (dP (sC 0 (K' (by decide) h3) (K' h4 (by decide))) (dP (HL 0 h5) (mP 0)));cases b
 ·exact p9 l
 exact nv l
theorem Jw(h:∀q∈qs,okQ q)(hl:qs.length<=230400):Sml (rgT false o b u qs) 2 (2 ^ 20):=by have:=nv (o:=o) (xi (g:=qbT b u) (n:=1) (m:=3) λq m=>LG (h q m));exact⟨this.1,this.2.1,this.2.2.1,p_ this.2.2.2 (by lia)⟩
theorem EF{k:T->Prop}(h:∀q∈qs,okQ q)(hl:qs.length<=230400)(q:k (.str (toPy (dt (rgT false o b u qs))).shown)):Gb [rgT false o b u qs] k:=by have s:=Jw (o:=o) (b:=b) (u:=u) h hl;exact⟨s.1,s.2.1,MX s.2.2.1 (by decide),s.2.2.2,q⟩
theorem Fq:∀{cs:List Pt}{l:List Rw},wyC M rs n cs=some l->l.length=cs.length:=by
 intro cs;induction cs with
 |nil=>intro l e;cases e;rfl
 |cons c cs ih=>
  intro l e;rw[wyC]at e;cases h:fsQ c rs M with
  |none=>rw[h]at e;cases e
  |some z=>
   rw[h,MY]at e;cases h2:wyC M rs n cs with
   |none=>rw[h2]at e;cases e
   |some m=>
    rw[h2]at e;cases e;rw[j_,j_,ih h2]
theorem G8:∀{Ms:List (List Qt)}{n:Nat}{l:List Rw},(∀M∈Ms,M.length<=9600)->wyN rs q n Ms=some l->l.length<=9600*Ms.length:=by
 intro Ms;induction Ms with
 |nil=>intro n l _ e;cases e;exact b_ _
 |cons M Ms ih=>
  intro n l hM e;rw[wyN]at e;cases h:wyC M rs n (srP (abL M q))with
  |none=>rw[h]at e;cases e
  |some a=>
   rw[h,MY]at e;cases h2:wyN rs q (n+1) Ms with
   |none=>rw[h2]at e;cases e
   |some m=>
    rw[h2]at e;cases e;have l1:=Fq h;have l2:=pf (abL M q);have l3:=qQ M q;have l4:=hM M (.head _);have l5:=ih (λM m=>hM M (.tail _ m)) h2;rw[f',j_];lia
theorem B0{l m:List Qt}(p:l.Perm m)(h:m.Nodup):l.Nodup:=p.nodup_iff.mpr h
def Kd3(t:T):Prop:=(∃c,lS t=some c)/\∀us,items t=some us->∀u∈us,Kd u/\∀vs,items u=some vs->vs.length<sizeLine
def lO(t:T):Bool:=match items t with
 |some [a,b,c]=>isI a&&(nums b 2&&nums c 3)
 | _=>false
theorem BL(h:(items t).isSome=false):lO t=false:=by
 unfold lO;cases e:items t with
 |none=>rfl
 |some us=>rw[e]at h;cases h
theorem BD(e:items t=some us)(h:us.length≠3):lO t=false:=by
 unfold lO;rw[e]
 match us,h with
 | [],_=>rfl
 | [_],_=>rfl
 | [_,_],_=>rfl
 | [_,_,_],h=>exact absurd rfl h
 | _::_::_::_::_,_=>rfl
theorem three(h:us.length=3):∃a b c,us=[a,b,c]:=by
 match us,h with
 | [a,b,c],_=>exact⟨a,b,c,rfl⟩
theorem mn{u:T}{i:Int}{k:T->Prop}(h:items t=some us)(e:atI us i=some u)(q:k u):ixT t (.int i) k:=by cases t <;> first|cases h;exact(show gH (atI us i) (k:=⟨k⟩)from aZ e q)|cases h
theorem qD(h:items t=some us):isAny (er t)=false:=by cases t <;> first|rfl|cases h
theorem Bn{k:T->Prop}(h:items t=some us)(n:∀vs,t≠.cst vs)(q:k (.tup us)):qi [t] k:=by cases t <;> first|cases h;exact q|exact absurd rfl (n _)|cases h
theorem Gw(n:∀vs,t≠.cst vs):∀vs,er t≠.cst vs:=by intro vs e;cases t <;> first|exact n _ rfl|cases e
theorem Av:nums (er t) n=nums t n:=by
 unfold nums;rw[ji];cases items t with
 |none=>rfl
 |some us=>
  show(decide ((erL us).length=n)&&(erL us).all isI)=_;rw[jc,lI,NV];congr 2;funext u;exact yy
theorem Hr(h:Kd t):Kd (er t):=by refine⟨by rw[cL];exact h.1,λus e u hu=>?_⟩;rw[ji]at e;obtain⟨vs,ev,rfl⟩:=NJ.mp e;rw[lI]at hu;obtain⟨v,hv,rfl⟩:=o_.mp hu;rw[cL];exact h.2 vs ev v hv
theorem DU(h:∀vs,items t=some vs->vs.length<sizeLine):∀vs,items (er t)=some vs->vs.length<sizeLine:=by intro us e;rw[ji]at e;obtain⟨vs,ev,rfl⟩:=NJ.mp e;rw[jc];exact h vs ev
abbrev Pr:=Bool×Int×Pt×Qt
def prC(u:Bool)(r:Pr):T:=if r.1 then .lst u [.int r.2.2.1.1,.int r.2.2.1.2]else ptP r.2.2.1
def prQ(u:Bool)(r:Pr):T:=if r.1 then .lst u [.int r.2.2.2.1,.int r.2.2.2.2.1,.int (r.2.2.2.2.2:Int)]else qtT r.2.2.2
def prT(u:Bool)(r:Pr):T:=if r.1 then .lst u [.int r.2.1,prC u r,prQ u r]else .tup [.int r.2.1,prC u r,prQ u r]
theorem gF{r:Pr}:er (prT u r)=prT false r:=by obtain⟨b,r⟩:=r;cases b <;> rfl
theorem cB{r:Pr}:isAny (prT u r)=false:=by obtain⟨b,r⟩:=r;cases b <;> rfl
theorem bK{r:Pr}:aT (prT false r)=true:=by obtain⟨b,r⟩:=r;cases b <;> rfl
theorem uj{r:Pr}:items (prT u r)=some [.int r.2.1,prC u r,prQ u r]:=by obtain⟨b,r⟩:=r;cases b <;> rfl
theorem nu{r:Pr}:items (prC u r)=some [.int r.2.2.1.1,.int r.2.2.1.2]:=by obtain⟨b,r⟩:=r;cases b <;> rfl
theorem mT{r:Pr}:items (prQ u r)=some [.int r.2.2.2.1,.int r.2.2.2.2.1,.int (r.2.2.2.2.2:Int)]:=by obtain⟨b,r⟩:=r;cases b <;> rfl
theorem Du{r:Pr}:∀vs,prQ u r≠.cst vs:=by intro vs h;obtain⟨b,r⟩:=r;cases b <;> cases h
theorem fB{r:Pr}{k:T->Prop}:ixT (prT u r) (.int 0) k=k (.int r.2.1):=by obtain⟨b,r⟩:=r;cases b <;> rfl
theorem fT{r:Pr}{k:T->Prop}:ixT (prT u r) (.int 1) k=k (prC u r):=by obtain⟨b,r⟩:=r;cases b <;> rfl
theorem eB{r:Pr}{k:T->Prop}:ixT (prT u r) (.int 2) k=k (prQ u r):=by obtain⟨b,r⟩:=r;cases b <;> rfl
theorem fL{r:Pr}{k:T->Prop}:qi [prC u r] k=k (.tup [.int r.2.2.1.1,.int r.2.2.1.2]):=by obtain⟨b,r⟩:=r;cases b <;> rfl
def ppT(c o u:Bool)(ps:List Pr):T:=if c then .tup (ps.map (prT u))else .lst o (ps.map (prT u))
variable {ps:List Pr}
theorem gE:er (ppT c o u ps)=ppT c false false ps:=by
 cases c
 ·show er (.lst o (ps.map (prT u)))=.lst false (ps.map (prT false));rw[er,bf];congr 1;exact nw λk _=>gF
 show er (.tup (ps.map (prT u)))=.tup (ps.map (prT false));rw[er,bf];congr 1;exact nw λk _=>gF
theorem bN:items (ppT c o u ps)=some (ps.map (prT u)):=by cases c <;> rfl
theorem bA:isAny (ppT c o u ps)=false:=by cases c <;> rfl
theorem bD:aT (ppT c false false ps)=true:=by have:er (ppT c false false ps)=ppT c false false ps:=gE;rw[<-this];exact aK _
theorem IQ:∃y,lS (ppT c o u ps)=some y/\EW y=true:=by cases c <;> exact⟨_,rfl,rfl⟩
theorem A8{r:Pr}:Kd3 (prT u r)/\lO (prT u r)=true:=by
 obtain⟨b,n,⟨x,y⟩,a,d,s⟩:=r;have hp:∀u,u∈[T.int x,.int y]->∃c,lS u=some c:=by intro u m;simp only[n_,Nv,or_false]at m;rcases m with rfl|rfl <;> exact⟨_,rfl⟩
 have hq:∀u,u∈[T.int a,.int d,.int (s:Int)]->∃c,lS u=some c:=by intro u m;simp only[n_,Nv,or_false]at m;rcases m with rfl|rfl|rfl <;> exact⟨_,rfl⟩
 have h:∀us,items (prT u (b,n,(x,y),a,d,s))=some us->∀v∈us,Kd v/\∀vs,items v=some vs->vs.length<sizeLine:=by
  intro us e v m;rw[uj]at e;cases e;simp only[n_,Nv,or_false]at m;rcases m with rfl|rfl|rfl
  ·exact⟨⟨⟨_,rfl⟩,λus e=>by cases e⟩,λvs e=>by cases e⟩
  ·refine⟨⟨?_,λus e=>?_⟩,λvs e=>?_⟩
   ·cases b <;> exact⟨_,rfl⟩
   ·rw[nu]at e;cases e;exact hp
   rw[nu]at e;cases e;show 2<sizeLine;decide
  refine⟨⟨?_,λus e=>?_⟩,λvs e=>?_⟩
  ·cases b <;> exact⟨_,rfl⟩
  ·rw[mT]at e;cases e;exact hq
  rw[mT]at e;cases e;show 3<sizeLine;decide
 refine⟨⟨by cases b <;> exact⟨_,rfl⟩,h⟩,?_⟩;unfold lO;rw[uj];show(isI (T.int n)&&(nums (prC u (b,n,(x,y),a,d,s)) 2&&nums (prQ u (b,n,(x,y),a,d,s)) 3))=true;unfold nums;rw[nu,mT]
 rfl
def pk(r:Pr):Nk:=(r.2.1,jW r.2.2.1)
def wnL(q:Qt):Nat->List (List Qt)->List Nk
 | _,[]=>[]
 |n,M::Ms=>(srP (abL M q)).map (λc=>((n:Int),jW c))++wnL q (n+1) Ms
noncomputable def msB(Ms:List (List Qt))(rs:List Qt)(r:Pr):Bool:=decide (((r.2.2.2.1-r.2.2.1.1,r.2.2.2.2.1-r.2.2.1.2,r.2.2.2.2.2):Qt)∈Ms.getD r.2.1.toNat [])&&!decide (r.2.2.2∈rs)
def shB(Ms:List (List Qt))(rs:List Qt)(q:Qt)(ps:List Pr):Bool:=decide (srN (ps.map pk)=wnL q 0 Ms)&&ps.all (msB Ms rs)
theorem Au(l:List Pt):(srP l).map jW=rG (l.map jW):=by
 unfold srP;rw[z_];refine(nw λk m=>?_).trans (QG _);obtain⟨p,_,rfl⟩:=o_.mp ((jj _).mem_iff.mp m)
 rfl
theorem Dn{n:Int}{x y:List Int}:ZS.ltL (n::x) (n::y)=ZS.ltL x y:=by rw[ZS.ltL,if_pos rfl]
theorem IA{n:Int}{x y:List Int}(h:n<m):ZS.ltL (m::y) (n::x)=false:=by rw[ZS.ltL,if_neg (by lia)];exact decide_eq_false (by lia)
variable {Ms:List (List Qt)}
theorem Lq:∀{n:Nat}{e:Nk},e∈wnL q n Ms->(n:Int)<=e.1:=by
 induction Ms with
 |nil=>intro n e h;cases h
 |cons M Ms ih=>
  intro n e h;rw[wnL]at h;rcases B_.mp h with h|h
  ·obtain⟨c,_,rfl⟩:=o_.mp h;exact Nr _
  have:=ih h;lia
theorem LV:∀{n:Nat},((wnL q n Ms).map nkL).Pairwise λa b=>ZS.ltL b a=false:=by
 induction Ms with
 |nil=>intro n;exact .nil
 |cons M Ms ih=>
  intro n;rw[wnL,l_,D_];refine⟨?_,ih,λa ma b mb=>?_⟩
  ·have h:=lU ZS.vy ((abL M q).map jW);rw[<-show(srP (abL M q)).map jW=BW ZS.ltL ((abL M q).map jW)from Au _,Nc]at h;rw[z_,Nc];exact h.imp λ{a b} g=>Dn.trans g
  obtain⟨e,me,rfl⟩:=o_.mp ma;obtain⟨c,_,rfl⟩:=o_.mp me;obtain⟨f,mf,rfl⟩:=o_.mp mb;have:=Lq mf;exact IA (by show(n:Int)<f.1;lia)
theorem xb{ks:List Nk}:srN ks=wnL q 0 Ms↔ks.Perm (wnL q 0 Ms):=by
 constructor
 ·intro h;exact(Ep ks).symm.trans (.of_eq h)
 intro p;unfold srN;rw[show rG (ks.map nkL)=(wnL q 0 Ms).map nkL from(qU ZS.vy (p.symm.map nkL) LV).symm,z_];exact QG _
theorem JR:∀{n i:Nat}{M:List Qt}{c:Pt},Ms[i]?=some M->c∈srP (abL M q)->(((n+i:Nat):Int),jW c)∈wnL q n Ms:=by
 induction Ms with
 |nil=>intro n i M c h;cases h
 |cons M' Ms ih=>
  intro n i M c h m;rw[wnL];cases i with
  |zero=>cases h;exact G' _ (o_.mpr ⟨c,m,rfl⟩)
  |succ i=>exact r_ _ (by have:=ih (n:=n+1) h m;rwa[show n+1+i=n+(i+1) by lia]at this)
theorem FD:∀{n:Nat}{e:Nk},e∈wnL q n Ms->∃i:Nat,i<Ms.length/\e.1=((n+i:Nat):Int):=by
 induction Ms with
 |nil=>intro n e h;cases h
 |cons M Ms ih=>
  intro n e h;rw[wnL]at h;rcases B_.mp h with h|h
  ·obtain⟨c,_,rfl⟩:=o_.mp h;exact⟨0,N0 _,rfl⟩
  obtain⟨i,hi,e⟩:=ih h;exact⟨i+1,Nat.succ_lt_succ hi,by rw[e];lia⟩
theorem vW{z:Qt}(h:fsQ p rs M=some z):(∃m∈M,z=mvQ p m)/\z ∉ rs:=by
 induction M with
 |nil=>cases h
 |cons m M ih=>
  rw[fsQ]at h;by_cases g:mvQ p m∈rs
  ·rw[if_pos g]at h;obtain⟨⟨m',mm,e⟩,n⟩:=ih h;exact⟨⟨m',.tail _ mm,e⟩,n⟩
  rw[if_neg g]at h;cases h;exact⟨⟨m,.head _,rfl⟩,g⟩
theorem F4(h:fsQ p rs M=none):∀m∈M,mvQ p m∈rs:=by
 induction M with
 |nil=>intro m h;cases h
 |cons m M ih=>
  rw[fsQ]at h;by_cases g:mvQ p m∈rs
  ·rw[if_pos g]at h;intro m' mm;rcases n_.mp mm with rfl|mm
   ·exact g
   exact ih h m' mm
  rw[if_neg g]at h;cases h
def rwK(r:Rw):Nk:=((r.1:Int),jW r.2.1)
theorem C3:∀{cs:List Pt}{l:List Rw},wyC M rs n cs=some l->l.map rwK=cs.map (λc=>((n:Int),jW c))/\∀r∈l,r.1=n/\fsQ r.2.1 rs M=some r.2.2:=by
 intro cs;induction cs with
 |nil=>intro l e;cases e;exact⟨rfl,λr m=>by cases m⟩
 |cons c cs ih=>
  intro l e;rw[wyC]at e;cases h:fsQ c rs M with
  |none=>rw[h]at e;cases e
  |some z=>
   rw[h,MY]at e;cases h2:wyC M rs n cs with
   |none=>rw[h2]at e;cases e
   |some m=>
    rw[h2]at e;cases e;obtain⟨k,a⟩:=ih h2;refine⟨by rw[e_,e_,k];rfl,λr mr=>?_⟩;rcases n_.mp mr with rfl|mr
    ·exact⟨rfl,h⟩
    exact a r mr
theorem CT{cs:List Pt}(h:wyC M rs n cs=none):∃c∈cs,fsQ c rs M=none:=by
 induction cs with
 |nil=>cases h
 |cons c cs ih=>
  rw[wyC]at h;cases h1:fsQ c rs M with
  |none=>exact⟨c,.head _,h1⟩
  |some z=>
   rw[h1,MY,Qk]at h;obtain⟨c',m,e⟩:=ih h;exact⟨c',.tail _ m,e⟩
theorem oE:∀{Ms:List (List Qt)}{n:Nat}{l:List Rw},wyN rs q n Ms=some l->l.map rwK=wnL q n Ms/\∀r∈l,n<=r.1/\∃M,Ms[r.1-n]?=some M/\fsQ r.2.1 rs M=some r.2.2:=by
 intro Ms;induction Ms with
 |nil=>intro n l e;cases e;exact⟨rfl,λr m=>by cases m⟩
 |cons M Ms ih=>
  intro n l e;rw[wyN]at e;cases h:wyC M rs n (srP (abL M q))with
  |none=>rw[h]at e;cases e
  |some a=>
   rw[h,MY]at e;cases h2:wyN rs q (n+1) Ms with
   |none=>rw[h2]at e;cases e
   |some m=>
    rw[h2]at e;cases e;obtain⟨k1,a1⟩:=C3 h;obtain⟨k2,a2⟩:=ih h2;refine⟨by rw[l_,k1,k2,wnL],λr mr=>?_⟩;rcases B_.mp mr with mr|mr
    ·obtain⟨e1,e2⟩:=a1 r mr;exact⟨Ng e1.symm,M,by rw[e1,O4];rfl,e2⟩
    obtain⟨e1,M',e2,e3⟩:=a2 r mr;exact⟨by lia,M',by rw[show r.1-n=(r.1-(n+1))+1 by lia];exact e2,e3⟩
theorem Es:∀{Ms:List (List Qt)}{n:Nat},wyN rs q n Ms=none->∃(i:Nat) (M:List Qt) (c:Pt),Ms[i]?=some M/\c∈srP (abL M q)/\fsQ c rs M=none:=by
 intro Ms;induction Ms with
 |nil=>intro n e;cases e
 |cons M Ms ih=>
  intro n e;rw[wyN]at e;cases h:wyC M rs n (srP (abL M q))with
  |none=>
   obtain⟨c,m,e⟩:=CT h;exact⟨0,M,c,rfl,m,e⟩
  |some a=>
   rw[h,MY,Qk]at e;obtain⟨i,M',c,e1,e2,e3⟩:=ih e;exact⟨i+1,M',c,e1,e2,e3⟩
theorem wL{l:List Rw}(h:wyN rs q 0 Ms=some l)(hp:(ps.map pk).Perm (l.map rwK))(hr:∀r∈ps,∃(n:Nat) (M:List Qt) (m:Qt),r.2.1=(n:Int)/\Ms[n]?=some M/\m∈M/\r.2.2.2=mvQ r.2.2.1 m/\r.2.2.2 ∉ rs):shB Ms rs q ps=true:=by unfold shB;rw[J'];refine⟨decide_eq_true (xb.mpr (by rw[<-(oE h).1];exact hp)),NU.mpr λr mr=>?_⟩;obtain⟨n,M,m,e1,e2,mm,e3,e4⟩:=hr r mr;unfold msB;rw[e1,Nl,A',e2,decide_eq_false e4,e3];simp only[mvQ,NW,Pc,NN];refine decide_eq_true ?_;rw[show((r.2.2.1.1+m.1-r.2.2.1.1,r.2.2.1.2+m.2.1-r.2.2.1.2,m.2.2):Qt)=m from Oq (by dsimp only;lia) (Oq (by dsimp only;lia) rfl)];exact mm
noncomputable def rwP(r:Rw):Pr:=(false,(r.1:Int),r.2.1,r.2.2)
theorem K6{l:List Rw}:l.map nK=(l.map rwP).map (prT u):=by rw[z_];rfl
theorem ID(l:List Rw):(l.map rwP).map pk=l.map rwK:=by rw[z_];rfl
theorem Fe{l:List Rw}(h:wyN rs q 0 Ms=some l):shB Ms rs q (l.map rwP)=true:=by
 refine wL h (by rw[ID]) λr mr=>?_
 obtain⟨w,mw,rfl⟩:=o_.mp mr;obtain⟨_,M,e1,e2⟩:=(oE h).2 w mw;obtain⟨⟨m,mm,e3⟩,e4⟩:=vW e2;exact⟨w.1,M,m,rfl,e1,mm,e3,e4⟩
theorem xo{p':Pt}(h:jW p=jW p'):p=p':=by unfold jW at h;simp only[Nn,and_true]at h;exact Oq h.1 h.2
theorem FK(h:wyN rs q 0 Ms=none):shB Ms rs q ps=false:=by
 obtain⟨i,M,c,e1,mc,e2⟩:=Es h;unfold shB;by_cases g:srN (ps.map pk)=wnL q 0 Ms
 ·have m:=(xb.mp g).mem_iff.mpr (JR (n:=0) e1 mc);obtain⟨r,mr,e⟩:=o_.mp m;have er1:r.2.1=(i:Int):=by have:=congrArg Rh e;dsimp only[pk]at this;lia
  have er2:r.2.2.1=c:=xo (congrArg Rn e);have hf:msB Ms rs r=false:=by
   unfold msB;rw[er1,Nl,A',e1,er2];by_cases g2:((r.2.2.2.1-c.1,r.2.2.2.2.1-c.2,r.2.2.2.2.2):Qt)∈M
   ·have:=F4 e2 _ g2;rw[show mvQ c (r.2.2.2.1-c.1,r.2.2.2.2.1-c.2,r.2.2.2.2.2)=r.2.2.2 from Oq (by dsimp only[mvQ];lia) (Oq (by dsimp only[mvQ];lia) rfl)]at this;rw[decide_eq_true this,Po,Qm]
   rw[NW,decide_eq_false g2,Nw]
  have ha:ps.all (msB Ms rs)=false:=List.all_eq_false.mpr ⟨r,mr,by rw[hf];decide⟩;rw[ha,Qm]
 rw[decide_eq_false g,Nw]
theorem wV(h:∀z,z∈rs↔z∈rs'):shB Ms rs q ps=shB Ms rs' q ps:=by unfold shB;congr 2;funext r;unfold msB;rw[show decide (r.2.2.2∈rs)=decide (r.2.2.2∈rs')from decide_eq_decide.mpr (h _)]
theorem Fh{t:Tl}(h:tlO t)(hs:s<4):((0,0,s):Qt)∈nrQ t:=by
 obtain⟨r,k,a,b,c⟩:=t;obtain⟨h1,h2,h3,h4⟩:=h;show((0,0,s):Qt)∈nrQ (r,k,0,0,0);dsimp only at h1 h2 h3 h4;have e:=six h1 h2 h3 h4;have d:s=0\/s=1\/s=2\/s=3:=by lia
 rcases e with (⟨rfl,rfl⟩|⟨rfl,rfl⟩|⟨rfl,rfl⟩)|⟨rfl,rfl⟩|⟨rfl,rfl⟩|⟨rfl,rfl⟩ <;>(rcases d with rfl|rfl|rfl|rfl <;> decide +kernel)
theorem CV{tl:List Tl}(hq:q.2.2<4)(ht:∀t∈tl,tlO t):shB (tl.map nrQ) rs q []=decide (tl=[]):=by
 unfold shB;rw[List.all_nil,NN];refine decide_eq_decide.mpr ?_;rw[Oi,xb];cases tl with
 |nil=>exact⟨λ_=>rfl,λ_=>.refl _⟩
 |cons t tl=>
  refine⟨λh=>?_,λh=>by cases h⟩;exfalso;have m:((q.1-0,q.2.1-0):Pt)∈abL (nrQ t) q:=o_.mpr ⟨(0,0,q.2.2),Nd.mpr ⟨Fh (ht t (.head _)) hq,beq_self_eq_true _⟩,rfl⟩;have l:=pf (abL (nrQ t) q);have l2:=h.length_eq;rw[e_,wnL,f',a_,l,N6]at l2;have l3:=Ql m;lia
theorem J0{r:Pr}:shB ([]:List (List Qt)) rs q [r]=false:=by unfold shB;rw[decide_eq_false,Nw];intro h;have:=(xb.mp h).length_eq;cases this
theorem fy{r:Rw}:er (nK r)=nK r:=rfl
theorem fR{gs:pW}{r:Rw}{k:Ev->Prop}:gTp n gs (nK r) env k=gTp n gs (.tup [.int (r.1:Int),ptP r.2.1,qtT r.2.2]) env k:=rfl
theorem i5{d:List (List Key×T)}{k:T->Prop}:B9 b (qtT q) (.dT o d) k=B9 b (.tup [.int q.1,.int q.2.1,.int (q.2.2:Int)]) (.dT o d) k:=rfl
theorem y8{p:Qt->Bool}{l:List Qt}{m:Qt}(e:l[i]?=some m):(l.take (i+1)).filter p=(l.take i).filter p++if p m=true then [m]else []:=by rw[Nm,e,OM];congr 1;show Qi p [m]=_;rw[N1,Q4]
theorem gP{x:Nk}:er (nkT x)=nkT x:=by unfold nkT iT;simp only[er,erL,bf]
theorem cw{x:Nk}:aT (nkT x)=true:=by rw[<-gP];exact aK _
theorem Kt{t:Tl}(h:tlO t):∀m∈nrQ t,(-100<=m.1/\m.1<=100)/\(-100<=m.2.1/\m.2.1<=100)/\m.2.2<4:=by obtain⟨r,k,a,b,c⟩:=t;obtain⟨h1,h2,h3,h4⟩:=h;show ∀m∈nrQ (r,k,0,0,0),_;dsimp only at h1 h2 h3 h4;have e:=six h1 h2 h3 h4;rcases e with (⟨rfl,rfl⟩|⟨rfl,rfl⟩|⟨rfl,rfl⟩)|⟨rfl,rfl⟩|⟨rfl,rfl⟩|⟨rfl,rfl⟩ <;> decide +kernel
noncomputable def rOk(r:Pr):Prop:=(0<=r.2.1/\r.2.1<=1000)/\((-2000<=r.2.2.1.1/\r.2.2.1.1<=2000)/\-2000<=r.2.2.1.2/\r.2.2.1.2<=2000)/\(-3000<=r.2.2.2.1/\r.2.2.2.1<=3000)/\(-3000<=r.2.2.2.2.1/\r.2.2.2.2.1<=3000)/\r.2.2.2.2.2<4
theorem Lj:∀{n:Nat}{e:Nk},e∈wnL q n Ms->∃(i:Nat) (M:List Qt) (m:Qt),Ms[i]?=some M/\m∈M/\e=(((n+i:Nat):Int),jW (q.1-m.1,q.2.1-m.2.1)):=by
 induction Ms with
 |nil=>intro n e h;cases h
 |cons M Ms ih=>
  intro n e h;rw[wnL]at h;rcases B_.mp h with h|h
  ·obtain⟨c,mc,rfl⟩:=o_.mp h;have m1:jW c∈rG ((abL M q).map jW):=by rw[<-Au];exact I_ mc
   obtain⟨d,md,e⟩:=o_.mp ((jj _).mem_iff.mp m1);obtain⟨m,mm,rfl⟩:=o_.mp md;exact⟨0,M,m,rfl,(Nd.mp mm).1,by rw[e];rfl⟩
  obtain⟨i,M',m,e1,mm,e⟩:=ih h;exact⟨i+1,M',m,e1,mm,by rw[e,show n+1+i=n+(i+1) by lia]⟩
theorem s1_{a b:Int}(h: -1000<=a/\a<=1000)(g: -100<=b/\b<=100): -2000<=a-b/\a-b<=2000:=⟨K' (by decide) (Int.sub_le_sub h.1 g.2),K' (Int.sub_le_sub h.2 g.1) (by decide)⟩
theorem s2_{a b c:Int}(h: -1000<=a/\a<=1000)(g: -100<=b/\b<=100)(k: -100<=c/\c<=100): -3000<=a-b+c/\a-b+c<=3000:=⟨K' (by decide) (Int.add_le_add (Int.sub_le_sub h.1 g.2) k.1),K' (Int.add_le_add (Int.sub_le_sub h.2 g.1) k.2) (by decide)⟩
theorem DQ{tl:List Tl}{r:Pr}(hq:okQ q)(ht:∀t∈tl,tlO t)(hl:tl.length<=100)(h1:pk r∈wnL q 0 (tl.map nrQ))(h2:∃(n:Nat) (M:List Qt) (m:Qt),(tl.map nrQ)[n]?=some M/\m∈M/\r.2.2.2=mvQ r.2.2.1 m):rOk r:=by
 have at_:∀{n:Nat}{M:List Qt}{m:Qt},(tl.map nrQ)[n]?=some M->m∈M->n<tl.length/\(-100<=m.1/\m.1<=100)/\(-100<=m.2.1/\m.2.1<=100)/\m.2.2<4:=by intro n M m e mm;rw[k_]at e;obtain⟨t,et,rfl⟩:=NJ.mp e;exact⟨(c_.mp et).1,Kt (ht t (B' et)) m mm⟩
 obtain⟨i,M,m,e1,mm,e⟩:=Lj h1;obtain⟨n,M',m',e2,mm',e3⟩:=h2;have b1:=at_ e1 mm
 have b2:=(at_ e2 mm').2;have en:r.2.1=((0+i:Nat):Int):=congrArg Rh e;have ep:r.2.2.1=(q.1-m.1,q.2.1-m.2.1):=xo (congrArg Rn e);obtain⟨q1,q2,q3⟩:=hq;unfold rOk;rw[e3,ep,en];exact⟨⟨by omega,by omega⟩,⟨s1_ q1 b1.2.1,s1_ q2 b1.2.2.1⟩,s2_ q1 b1.2.1 b2.1,s2_ q2 b1.2.2.1 b2.2.1,b2.2.2⟩
theorem Ij{tl:List Tl}{l:List Rw}(hq:okQ q)(ht:∀t∈tl,tlO t)(hl:tl.length<=100)(h:wyN rs q 0 (tl.map nrQ)=some l):∀r∈l.map rwP,rOk r:=by intro r mr;obtain⟨w,mw,rfl⟩:=o_.mp mr;obtain⟨k,a⟩:=oE h;obtain⟨_,M,e1,e2⟩:=a w mw;obtain⟨⟨m,mm,e3⟩,_⟩:=vW e2;exact DQ hq ht hl (by rw[<-k];exact I_ mw) ⟨_,M,m,e1,mm,e3⟩
theorem II{r:Pr}(h:rOk r):Sml (prT u r) 2 8:=by
 obtain⟨b,n,⟨x,y⟩,a,d,s⟩:=r;obtain⟨h1,⟨h2,h3⟩,h4,h5,h6⟩:=h;dsimp only at h1 h2 h3 h4 h5 h6;have lc:tN [T.int x,.int y] 0 2:=dP (sC 0 (K' (by decide) h2.1) (K' h2.2 (by decide))) (dP (sC 0 (K' (by decide) h3.1) (K' h3.2 (by decide))) (mP 0));have lq:tN [T.int a,.int d,.int (s:Int)] 0 3:=dP (sC 0 h4.1 h4.2) (dP (sC 0 h5.1 h5.2) (dP (HL 0 h6) (mP 0)));have go:∀(tc tq:T),Sml tc 1 2->Sml tq 1 3->tN [T.int n,tc,tq] 1 8:=λtc tq g1 g2=>dP (sC 1 (K' (by decide) h1.1) (K' h1.2 (by decide))) (dP g1 (dP g2 (mP 1)))
 cases b
 ·exact p9 (go _ _ (p9 lc) (p9 lq))
 exact nv (go _ _ (nv lc) (nv lq))
theorem C4{k:T->Prop}(h:∀r∈ps,rOk r)(hl:ps.length<=80000)(q:k (.str (toPy (dt (ppT c o u ps))).shown)):Gb [ppT c o u ps] k:=by
 have l:=xi (g:=prT u) (n:=2) (m:=8) λr m=>II (h r m);have s:Sml (ppT c o u ps) 3 (ps.length*(8+1)):=by
  cases c
  ·exact nv l
  exact p9 l
 cases c <;> exact⟨s.1,s.2.1,MX s.2.2.1 (by decide),p_ s.2.2.2 (by lia),q⟩
theorem CQ{tl:List Tl}{k:T->Prop}(q:k (.bl (decide (tl=[])))):eq0 (tgT false o b u tl) (.lst o' []) k:=by show eq0 (.lst o (tl.map (tlT b u))) _ _;rw[HJ];exact q
abbrev Pp:=Bool×Bool×List Pr
def ppF(x:Pp):T:=ppT x.1 x.2.1 false x.2.2
theorem hZ{x:Pp}:er (ppF x)=ppF (x.1,false,x.2.2):=gE
theorem cC{x:Pp}:aT (ppF (x.1,false,x.2.2))=true:=bD
theorem cz{x:Pp}:isAny (ppF x)=false:=bA
theorem gW{k:T->Prop}:slT (qtT q) none (some 2) k=k (ptP (q.1,q.2.1)):=J6 (ts:=[])
theorem eI{k:T->Prop}:Ko (rgT false o b u rs) k=k (rgT false true b u rs.reverse):=by show k (.lst true (rs.map (qbT b u)).reverse)=k (.lst true (rs.reverse.map (qbT b u)));rw[P_]
def IM(x:Pp):Prop:=x.2.2.length<=80000/\∀r∈x.2.2,rOk r
noncomputable def mH:=@Mp.Jz
noncomputable def lY:=@PL.aK
end Mp
local macro_rules | `(tactic| walk_at "go")=>do
 let l<-("!PL.f7 !PL.iC !PL.iB !PL.iQ !PL.eO !PL.cy !PL.d4 !PL.fJ !PL.dh !PL.eK !PL.gY !PL.gd !PL.eU !PL.dw !PL.iz !PL.eZ !PL.eP !PL.df !PL.fW !PL.ij !PL.fX !PL.fY !PL.gu !PL.dc !PL.il !PL.iI !PL.iq !PL.iG !PL.iL !PL.iM !PL.ip !PL.eg !PL.eF !PL.gj !PL.hC !PL.gS !PL.ig !PL.iN !PL.eN !PL.fV !PL.d5 !PL.dX !PL.iH !PL.gZ !PL.hG !PL.ik !PL.iE !PL.iu !PL.iA !PL.iO !PL.cY !PL.iK !PL.i4 !PL.jJ !PL.gU !PL.bj !PL.bg !PL.aW !PL.bz !PL.eR !PL.jx !PL.ir !PL.jB !PL.dR !PL.fw !PL.eX !PL.d3 !PL.fI !PL.fN !PL.hV !PL.fq !PL.eY !PL.fU !PL.cZ !PL.dD !PL.fP !PL.fC !PL.i6 !PL.gp !PL.gf !PL.jC !PL.d8 !PL.fm !PL.fG !PL.eA !PL.eV !PL.dW !PL.fE PL.gX PL.d9 PL.bI PL.cD PL.bY PL.d7 PL.bM PL.er PL.erL PL.aT PL.bB PL.dO PL.dN PL.lend PL.back PL.outs PL.frA PL.lT j_ N6 N4 NF QC Ph NG MV O6 List.zipWith_cons_cons List.zipWith_nil_left Option.map_some PL.Th.v if_true if_false Mp.gv Nat.reduceAdd Nat.reduceSub Nat.reduceLeDiff PL.fx PL.dF PL.ju PL.jF PL.jH PL.jt PL.jz PL.jD PL.jE PL.jA PL.cT PL.bC PL.dY PL.bf PL.eQ PL.aY PL.aK PL.aR PL.ck PL.cO PL.cG PL.eJ PL.cn PL.dA PL.cm PL.bT PL.bZ PL.fg PL.cu e_ Oi a_ List.zipWith_nil_right decide_eq_true_eq decide_true decide_false Po Pc NN Nu Bool.and_self C' true_and and_true Ol O4 PySem.sizeLine_eq !PL.iD !PL.iU !PL.i8 !PL.i7 !PL.hU Mp.hJ Mp.dg Mp.bS Mp.cv !Mp.fA !Mp.fu !Mp.eD Mp.bU Mp.f9 Mp.iJ Mp.dk Mp.cp Mp.cF !Mp.f6 !Mp.fD !Mp.eE !Mp.eh Mp.cL !Mp.fF !Mp.gm Mp.dE Mp.bP Mp.dq Mp.gx Mp.jy Mp.aU Mp.iS Mp.dm Mp.cJ Mp.bV !Mp.iy Mp.du Mp.gG Mp.cI Mp.bX !Mp.eC !Mp.eW Mp.gR Mp.cx Mp.cA !Mp.fZ !Mp.fj !Mp.eS !Mp.dU Mp.gL Mp.cg Mp.bR Mp.cE !PL.gc !PL.jG Mp.je Mp.gM Mp.bO Mp.d6 Mp.gQ Mp.cq Mp.cc Mp.dv !PL.fv !PL.aX Mp.gJ Mp.cH Mp.cK Mp.fH Mp.bW Mp.dB Mp.gK Mp.cf Mp.bQ Mp.bJ !PL.iw !PL.dS !PL.g9 !Mp.dy !PL.cj !PL.bL PL.dZ !PL.eG !PL.e9 !Mp.de Mp.gF Mp.cB Mp.bK !Mp.fB !Mp.fT !Mp.eB !Mp.fL Mp.gE Mp.bN Mp.bA Mp.bD Mp.fy !Mp.fR !Mp.i5 Mp.gP Mp.cw Mp.hZ Mp.cC Mp.cz !Mp.eI !PL.fS !PL.dr !Mp.gW !Mp.mH Mp.lY".splitOn " ").toArray.mapM λs=>let i:Lean.Ident:=Lean.mkIdent (s.replace "!" "").toName;if s.front=='!' then `(Lean.Parser.Tactic.simpLemma|↓$i:ident) else `(Lean.Parser.Tactic.simpLemma|$i:ident)
 `(tactic| simp only[$l,*])
local macro_rules | `(tactic| walk_at "take")=>`(tactic| refine⟨_,_,_,rfl,by lia,by first|decide|lia,by first|decide|lia,?_⟩)
namespace Mp
open PySem L2 PL
def nE:FP:=λts k=>∃q:Qt,ts=[qtT q]/\q.2.2<4/\k (ptP (vj q)) ts
variable {f:Rt}{fd:RP}
section
variable{P:RC}{w:RK}{K:Rr}{mg:Str->Option Rq}{base:RM}
theorem lZ:FnScope ["quarter","inner"] ["quarter"] (aA kE):=⟨rfl,rfl,rfl,by decide +kernel,rfl,by decide +kernel,by decide +kernel⟩
theorem sD(F:Fun K "inner_point" "inner_point" kE f fd)(TX:Txt mg)(C_INNER:Glb K mg "INNER" As) :FnOk P w K mg base CX0 1 f fd ["quarter"] (aI K 1 nE):=by refine cN F lZ [true] rfl (λcdv A outer s H E hr=>?_);have sc:=@lZ;refine⟨_,(ai (aC (i:=1) sc.nd (by rfl) (bt rfl) (by rfl) (aD (az hr (Mf C_INNER (by rfl)) (az hr (af 0) ge_int)))) (aq (aH (aD (aB (ae (aj ay (aj cW ge_int (az hr (af 0) ge_int)) (az hr (af 1) ge_int)) (ae (aj ay (aj cW ge_int (az hr (af 0) ge_int)) (az hr (af 1) ge_int)) ag))))))),λts kk hl hp=>?_⟩;clear hl;obtain⟨p,rfl,hs,q⟩:=hp;walk_at "go";refine aZ (Jj hs) ?_;walk_at "go";exact⟨c4 _,c4 _,q⟩
end
def mB:FP:=λts k=>∃t c,ts=[t]/\lS t=some c/\k (.bl (decide (c=.int))) ts
section
variable{P:RC}{w:RK}{K:Rr}{mg:Str->Option Rq}{base:RM}
theorem oI:FnScope ["thing"] ["thing"] (aA mQ):=⟨rfl,rfl,rfl,by decide +kernel,rfl,by decide +kernel,by decide +kernel⟩
theorem w6(F:Fun K "is_number" "is_number" mQ f fd)(TX:Txt mg)  :FnOk P w K mg base CX0 1 f fd ["thing"] (aI K 1 mB):=by
 refine cN F oI [true] rfl (λcdv A outer s H E hr=>?_);have sc:=@oI;refine⟨_,(aq (aH (aD (kg (aF nU (by rfl) TX.isinstance (by decide +kernel) (ae (af 0) (ae (A5 (n:="int") (by rfl) TX.int (by decide +kernel)) ag))) (pH (IC (aF nU (by rfl) TX.isinstance (by decide +kernel) (ae (af 0) (ae (A5 (n:="bool") (by rfl) TX.bool (by decide +kernel)) ag))))))))),λts kk hl hp=>?_⟩;clear hl;obtain⟨t,c,rfl,ht,q⟩:=hp;walk_at "go";refine⟨gC ht,aZ ht ?_⟩;walk_at "go";refine m5 (λh=>?_) (λh=>?_)
 ·walk_at "go";refine⟨gC ht,aZ ht ?_⟩;walk_at "go";have e:(!isA c .bl)=decide (c=.int):=by cases c <;> first|rfl|exact absurd h (by decide)
  rw[e];exact q
 walk_at "go";have e:false=decide (c=.int):=by cases c <;> first|rfl|exact absurd h (by decide)
 rw[e];exact q
end
def pq:FP:=λts k=>∃t c,ts=[t]/\lS t=some c/\k (.bl (EW c)) ts
section
variable{P:RC}{w:RK}{K:Rr}{mg:Str->Option Rq}{base:RM}
theorem ud:FnScope ["thing"] ["thing"] (aA sT):=⟨rfl,rfl,rfl,by decide +kernel,rfl,by decide +kernel,by decide +kernel⟩
theorem B7(F:Fun K "is_row" "is_row" sT f fd)(TX:Txt mg)  :FnOk P w K mg base CX0 1 f fd ["thing"] (aI K 1 pq):=by refine cN F ud [true] rfl (λcdv A outer s H E hr=>?_);have sc:=@ud;refine⟨_,(aq (aH (aD (aF nU (by rfl) TX.isinstance (by decide +kernel) (ae (af 0) (ae (aB (ae (A5 (n:="list") (by rfl) TX.list (by decide +kernel)) (ae (A5 (n:="tuple") (by rfl) TX.tuple (by decide +kernel)) ag))) ag)))))),λts kk hl hp=>?_⟩;clear hl;obtain⟨t,c,rfl,ht,q⟩:=hp;walk_at "go";refine⟨gC ht,aZ ht ?_⟩;walk_at "go";exact q
end
def nF:FP:=λts k=>∃t n,ts=[t,.int (n:Nat)]/\Kd t/\(∀us,items t=some us->us.length<sizeLine)/\k (.bl (nums t n)) ts
section
variable{P:RC}{w:RK}{K:Rr}{mg:Str->Option Rq}{base:RM}
theorem mL:FnScope ["thing","many"] ["thing","many"] (aA kD):=⟨rfl,rfl,rfl,by decide +kernel,rfl,by decide +kernel,by decide +kernel⟩
theorem sR(F:Fun K "are_numbers" "are_numbers" kD f fd)(TX:Txt mg)  (wn:Cal P w K mg base 1 "is_number" ["thing"] (aI K 1 mB))(wr:Cal P w K mg base 1 "is_row" ["thing"] (aI K 1 pq)):FnOk P w K mg base CX0 2 f fd ["thing","many"] (aI K 2 nF):=by
 refine cN F mL [true,true] rfl (λcdv A outer s H E hr=>?_);have sc:=@mL;have nd1:(["part"]:List Str).Nodup:=by decide +kernel
 refine⟨_,(aq (aH (aD (kg (av wr hr (by rfl) (ah (af 0) ax)) (kg (iR (cS hr) (aF j5 (by rfl) TX.len (by decide +kernel) (ae (af 0) ag)) (af 1) (aM _)) (pH (aF (nr rfl) (by rfl) TX.all (by decide +kernel) (ae (bE sc ["part"] [none] nd1 (by decide +kernel) (cM (af 0)) (λ_ _ _=>(au (i:=0) nd1 (by rfl) (bt rfl) (by rfl) (hf:=(i' rfl)))) (λ_ _ _=>bG) (λ_ _ _=>(av wn hr (by rfl) (ah (af 0) ax)))) ag)))))))),λts kk hl hp=>?_⟩;clear hl;obtain⟨t,n,rfl,⟨⟨c,ht⟩,hu⟩,hz,q⟩:=hp;walk_at "go";refine⟨gC ht,er t,c,rfl,by rw[cL];exact ht,?_⟩;walk_at "go";have hr:=tR ht;refine m5 (λh=>?_) (λh=>?_)
 ·rw[h]at hr;obtain⟨us,eu⟩:=OG.mp hr;have eu2:items (er t)=some (erL us):=by rw[ji,eu];rfl
  walk_at "go";refine⟨gC ht,zV eu2 ?_⟩;walk_at "go";have en:nums t n=(decide (us.length=n)&&us.all isI):=by unfold nums;rw[eu]
  rw[en]at q;refine aO (λh2=>?_) (λh2=>?_)
  ·have h2:us.length=n:=by rw[jc]at h2;lia
   rw[decide_eq_true h2,Nu]at q;walk_at "go";refine⟨gC ht,aZ eu2 ?_⟩;walk_at "go";refine Gp (λu=>[.bl (isI u)]) (λie=>∃z,ie=[z]) (by rw[jc];exact hz us eu) ⟨_,rfl⟩ ?_ ?_
   ·rintro i u _ eu3 ⟨z,rfl⟩;obtain⟨u0,e0,rfl⟩:∃u0,us[i]?=some u0/\u=er u0:=by rw[lI]at eu3;exact bo eu3
    obtain⟨c0,hc0⟩:=hu us eu u0 (B' e0);walk_at "go";refine⟨gC hc0,er u0,c0,rfl,by rw[cL];exact hc0,?_⟩;walk_at "go";refine⟨?_,_,rfl⟩;rw[BC eu3,yy];unfold isI;rw[hc0];congr 3;simp only[Oe]
   rintro _ ⟨z,rfl⟩;walk_at "go";have e:(MZ isI (erL us)).all id=us.all isI:=by rw[lI,z_,NV];congr 1;funext u;exact yy
   rw[e];exact q
  have h2:us.length≠n:=by rw[jc]at h2;lia
  rw[decide_eq_false h2,Nw]at q;walk_at "go";exact q
 rw[h]at hr;have en:nums t n=false:=by
  unfold nums;cases hi:items t with
  |none=>rfl
  |some us=>rw[hi]at hr;cases hr
 rw[en]at q;walk_at "go";exact q
end
def uL:FP:=λts k=>∃(o:Bool) (ps:List Pt),ts=[.lst o (ps.map ptP)]/\ps≠[]/\ps.length<sizeLine/\∀oc,Hv ps oc->k (ocT oc) ts
section
variable{P:RC}{w:RK}{K:Rr}{mg:Str->Option Rq}{base:RM}
theorem rm:FnScope ["corners","bounds","numbers"] ["corners"] (aA pS):=⟨rfl,rfl,rfl,by decide +kernel,rfl,by decide +kernel,by decide +kernel⟩
theorem yw(F:Fun K "octo_of" "octo_of" pS f fd)(TX:Txt mg)  :FnOk P w K mg base CX0 1 f fd ["corners"] (aI K 1 uL):=by
 refine cN F rm [true] rfl (λcdv A outer s H E hr=>?_);have sc:=@rm;have nd1:(["corner"]:List Str).Nodup:=by decide +kernel
 have nd2:(["corner"]:List Str).Nodup:=by decide +kernel
 have nd3:(["corner"]:List Str).Nodup:=by decide +kernel
 have nd4:(["corner"]:List Str).Nodup:=by decide +kernel
 refine⟨_,(ai (aC (i:=1) sc.nd (by rfl) (bt rfl) (by rfl) (aD (aP ag))) (ai (dM RU (by rfl) (cM (aB (ae (aD (bE sc ["corner"] [none] nd4 (by decide +kernel) (cM (af 0)) (λ_ _ _=>(au (i:=0) nd4 (by rfl) (bt rfl) (by rfl) (hf:=(i' rfl)))) (λ_ _ _=>bG) (λ_ _ _=>(az hr (af 0) ge_int)))) (ae (aD (bE sc ["corner"] [none] nd3 (by decide +kernel) (cM (af 0)) (λ_ _ _=>(au (i:=0) nd3 (by rfl) (bt rfl) (by rfl) (hf:=(i' rfl)))) (λ_ _ _=>bG) (λ_ _ _=>(az hr (af 0) ge_int)))) (ae (aD (bE sc ["corner"] [none] nd2 (by decide +kernel) (cM (af 0)) (λ_ _ _=>(au (i:=0) nd2 (by rfl) (bt rfl) (by rfl) (hf:=(i' rfl)))) (λ_ _ _=>bG) (λ_ _ _=>(aj ay (az hr (af 0) ge_int) (az hr (af 0) ge_int))))) (ae (aD (bE sc ["corner"] [none] nd1 (by decide +kernel) (cM (af 0)) (λ_ _ _=>(au (i:=0) nd1 (by rfl) (bt rfl) (by rfl) (hf:=(i' rfl)))) (λ_ _ _=>bG) (λ_ _ _=>(aj aV (az hr (af 0) ge_int) (az hr (af 0) ge_int))))) ag)))))) (au (i:=2) sc.nd (by rfl) (bt rfl) (by rfl)) (ai (ja (lN 1 Tc Td l9 (ae (aD (aF (jk rfl) (by rfl) TX.min (by decide +kernel) (ae (af 2) ag))) ag))) (aq (ja (lN 1 Tc Td l9 (ae (aD (aF (k8 rfl) (by rfl) TX.max (by decide +kernel) (ae (af 2) ag))) ag)))))) (aq (aH (aD (aL iP (by rfl) TX.tuple (by decide +kernel) (ae (af 1) ag))))))),λts kk hl hp=>?_⟩;clear hl;obtain⟨o,ps,rfl,jp,hz,q⟩:=hp;have hne':∀j,ps.map (gO j)≠[]:=λj z=>jp (Np.mp z);walk_at "go";refine aQ (by rw[a_];exact hz) (λi acc ie=>∃z,acc=(ps.take i).map (λp=>T.int (gO 0 p))/\ie=[z]) ⟨_,rfl,rfl⟩ ?_ ?_
 ·rintro i u _ _ ⟨z,rfl,rfl⟩ eu;obtain⟨p,ep,rfl⟩:=bo eu;walk_at "go";exact⟨_,by rw[map_take ep];rfl,rfl⟩
 rintro _ _ ⟨z,rfl,rfl⟩;rw[a_,yp];walk_at "go";refine aQ (by rw[a_];exact hz) (λi acc ie=>∃z,acc=(ps.take i).map (λp=>T.int (gO 1 p))/\ie=[z]) ⟨_,rfl,rfl⟩ ?_ ?_
 ·rintro i u _ _ ⟨z,rfl,rfl⟩ eu;obtain⟨p,ep,rfl⟩:=bo eu;walk_at "go";exact⟨_,by rw[map_take ep];rfl,rfl⟩
 rintro _ _ ⟨z,rfl,rfl⟩;rw[a_,yp];walk_at "go";refine aQ (by rw[a_];exact hz) (λi acc ie=>∃z,acc=(ps.take i).map (λp=>T.int (gO 2 p))/\ie=[z]) ⟨_,rfl,rfl⟩ ?_ ?_
 ·rintro i u _ _ ⟨z,rfl,rfl⟩ eu;obtain⟨p,ep,rfl⟩:=bo eu;walk_at "go";exact⟨_,by rw[map_take ep];rfl,rfl⟩
 rintro _ _ ⟨z,rfl,rfl⟩;rw[a_,yp];walk_at "go";refine aQ (by rw[a_];exact hz) (λi acc ie=>∃z,acc=(ps.take i).map (λp=>T.int (gO 3 p))/\ie=[z]) ⟨_,rfl,rfl⟩ ?_ ?_
 ·rintro i u _ _ ⟨z,rfl,rfl⟩ eu;obtain⟨p,ep,rfl⟩:=bo eu;walk_at "go";exact⟨_,by rw[map_take ep];rfl,rfl⟩
 rintro _ _ ⟨z,rfl,rfl⟩;rw[a_,yp];walk_at "go";have eL:[T.lst false (MZ (λp=>T.int (gO 0 p)) ps),T.lst false (MZ (λp=>T.int (gO 1 p)) ps),T.lst false (MZ (λp=>T.int (gO 2 p)) ps),T.lst false (MZ (λp=>T.int (gO 3 p)) ps)]=(w_ 4).map λj=>T.lst false (MZ (λp=>T.int (gO j p)) ps):=rfl;rw[eL];refine cQ (λi env=>∃(f:Nat->Int×Int) (z:T),(∀j,j<i->jS (ps.map (gO j)) (f j).1/\jT (ps.map (gO j)) (f j).2)/\env=[.lst o (ps.map ptP),.lst true ((w_ i).flatMap λj=>[.int (f j).1,.int (f j).2]),z]) ⟨λ_=>(0,0),_,λj hj=>by lia,rfl⟩ ?_ ?_
 ·rintro i t _ ⟨f,z,hf,rfl⟩ ei;obtain⟨j,ej,rfl⟩:=bo ei;have hi:i<4:=by have:=(c_.mp ej).1;rwa[NC]at this
  rw[N3 hi]at ej;cases ej;have ll:∀n,((w_ n).flatMap λj=>[T.int (f j).1,T.int (f j).2]).length=2*n:=λn=>by
   induction n with
   |zero=>rfl
   |succ n ih=>rw[NA,OC,f',ih];rfl
  walk_at "go";refine⟨hne' i,λm hm=>⟨by rw[ll];lia,hne' i,λM hM=>⟨by rw[f',ll];show 2*i+1<_;lia,λj=>if j=i then(m,M)else f j,.lst false (ps.map λp=>T.int (gO i p)),λj hj=>?_,by rw[DC]⟩⟩⟩;show jS _ (if j=i then(m,M)else f j).1/\jT _ (if j=i then(m,M)else f j).2;by_cases e:j=i
  ·rw[if_pos e,e];exact⟨hm,hM⟩
  rw[if_neg e];exact hf j (by lia)
 rintro _ ⟨f,z,hf,rfl⟩;have e4:(w_ (MZ (λj=>T.lst false (MZ (λp=>T.int (gO j p)) ps)) (w_ 4)).length).flatMap (λj=>[T.int (f j).1,T.int (f j).2])=[T.int (f 0).1,T.int (f 0).2,T.int (f 1).1,T.int (f 1).2,T.int (f 2).1,T.int (f 2).2,T.int (f 3).1,T.int (f 3).2]:=by rw[a_];rfl
 rw[e4];rw[a_]at hf;have f0:=hf 0 (by decide);have f1:=hf 1 (by decide);have f2:=hf 2 (by decide);have f3:=hf 3 (by decide);walk_at "go";exact q ⟨(f 0).1,(f 0).2,(f 1).1,(f 1).2,(f 2).1,(f 2).2,(f 3).1,(f 3).2⟩ ⟨⟨f0,f1⟩,f2,f3⟩
end
def Ay:FP:=λts k=>∃o q,ts=[ocT o,ocT q]/\k (ocT (BN o q)) ts
section
variable{P:RC}{w:RK}{K:Rr}{mg:Str->Option Rq}{base:RM}
theorem xY:FnScope ["one","other"] ["one","other"] (aA w9):=⟨rfl,rfl,rfl,by decide +kernel,rfl,by decide +kernel,by decide +kernel⟩
theorem En(F:Fun K "added" "added" w9 f fd)(TX:Txt mg)  :FnOk P w K mg base CX0 1 f fd ["one","other"] (aI K 2 Ay):=by
 refine cN F xY [true,true] rfl (λcdv A outer s H E hr=>?_);have sc:=@xY;have nd1:(["bound","more"]:List Str).Nodup:=by decide +kernel
 refine⟨_,(aq (aH (aD (aL iP (by rfl) TX.tuple (by decide +kernel) (ae (bE sc ["bound","more"] [none,none] nd1 (by decide +kernel) (JZ (by rfl) TX.zip (ae (af 0) (ae (af 1) ag))) (λ_ _ _=>(iX (n:=2) (by rfl) (aE (au (i:=0) nd1 (by rfl) (bt rfl) (by rfl) (hf:=(i' rfl))) (aE (au (i:=1) nd1 (by rfl) (bt rfl) (by rfl) (hf:=(i' rfl))) gA)))) (λ_ _ _=>bG) (λ_ _ _=>(aj ay (af 0) (af 1)))) ag))))),λts kk hl hp=>?_⟩;clear hl;obtain⟨o,q',rfl,q⟩:=hp;have e1:∀o:Oc,ocT o=.tup ((ocL o).map T.int):=λo=>rfl;rw[e1,e1];walk_at "go";have ez:(MZ (λp=>T.tup [p.1,p.2]) ((MZ (λx=>T.int x) (ocL o)).zip (MZ (λx=>T.int x) (ocL q'))))=((ocL o).zip (ocL q')).map λp=>T.tup [.int p.1,.int p.2]:=by rw[List.zip_map,z_];rfl
 rw[ez];refine aQ (by rw[a_];show 8<sizeLine;decide) (λi acc ie=>∃z1 z2,acc=(((ocL o).zip (ocL q')).take i).map (λp=>T.int (p.1+p.2))/\ie=[z1,z2]) ⟨_,_,rfl,rfl⟩ ?_ ?_
 ·rintro i u _ _ ⟨z1,z2,rfl,rfl⟩ eu;obtain⟨p,ep,rfl⟩:=bo eu;walk_at "go";exact⟨_,_,by rw[map_take ep],rfl⟩
 rintro _ _ ⟨z1,z2,rfl,rfl⟩;rw[a_,yp];walk_at "go";exact q
end
def AS:FP:=λts k=>∃o p,ts=[ocT o,ptP p]/\k (ocT (BN o (oc1 p))) ts
section
variable{P:RC}{w:RK}{K:Rr}{mg:Str->Option Rq}{base:RM}
theorem xv:FnScope ["octo","corner"] ["octo","corner"] (aA vT):=⟨rfl,rfl,rfl,by decide +kernel,rfl,by decide +kernel,by decide +kernel⟩
theorem Er(F:Fun K "moved" "moved" vT f fd)(TX:Txt mg)  (AT:Cal P w K mg base 1 "octo_of" ["corners"] (aI K 1 uL))(o0:Cal P w K mg base 1 "added" ["one","other"] (aI K 2 Ay)):FnOk P w K mg base CX0 2 f fd ["octo","corner"] (aI K 2 AS):=by refine cN F xv [true,true] rfl (λcdv A outer s H E hr=>?_);have sc:=@xv;refine⟨_,(aq (aH (aD (av o0 hr (by rfl) (ah (af 0) (ah (av AT hr (by rfl) (ah (aP (ae (af 1) ag)) ax)) ax)))))),λts kk hl hp=>?_⟩;clear hl;obtain⟨o,p,rfl,q⟩:=hp;walk_at "go";refine⟨true,[p],rfl,(λz=>nomatch z),by show 1<sizeLine;decide,λoc h=>?_⟩;rw[LP h];walk_at "go";refine⟨o,oc1 p,rfl,?_⟩;walk_at "go";exact q
end
def ui:FP:=λts k=>∃o,ts=[ocT o]/\k (.bl (yh o)) ts
section
variable{P:RC}{w:RK}{K:Rr}{mg:Str->Option Rq}{base:RM}
theorem rn:FnScope ["octo"] ["octo"] (aA pF):=⟨rfl,rfl,rfl,by decide +kernel,rfl,by decide +kernel,by decide +kernel⟩
theorem yB(F:Fun K "is_flat" "is_flat" pF f fd)(TX:Txt mg)  :FnOk P w K mg base CX0 1 f fd ["octo"] (aI K 1 ui):=by
 refine cN F rn [true] rfl (λcdv A outer s H E hr=>?_);have sc:=@rn;refine⟨_,(aq (aH (aD (Dm (iR (cS hr) (az hr (af 0) ge_int) (az hr (af 0) ge_int) (aM _)) (Dm (iR (cS hr) (az hr (af 0) ge_int) (az hr (af 0) ge_int) (aM _)) (Dm (iR (cS hr) (az hr (af 0) ge_int) (az hr (af 0) ge_int) (aM _)) (pH (iR (cS hr) (az hr (af 0) ge_int) (az hr (af 0) ge_int) (aM _))))))))),λts kk hl hp=>?_⟩;clear hl;obtain⟨o,rfl,q⟩:=hp;walk_at "go";unfold yh at q;refine aO (λh1=>?_) (λh1=>?_)
 ·rw[decide_eq_true h1]at q;walk_at "go";exact q
 rw[decide_eq_false h1,Pn]at q;walk_at "go";refine aO (λh2=>?_) (λh2=>?_)
 ·rw[decide_eq_true h2]at q;walk_at "go";exact q
 rw[decide_eq_false h2,Pn]at q;walk_at "go";refine aO (λh3=>?_) (λh3=>?_)
 ·rw[decide_eq_true h3]at q;walk_at "go";exact q
 rw[decide_eq_false h3,Pn]at q;walk_at "go";exact q
end
def AK:FP:=λts k=>∃(o:Oc) (p:Qt),ts=[ocT o,qtT p]/\p.2.2<4/\k (.bl (inO o p)) ts
section
variable{P:RC}{w:RK}{K:Rr}{mg:Str->Option Rq}{base:RM}
theorem xk:FnScope ["octo","quarter","point","x","y"] ["octo","quarter"] (aA vg):=⟨rfl,rfl,rfl,by decide +kernel,rfl,by decide +kernel,by decide +kernel⟩
theorem CH(F:Fun K "holds" "holds" vg f fd)(TX:Txt mg)  (ut:Cal P w K mg base 1 "inner_point" ["quarter"] (aI K 1 nE)):FnOk P w K mg base CX0 2 f fd ["octo","quarter"] (aI K 2 AK):=by
 refine cN F xk [true,true] rfl (λcdv A outer s H E hr=>?_);have sc:=@xk;refine⟨_,(ai (aC (i:=2) sc.nd (by rfl) (bt rfl) (by rfl) (aD (av ut hr (by rfl) (ah (af 1) ax)))) (ai (aC (i:=3) sc.nd (by rfl) (bt rfl) (by rfl) (aD (az hr (af 2) ge_int))) (ai (aC (i:=4) sc.nd (by rfl) (bt rfl) (by rfl) (aD (az hr (af 2) ge_int))) (aq (aH (aD (kg (oN jP jP (aj cW ge_int (az hr (af 0) ge_int)) (af 3) (aj cW ge_int (az hr (af 0) ge_int))) (kg (oN jP jP (aj cW ge_int (az hr (af 0) ge_int)) (af 4) (aj cW ge_int (az hr (af 0) ge_int))) (kg (oN jP jP (aj cW ge_int (az hr (af 0) ge_int)) (aj ay (af 3) (af 4)) (aj cW ge_int (az hr (af 0) ge_int))) (pH (oN jP jP (aj cW ge_int (az hr (af 0) ge_int)) (aj aV (af 3) (af 4)) (aj cW ge_int (az hr (af 0) ge_int))))))))))))),λts kk hl hp=>?_⟩;clear hl;obtain⟨o,p,rfl,hs,q⟩:=hp;walk_at "go";refine⟨p,rfl,hs,?_⟩;walk_at "go";unfold inO at q;have no:¬inP o (vj p).1 (vj p).2->kk (.bl false) [ocT o,qtT p]:=λh=>by rw[decide_eq_false h]at q;exact q
 refine⟨c4 _,aO (λh0=>?_) (λh0=>?_)⟩
 rotate_left
 ·walk_at "go";exact no λh=>h0 h.1.1
 walk_at "go";refine⟨c4 _,aO (λh1=>?_) (λh1=>?_)⟩
 rotate_left
 ·walk_at "go";exact no λh=>h1 h.1.2
 walk_at "go";refine⟨c4 _,aO (λh2=>?_) (λh2=>?_)⟩
 rotate_left
 ·walk_at "go";exact no λh=>h2 h.2.1.1
 walk_at "go";refine⟨c4 _,aO (λh3=>?_) (λh3=>?_)⟩
 rotate_left
 ·walk_at "go";exact no λh=>h3 h.2.1.2
 walk_at "go";refine⟨c4 _,aO (λh4=>?_) (λh4=>?_)⟩
 rotate_left
 ·walk_at "go";exact no λh=>h4 h.2.2.1.1
 walk_at "go";refine⟨c4 _,aO (λh5=>?_) (λh5=>?_)⟩
 rotate_left
 ·walk_at "go";exact no λh=>h5 h.2.2.1.2
 walk_at "go";refine⟨c4 _,aO (λh6=>?_) (λh6=>?_)⟩
 rotate_left
 ·walk_at "go";exact no λh=>h6 h.2.2.2.1
 walk_at "go";refine⟨c4 _,?_⟩;rw[show decide (inP o (vj p).1 (vj p).2)=decide ((vj p).1-(vj p).2<4*o.h)from decide_eq_decide.mpr ⟨λh=>h.2.2.2.2,λh=>⟨⟨h0,h1⟩,⟨h2,h3⟩,⟨h4,h5⟩,h6,h⟩⟩]at q;exact q
end
def nD:FP:=λts k=>∃o:Oc,ts=[ocT o]/\yh o=false/\bdO o/\k (.lst true ((ocN o (o.b-o.a).toNat).map qtT)) ts
section
variable{P:RC}{w:RK}{K:Rr}{mg:Str->Option Rq}{base:RM}
theorem mI:FnScope ["octo","region","x","low","high","y"] ["octo"] (aA kH):=⟨rfl,rfl,rfl,by decide +kernel,rfl,by decide +kernel,by decide +kernel⟩
theorem rQ(F:Fun K "quarters_in" "quarters_in" kH f fd)(TX:Txt mg)  (v6:Cal P w K mg base 1 "is_flat" ["octo"] (aI K 1 ui))(u8:Cal P w K mg base 2 "holds" ["octo","quarter"] (aI K 2 AK)):FnOk P w K mg base CX0 3 f fd ["octo"] (aI K 1 nD):=by
 refine cN F mI [true] rfl (λcdv A outer s H E hr=>?_);have sc:=@mI;have nd1:(["side","y","x","octo"]:List Str).Nodup:=by decide +kernel
 refine⟨_,(ai (aC (i:=1) sc.nd (by rfl) (bt rfl) (by rfl) (aD (aP ag))) (ai (dI (jh (pQ (av v6 hr (by rfl) (ah (af 0) ax)))) (aq (aH (lR 1))) bc) (ai (dM RU (by rfl) (jZ (by rfl) TX.range (ae (aD (az hr (af 0) ge_int)) (ae (aD (az hr (af 0) ge_int)) ag))) (au (i:=2) sc.nd (by rfl) (i' rfl) (by rfl)) (ai (aC (i:=3) sc.nd (by rfl) (bt rfl) (by rfl) (aD (aF (k8 rfl) (by rfl) TX.max (by decide +kernel) (ae (az hr (af 0) ge_int) (ae (aj aV (aj aV (az hr (af 0) ge_int) (af 2)) ge_int) (ae (aj aV (af 2) (az hr (af 0) ge_int)) ag)))))) (ai (aC (i:=4) sc.nd (by rfl) (bt rfl) (by rfl) (aD (aF (jk rfl) (by rfl) TX.min (by decide +kernel) (ae (az hr (af 0) ge_int) (ae (aj aV (az hr (af 0) ge_int) (af 2)) (ae (aj aV (aj ay (af 2) ge_int) (az hr (af 0) ge_int)) ag)))))) (aq (dM RU (by rfl) (jZ (by rfl) TX.range (ae (cR 3) (ae (cR 4) ag))) (au (i:=5) sc.nd (by rfl) (i' rfl) (by rfl)) (aq (ja (lN 1 Vk Vl rP (ae (aD (bE sc ["side","y","x","octo"] [none,some 5,some 2,some 0] nd1 (by decide +kernel) (j6 (by rfl) TX.range (ae ge_int ag)) (λ_ _ _=>(au (i:=0) nd1 (by rfl) (bt rfl) (by rfl) (hf:=(i' rfl)))) (λ_ _ _=>(nZ (pQ (av u8 hr (by rfl) (ah (af 3) (ah (aB (ae (af 2) (ae (af 1) (ae (af 0) ag)))) ax)))))) (λ_ _ _=>(aB (ae (af 2) (ae (af 1) (ae (af 0) ag))))))) ag))))))))) (aq (aH (lR 1)))))),λts kk hl hp=>?_⟩;clear hl;obtain⟨o,rfl,hf,hb,q⟩:=hp;walk_at "go";refine⟨o,rfl,?_⟩;walk_at "go";rw[hf];walk_at "go";have ab:=hb.1.1;refine⟨by omega,cQ (λi env=>∃z2 z3 z4 z5,env=[ocT o,.lst true ((ocN o i).map qtT),z2,z3,z4,z5]) ⟨_,_,_,_,rfl⟩ ?_ ?_⟩
 ·rintro i t _ ⟨z2,z3,z4,z5,rfl⟩ ei;have hi:=j4 ei;have et:=lC ei;subst et;walk_at "go";rw[show max (max o.c (o.e-(o.a+i)-1)) (o.a+i-o.h)=tJ o (o.a+i)from rfl,show min (min o.d (o.f-(o.a+i))) (o.a+i+1-o.g)=BS o (o.a+i)from rfl];have lb:=Dg (x:=o.a+i) hb (by lia) (by omega);have ll:=Aw hb i (by lia);refine⟨by lia,cQ (λj env=>∃z5,env=[ocT o,.lst true ((ocN o i++ocC o (o.a+i) j).map qtT),.int (o.a+i),.int (tJ o (o.a+i)),.int (BS o (o.a+i)),z5]) ⟨_,by rw[show ocC o (o.a+i) 0=[]from rfl,H_]⟩ ?_ ?_⟩
  ·rintro j t _ ⟨z5,rfl⟩ ej;have hj:=j4 ej;have et:=lC ej;subst et;have l2:=AH (o:=o) (x:=o.a+i) j;have ec:ocC o (o.a+i) (j+1)=ocC o (o.a+i) j++cellQ (λs=>inO o (o.a+i,tJ o (o.a+i)+j,s)) (o.a+i) (tJ o (o.a+i)+j):=jm;rw[ec];generalize tJ o (o.a+i)+j=y at *;generalize o.a+(i:Int)=x at *;walk_at "go";refine⟨by decide,aQ (by rw[dC];decide) (λs acc ie=>∃z1,acc=(((w_ s).filter λs=>inO o (x,y,s)).map λs=>(x,y,s)).map qtT/\ie=[z1,.int y,.int x,ocT o]) ⟨_,rfl,rfl⟩ ?_ ?_⟩
   ·rintro s t _ _ ⟨z1,rfl,rfl⟩ es;have hs:s<4:=j4 es;have et:=lC es;subst et;rw[O9];walk_at "go";refine⟨o,(x,y,s),rfl,hs,?_⟩;walk_at "go";rw[NA,OM,l_,l_];refine m5 (λh=>?_) (λh=>?_)
    ·walk_at "go";exact⟨_,by rw[N1,h];rfl,rfl⟩
    walk_at "go";exact⟨_,by rw[N1,h];exact(H_ _).symm,rfl⟩
   rintro _ _ ⟨z1,rfl,rfl⟩;rw[dC];walk_at "go";have l3:=pZ (λs=>inO o (x,y,s)) x y;have l4:((w_ (Int.toNat 4)).filter λs=>inO o (x,y,s)).length=(cellQ (λs=>inO o (x,y,s)) x y).length:=(a_ ..).symm;exact⟨by rw[l4,f'];lia,_,by rw[<-gV,l_ (l₁:=_++_)];rfl⟩
  rintro _ ⟨z5,rfl⟩;rw[dC];have e1:ocN o (i+1)=ocN o i++_:=jm;exact⟨_,_,_,_,by rw[e1]⟩
 rintro _ ⟨z2,z3,z4,z5,rfl⟩;rw[dC];walk_at "go";exact q
end
def ux:FP:=λts k=>∃(b o:Bool) (t:Tl) (p:Pt),ts=[tlT b o t,ptP p]/\k (ocT (mkO t.1 t.2.1 p)) ts
section
variable{P:RC}{w:RK}{K:Rr}{mg:Str->Option Rq}{base:RM}
theorem rR:FnScope ["tool","corner","r","both"] ["tool","corner"] (aA pN):=⟨rfl,rfl,rfl,by decide +kernel,rfl,by decide +kernel,by decide +kernel⟩
theorem zJ(F:Fun K "mark_of" "mark_of" pN f fd)(TX:Txt mg)  (zn:Cal P w K mg base 2 "moved" ["octo","corner"] (aI K 2 AS)):FnOk P w K mg base CX0 3 f fd ["tool","corner"] (aI K 2 ux):=by refine cN F rR [true,true] rfl (λcdv A outer s H E hr=>?_);have sc:=@rR;refine⟨_,(ai (aC (i:=2) sc.nd (by rfl) (bt rfl) (by rfl) (aD (az hr (af 0) ge_int))) (ai (aC (i:=3) sc.nd (by rfl) (bt rfl) (by rfl) (aD (aj ay (az hr (af 0) ge_int) (az hr (af 0) ge_int)))) (aq (aH (aD (av zn hr (by rfl) (ah (aB (ae (kF (af 2)) (ae (af 2) (ae (kF (af 2)) (ae (af 2) (ae (kF (af 3)) (ae (af 3) (ae (kF (af 3)) (ae (af 3) ag))))))))) (ah (af 1) ax)))))))),λts kk hl hp=>?_⟩;clear hl;obtain⟨b,o,t,p,rfl,q⟩:=hp;walk_at "go";refine⟨⟨-t.1,t.1,-t.1,t.1,-(t.1+t.2.1),t.1+t.2.1,-(t.1+t.2.1),t.1+t.2.1⟩,p,rfl,?_⟩;walk_at "go";exact q
end
def jM:FP:=λts k=>∃(b o:Bool) (t:Tl),ts=[tlT b o t]/\tlO t/\k (.lst true ((nrQ t).map qtT)) ts
section
variable{P:RC}{w:RK}{K:Rr}{mg:Str->Option Rq}{base:RM}
theorem kT:FnScope ["tool"] ["tool"] (aA jR):=⟨rfl,rfl,rfl,by decide +kernel,rfl,by decide +kernel,by decide +kernel⟩
theorem qa(F:Fun K "near_quarters" "near_quarters" jR f fd)(TX:Txt mg)  (Da:Cal P w K mg base 3 "quarters_in" ["octo"] (aI K 1 nD))(xz:Cal P w K mg base 3 "mark_of" ["tool","corner"] (aI K 2 ux)):FnOk P w K mg base CX0 4 f fd ["tool"] (aI K 1 jM):=by refine cN F kT [true] rfl (λcdv A outer s H E hr=>?_);have sc:=@kT;refine⟨_,(aq (aH (aD (av Da hr (by rfl) (ah (av xz hr (by rfl) (ah (af 0) (ah (aB (ae ge_int (ae ge_int ag))) ax))) ax))))),λts kk hl hp=>?_⟩;clear hl;obtain⟨b,o,t,rfl,ht,q⟩:=hp;walk_at "go";refine⟨b,false,t,(0,0),rfl,?_⟩;walk_at "go";refine⟨mk0 t,rfl,(E9 ht).1,(E9 ht).2,?_⟩;walk_at "go";exact q
end
def vq:FP:=λts k=>∃(c o b u:Bool) (qs:List Qt),ts=[rgT c o b u qs]/\qs.Nodup/\qs.length<250000/\k (.dT true (dQ qs)) [rgT c false b false qs]
section
variable{P:RC}{w:RK}{K:Rr}{mg:Str->Option Rq}{base:RM}
theorem y6:FnScope ["region","there","quarter"] ["region"] (aA vx):=⟨rfl,rfl,rfl,by decide +kernel,rfl,by decide +kernel,by decide +kernel⟩
theorem Ef(F:Fun K "noted" "noted" vx f fd)(TX:Txt mg)  :FnOk P w K mg base CX0 1 f fd ["region"] (aI K 1 vq):=by
 refine cN F y6 [true] rfl (λcdv A outer s H E hr=>?_);have sc:=@y6;refine⟨_,(ai (aC (i:=1) sc.nd (by rfl) (bt rfl) (by rfl) (aD vI)) (ai (dM RU (by rfl) (cM (cR 0)) (au (i:=2) sc.nd (by rfl) (bt rfl) (by rfl)) (aq (vK jf (yZ (i:=1) hr (aD (aL iP (by rfl) TX.tuple (by decide +kernel) (ae (af 2) ag))))))) (aq (aH (lR 1))))),λts kk hl hp=>?_⟩;clear hl;obtain⟨c,o,b,u,qs,rfl,hd,hl,q⟩:=hp;walk_at "go";refine⟨rfl,cQ (λi env=>∃z,env=[rgT c false b false qs,.dT true (dQ (qs.take i)),z]) ⟨_,rfl⟩ ?_ ?_⟩
 ·rintro i t _ ⟨z,rfl⟩ ei;obtain⟨r,e1,rfl⟩:=bo ei;walk_at "go";have hn:=C6 hd e1;exact⟨by rw[rO,y_];lia,_,by rw[Nm,e1,Option.toList_some,<-yr hn];rfl⟩
 rintro _ ⟨z,rfl⟩;rw[a_,yp];walk_at "go";exact q
end
def jO:FP:=λts k=>∃(z o b u:Bool) (M:List Qt) (q:Qt),ts=[nrT z o M,qbT b u q]/\M.length<100000/\k (.lst true ((srP (abL M q)).map ptP)) ts
section
variable{P:RC}{w:RK}{K:Rr}{mg:Str->Option Rq}{base:RM}
theorem kR:FnScope ["near","quarter"] ["near","quarter"] (aA jN):=⟨rfl,rfl,rfl,by decide +kernel,rfl,by decide +kernel,by decide +kernel⟩
theorem qj(F:Fun K "corners_about" "corners_about" jN f fd)(TX:Txt mg)  :FnOk P w K mg base CX0 1 f fd ["near","quarter"] (aI K 2 jO):=by
 refine cN F kR [true,true] rfl (λcdv A outer s H E hr=>?_);have sc:=@kR;have nd1:(["x","y","side","quarter"]:List Str).Nodup:=by decide +kernel
 refine⟨_,(aq (aH (aD (aF gw (by rfl) TX.sorted (by decide +kernel) (ae (bE sc ["x","y","side","quarter"] [none,none,none,some 1] nd1 (by decide +kernel) (Jv (af 0)) (λ_ _ _=>(iX (n:=3) (by rfl) (aE (au (i:=0) nd1 (by rfl) (bt rfl) (by rfl) (hf:=(i' rfl))) (aE (au (i:=1) nd1 (by rfl) (bt rfl) (by rfl) (hf:=(i' rfl))) (aE (au (i:=2) nd1 (by rfl) (bt rfl) (by rfl) (hf:=(i' rfl))) gA))))) (λ_ _ _=>(nZ (br (cS hr) (af 2) (az hr (af 3) ge_int) (aM _)))) (λ_ _ _=>(aB (ae (aj aV (az hr (af 3) ge_int) (af 0)) (ae (aj aV (az hr (af 3) ge_int) (af 1)) ag))))) ag))))),λts kk hl hp=>?_⟩;clear hl;obtain⟨z,o,b,u,M,q',rfl,hl,q⟩:=hp;walk_at "go";refine aQ (by rw[a_,sizeLine_eq];lia) (λi acc ie=>∃z1 z2 z3,acc=(abL (M.take i) q').map ptP/\ie=[z1,z2,z3,qbT b false q']) ⟨_,_,_,rfl,rfl⟩ ?_ ?_
 ·rintro i t _ _ ⟨z1,z2,z3,rfl,rfl⟩ ei;obtain⟨m,em,rfl⟩:=bo ei;walk_at "go";rw[xr em,l_];refine aO (λh=>?_) (λh=>?_)
  ·walk_at "go";exact⟨_,_,_,by rw[if_pos h];rfl,rfl⟩
  walk_at "go";exact⟨_,_,_,by rw[if_neg h];exact(H_ _).symm,rfl⟩
 rintro _ _ ⟨z1,z2,z3,rfl,rfl⟩;rw[a_,yp];walk_at "go";refine vd ((abL M q').map jW) (by rw[HZ]) (A9 _) ?_;rw[ya];walk_at "go";exact q
end
def lP:FP:=λts k=>∃(o u:Bool) (M rs:List Qt) (p:Pt),ts=[.lst o (M.map qtT),ptP p,.dT u (dQ rs)]/\k (oqT (fsQ p rs M)) [.lst false (M.map qtT),ptP p,.dT u (dQ rs)]
section
variable{P:RC}{w:RK}{K:Rr}{mg:Str->Option Rq}{base:RM}
theorem kS:FnScope ["near","corner","there","x","y","side","laid"] ["near","corner","there"] (aA jQ):=⟨rfl,rfl,rfl,by decide +kernel,rfl,by decide +kernel,by decide +kernel⟩
theorem pJ(F:Fun K "first_missing" "first_missing" jQ f fd)(TX:Txt mg)  :FnOk P w K mg base CX0 1 f fd ["near","corner","there"] (aI K 3 lP):=by
 refine cN F kS [true,true,true] rfl (λcdv A outer s H E hr=>?_);have sc:=@kS;refine⟨_,(ai (dM RU (by rfl) (cM (cR 0)) (iX (n:=3) (by rfl) (aE (au (i:=3) sc.nd (by rfl) (bt rfl) (by rfl)) (aE (au (i:=4) sc.nd (by rfl) (bt rfl) (by rfl)) (aE (au (i:=5) sc.nd (by rfl) (bt rfl) (by rfl)) gA)))) (ai (aC (i:=6) sc.nd (by rfl) (bt rfl) (by rfl) (aD (aB (ae (aj ay (az hr (af 1) ge_int) (af 3)) (ae (aj ay (az hr (af 1) ge_int) (af 4)) (ae (af 5) ag)))))) (aq (dI (jh (br (n5 hr) (af 6) (af 2) (by with_unfolding_all rfl))) (aq (aH (lR 6))) bc)))) (aq (aH lA))),λts kk hl hp=>?_⟩;clear hl;obtain⟨o,u,M,rs,p,rfl,q⟩:=hp;walk_at "go";refine cQ (λi env=>∃z3 z4 z5 z6,fsQ p rs (M.drop i)=fsQ p rs M/\env=[.lst false (M.map qtT),ptP p,.dT u (dQ rs),z3,z4,z5,z6]) ⟨_,_,_,_,rfl,rfl⟩ ?_ ?_
 ·rintro i t _ ⟨z3,z4,z5,z6,ew,rfl⟩ ei;obtain⟨m,em,rfl⟩:=bo ei;rw[lu em,fsQ]at ew;walk_at "go";rw[show(kJ (dQ rs) [So (p.1+m.1),So (p.2+m.2.1),So (m.2.2:Int)]).isSome=decide (mvQ p m∈rs)from ql (q:=mvQ p m)];refine aO (λh=>?_) (λh=>?_)
  ·walk_at "go";rw[if_pos h]at ew;exact⟨_,_,_,_,ew,rfl⟩
  walk_at "go";rw[if_neg h]at ew;rw[<-ew]at q;exact q
 rintro _ ⟨z3,z4,z5,z6,ew,rfl⟩;rw[a_,NI]at ew;rw[<-ew]at q;walk_at "go";exact q
end
def rN:FP:=λts k=>∃(c o b u c2 o2 b2 u2 b3 u3:Bool) (rs:List Qt) (tl:List Tl) (q:Qt),ts=[rgT c o b u rs,tgT c2 o2 b2 u2 tl,qbT b3 u3 q]/\rs.Nodup/\rs.length<250000/\tl.length<100/\(∀t∈tl,tlO t)/\∀z1 z2 z3,k (wyT (wyN rs q 0 (tl.map nrQ))) [z1,z2,z3]
section
variable{P:RC}{w:RK}{K:Rr}{mg:Str->Option Rq}{base:RM}
theorem qt:FnScope ["region","tools","quarter","there","rows","number","tool","near","corner","missing"] ["region","tools","quarter"] (aA nT):=⟨rfl,rfl,rfl,by decide +kernel,rfl,by decide +kernel,by decide +kernel⟩
theorem wU(F:Fun K "why_left" "why_left" nT f fd)(TX:Txt mg)  (At:Cal P w K mg base 4 "near_quarters" ["tool"] (aI K 1 jM))(AC:Cal P w K mg base 1 "noted" ["region"] (aI K 1 vq))(re:Cal P w K mg base 1 "corners_about" ["near","quarter"] (aI K 2 jO))(sB:Cal P w K mg base 1 "first_missing" ["near","corner","there"] (aI K 3 lP)):FnOk P w K mg base CX0 5 f fd ["region","tools","quarter"] (aI K 3 rN):=by
 refine cN F qt [true,true,true] rfl (λcdv A outer s H E hr=>?_);have sc:=@qt;refine⟨_,(ai (aC (i:=3) sc.nd (by rfl) (bt rfl) (by rfl) (aD (av AC hr (by rfl) (ah (af 0) ax)))) (ai (aC (i:=4) sc.nd (by rfl) (bt rfl) (by rfl) (aD (aP ag))) (ai (dM RU (by rfl) (oA (by rfl) TX.enumerate (ae (cR 1) ag)) (iX (n:=2) (by rfl) (aE (au (i:=5) sc.nd (by rfl) (bt rfl) (by rfl)) (aE (au (i:=6) sc.nd (by rfl) (bt rfl) (by rfl)) gA))) (ai (aC (i:=7) sc.nd (by rfl) (bt rfl) (by rfl) (aD (av At hr (by rfl) (ah (af 6) ax)))) (aq (dM RU (by rfl) (cM (aD (av re hr (by rfl) (ah (af 7) (ah (af 2) ax))))) (au (i:=8) sc.nd (by rfl) (bt rfl) (by rfl)) (ai (aC (i:=9) sc.nd (by rfl) (bt rfl) (by rfl) (aD (av sB hr (by rfl) (ah (af 7) (ah (af 8) (ah (af 3) ax)))))) (ai (dI (jh (br vB (af 9) lA (aM _))) (aq (aH lA)) bc) (aq (ja (lN 4 Tc Td l9 (ae (aD (aB (ae (af 5) (ae (af 8) (ae (af 9) ag))))) ag)))))))))) (aq (aH (lR 4)))))),λts kk hl hp=>?_⟩;clear hl;obtain⟨c,o,b,u,c2,o2,b2,u2,b3,u3,rs,tl,q',rfl,hd,hl,ht,ho,q⟩:=hp;walk_at "go";refine⟨c,false,b,false,rs,rfl,hd,hl,?_⟩;walk_at "go";refine cQ (λi env=>∃(a:List Rw) (z5 z6 z7 z8 z9:T),(wyN rs q' i ((tl.map nrQ).drop i)).map (a++·)=wyN rs q' 0 (tl.map nrQ)/\a.length<=10000*i/\env=[rgT c o b u rs,tgT c2 false b2 false tl,qbT b3 u3 q',.dT true (dQ rs),.lst true (a.map nK),z5,z6,z7,z8,z9]) ⟨[],_,_,_,_,_,?_,A_ _,rfl⟩ ?_ ?_
 ·rw[NH];cases wyN rs q' 0 (tl.map nrQ) <;> rfl
 ·rintro i t _ ⟨a,z5,z6,z7,z8,z9,ew,la,rfl⟩ ei;obtain⟨t,et,rfl⟩:=oj rfl ei;have hi:i<tl.length:=(c_.mp et).1;have hto:=ho t (B' et);have ln:=qe hto;rw[lu (show(tl.map nrQ)[i]?=some (nrQ t) by rw[k_,et];rfl),wyN]at ew;generalize (tl.map nrQ).drop (i+1)=Ms at *;walk_at "go";refine⟨b2,false,t,rfl,hto,?_⟩;generalize nrQ t=M at *;walk_at "go";refine⟨false,false,b3,false,M,q',rfl,by lia,?_⟩;have lc:=pf (abL M q');have lb:=qQ M q';generalize srP (abL M q')=cs at *;walk_at "go";refine cQ (λj env=>∃(a':List Rw) (z8 z9:T),((wyC M rs i (cs.drop j)).bind λb=>(wyN rs q' (i+1) Ms).map (b++·)).map (a'++·)=wyN rs q' 0 (tl.map nrQ)/\a'.length<=10000*i+j/\env=[rgT c o b u rs,tgT c2 false b2 false tl,qbT b3 u3 q',.dT true (dQ rs),.lst true (a'.map nK),.int (i:Int),tlT b2 false t,.lst true (M.map qtT),z8,z9]) ⟨a,_,_,ew,by omega,rfl⟩ ?_ ?_
  ·rintro j t' _ ⟨a',z8,z9,ew',la',rfl⟩ ej;obtain⟨p,ep,rfl⟩:=bo ej;have hj:j<cs.length:=(c_.mp ep).1;rw[lu ep,wyC]at ew';walk_at "go";refine⟨false,false,M,rs,p,rfl,?_⟩;cases e:fsQ p rs M with
   |none=>
    rw[e]at ew';have ew':none=wyN rs q' 0 (tl.map nrQ):=ew';rw[<-ew']at q;show(_:Prop);dsimp only[oqT];walk_at "go";exact q _ _ _
   |some z=>
    rw[e]at ew';dsimp only[oqT];walk_at "go";refine⟨by lia,a'++[(i,p,z)],_,_,?_,by rw[f'];show a'.length+1<=_;lia,by rw[l_];rfl⟩;rw[<-ew'];exact AY
  rintro _ ⟨a',z8,z9,ew',la',rfl⟩;rw[a_,NI,wyC]at ew';rw[a_]at la';exact⟨a',_,_,_,_,_,by rw[<-ew'];cases wyN rs q' (i+1) Ms <;> rfl,by lia,rfl⟩
 rintro _ ⟨a,z5,z6,z7,z8,z9,ew,la,rfl⟩;rw[lX rfl,<-a_ (f:=nrQ),NI]at ew;have ew:some (a++[])=wyN rs q' 0 (tl.map nrQ):=ew;rw[<-ew,H_]at q;walk_at "go";exact q _ _ _
end
def tX:FP:=λts k=>∃(o:Bool) (ps:List Pt) (sp:Pt),ts=[.lst o (ps.map ptP),ptP sp]/\0<ps.length/\ps.length<1000/\(∀p∈ps,sm p)/\∀n:Int,k (.int n) [.lst false (ps.map ptP),ptP sp]
section
variable{P:RC}{w:RK}{K:Rr}{mg:Str->Option Rq}{base:RM}
theorem sW:FnScope ["_law_corners","_law_spot","_law_many","_law_k","_law_corner","_law_ahead","_law_low","_law_high","_law_slope","_law_start"] ["_law_corners","_law_spot"] (aA qr):=⟨rfl,rfl,rfl,by decide +kernel,rfl,by decide +kernel,by decide +kernel⟩
theorem yS(F:Fun K "_law_crossed" "_law_crossed" qr f fd)(TX:Txt mg)  :FnOk P w K mg base CX0 1 f fd ["_law_corners","_law_spot"] (aI K 2 tX):=by
 refine cN F sW [true,true] rfl (λcdv A outer s H E hr=>?_);have sc:=@sW;refine⟨_,(ai (aC (i:=2) sc.nd (by rfl) (bt rfl) (by rfl) ge_int) (ai (dM RU (by rfl) (oA (by rfl) TX.enumerate (ae (cR 0) ag)) (iX (n:=2) (by rfl) (aE (au (i:=3) sc.nd (by rfl) (bt rfl) (by rfl)) (aE (au (i:=4) sc.nd (by rfl) (bt rfl) (by rfl)) gA))) (ai (aC (i:=5) sc.nd (by rfl) (bt rfl) (by rfl) (aD (az hr (af 0) (aj aV (af 3) ge_int)))) (ai (sQ (i:=6) (j:=7) (by rfl) sc.nd (by rfl) (by rfl) (by decide) (by rfl) (by rfl) (by rfl) (by rfl) (ae (aD (aj cW (aF (jk rfl) (by rfl) TX.min (by decide +kernel) (ae (az hr (af 5) ge_int) (ae (az hr (af 4) ge_int) ag))) ge_int)) (ae (aD (aj cW (aF (k8 rfl) (by rfl) TX.max (by decide +kernel) (ae (az hr (af 5) ge_int) (ae (az hr (af 4) ge_int) ag))) ge_int)) ag)) (by rfl)) (aq (dI (jh (CU Cb jP (af 6) (az hr (af 1) ge_int) (af 7))) (ai (aC (i:=8) sc.nd (by rfl) (bt rfl) (by rfl) (aD (aj nj (aj aV (az hr (af 4) ge_int) (az hr (af 5) ge_int)) (aF (k8 rfl) (by rfl) TX.max (by decide +kernel) (ae ge_int (ae (aF qf (by rfl) TX.abs (by decide +kernel) (ae (aj aV (az hr (af 4) ge_int) (az hr (af 5) ge_int)) ag)) ag)))))) (bF (dI (jh (br jP (az hr (af 4) ge_int) (az hr (af 5) ge_int) (aM _))) (aq (aC (i:=8) sc.nd (by rfl) (bt rfl) (by rfl) (aD (kF (af 8))))) bc) (ai (aC (i:=9) sc.nd (by rfl) (bt rfl) (by rfl) (aD (aj cW ge_int (az hr (aP (ae (az hr (af 5) ge_int) (ae (az hr (af 4) ge_int) ag))) (aL jl (by rfl) TX.int (by decide +kernel) (ae (iR jP (az hr (af 4) ge_int) (az hr (af 5) ge_int) (aM _)) ag)))))) (aq (aC (i:=2) sc.nd (by rfl) (bt rfl) (by rfl) (aD (aj ay (af 2) (aL jl (by rfl) TX.int (by decide +kernel) (ae (iR zj (aj ay (af 9) (aj cW (af 8) (aj aV (az hr (af 1) ge_int) (af 6)))) (az hr (af 1) ge_int) (aM _)) ag))))))))) bc))))) (aq (aH (lR 2))))),λts kk hl hp=>?_⟩;clear hl;obtain⟨o,ps,sp,rfl,h0,h1,hs,q⟩:=hp;walk_at "go";refine cQ (λi env=>∃(n:Int) (z3 z4 z5 z6 z7 z8 z9:T),env=[.lst false (ps.map ptP),ptP sp,.int n,z3,z4,z5,z6,z7,z8,z9]) ⟨_,_,_,_,_,_,_,_,rfl⟩ ?_ ?_
 ·rintro i t _ ⟨n,z3,z4,z5,z6,z7,z8,z9,rfl⟩ ei;obtain⟨p,ep,rfl⟩:=oj rfl ei;have hi:i<ps.length:=(c_.mp ep).1;have sp1:=hs p (B' ep);walk_at "go";refine aZ (xJ (g:=ptP) (l:=ps) hi (0,0)) ?_;have sp2:=hs (ps.getD (oR ps.length i) (0,0)) (by
   rw[A'];have hj:oR ps.length i<ps.length:=by unfold oR;split <;> omega
   rw[d_ hj];exact Ni hj)
  generalize ps.getD (oR ps.length i) (0,0)=a at *;walk_at "go";refine⟨.inr ⟨by decide,by decide⟩,.inr ⟨by decide,by decide⟩,aO (λg1=>?_) (λg1=>?_)⟩
  ·walk_at "go";refine aO (λg2=>?_) (λg2=>?_)
   ·walk_at "go";obtain⟨s11,s12,s13,s14⟩:=sp1;obtain⟨s21,s22,s23,s24⟩:=sp2;refine⟨⟨by omega,by lia⟩,?_⟩;have sg:=Lz (p.1-a.1);generalize (p.1-a.1)/max 1 ((p.1-a.1).natAbs:Int)=σ at *;refine dG (λenv=>∃ σ:Int,-1<=σ/\σ<=1/\env=[T.lst false (MZ ptP ps),ptP sp,T.int n,T.int (i:Int),ptP p,ptP a,T.int (min a.2 p.2*8),T.int (max a.2 p.2*8),T.int σ,z9]) ?_ ?_
    ·walk_at "go";refine aO (λg=>?_) (λg=>?_)
     ·walk_at "go";exact⟨-σ,by lia,by lia,rfl⟩
     walk_at "go";exact⟨σ,by lia,by lia,rfl⟩
    rintro _ ⟨σ,g3,g4,rfl⟩;walk_at "go";refine aZ KQ ?_;walk_at "go";exact⟨.inl ⟨by decide,by decide⟩,.inl ⟨by lia,by lia⟩,_,_,_,_,_,_,_,_,rfl⟩
   walk_at "go";exact⟨_,_,_,_,_,_,_,_,rfl⟩
  walk_at "go";exact⟨_,_,_,_,_,_,_,_,rfl⟩
 rintro _ ⟨n,z3,z4,z5,z6,z7,z8,z9,rfl⟩;walk_at "go";exact q _
end
def xf:FP:=λts k=>∃(o:Bool) (ps:List Pt),ts=[.lst o (ps.map ptP)]/\0<ps.length/\ps.length<1000/\bdL 120 ps/\∀(qs:List Qt) (z:T),upQ qs->(∀q∈qs,okQ q)->qs.length<=230400->k (.dT true (dQ qs)) [z]
section
variable{P:RC}{w:RK}{K:Rr}{mg:Str->Option Rq}{base:RM}
theorem uE:FnScope ["_law_corners","_law_found","_law_xs","_law_ys","_law_x","_law_y","_law_side","_law_spot"] ["_law_corners"] (aA sF):=⟨rfl,rfl,rfl,by decide +kernel,rfl,by decide +kernel,by decide +kernel⟩
theorem BY(F:Fun K "_law_inside" "_law_inside" sF f fd)(TX:Txt mg)  (sn:Cal P w K mg base 1 "_law_crossed" ["_law_corners","_law_spot"] (aI K 2 tX)):FnOk P w K mg base CX0 2 f fd ["_law_corners"] (aI K 1 xf):=by
 refine cN F uE [true] rfl (λcdv A outer s H E hr=>?_);have sc:=@uE;have nd1:(["_law_corner"]:List Str).Nodup:=by decide +kernel
 have nd2:(["_law_corner"]:List Str).Nodup:=by decide +kernel
 refine⟨_,(ai (aC (i:=1) sc.nd (by rfl) (bt rfl) (by rfl) (aD vI)) (ai (oJ sc (i:=2) ["_law_corner"] [none] nd1 (by decide +kernel) (by rfl) (bt rfl) (by rfl) (cM (af 0)) (λ_ _ _=>(au (i:=0) nd1 (by rfl) (bt rfl) (by rfl) (hf:=(i' rfl)))) (λ_ _ _=>bG) (λ_ _ _=>(az hr (af 0) ge_int)) (by rfl)) (ai (oJ sc (i:=3) ["_law_corner"] [none] nd2 (by decide +kernel) (by rfl) (bt rfl) (by rfl) (cM (af 0)) (λ_ _ _=>(au (i:=0) nd2 (by rfl) (bt rfl) (by rfl) (hf:=(i' rfl)))) (λ_ _ _=>bG) (λ_ _ _=>(az hr (af 0) ge_int)) (by rfl)) (ai (dM RU (by rfl) (jZ (by rfl) TX.range (ae (aD (aF (jk rfl) (by rfl) TX.min (by decide +kernel) (ae (af 2) ag))) (ae (aD (aF (k8 rfl) (by rfl) TX.max (by decide +kernel) (ae (af 2) ag))) ag))) (au (i:=4) sc.nd (by rfl) (bt rfl) (by rfl)) (aq (dM RU (by rfl) (jZ (by rfl) TX.range (ae (aD (aF (jk rfl) (by rfl) TX.min (by decide +kernel) (ae (af 3) ag))) (ae (aD (aF (k8 rfl) (by rfl) TX.max (by decide +kernel) (ae (af 3) ag))) ag))) (au (i:=5) sc.nd (by rfl) (bt rfl) (by rfl)) (aq (dM RU (by rfl) (j6 (by rfl) TX.range (ae ge_int ag)) (au (i:=6) sc.nd (by rfl) (bt rfl) (by rfl)) (ai (aC (i:=7) sc.nd (by rfl) (bt rfl) (by rfl) (aD (aB (ae (aj ay (aj cW ge_int (af 4)) (az hr (aP (ae ge_int (ae ge_int (ae ge_int (ae ge_int ag))))) (af 6))) (ae (aj ay (aj cW ge_int (af 5)) (az hr (aP (ae ge_int (ae ge_int (ae ge_int (ae ge_int ag))))) (af 6))) ag))))) (aq (dI (jh (br (cS hr) (aj FO (av sn hr (by rfl) (ah (af 0) (ah (af 7) ax))) ge_int) ge_int (aM _))) (aq (vK jf (yZ (i:=1) hr (aD (aB (ae (af 4) (ae (af 5) (ae (af 6) ag)))))))) bc)))))))) (aq (aH (lR 1))))))),λts kk hl hp=>?_⟩;clear hl;obtain⟨o,ps,rfl,h0,h1,hb,q⟩:=hp;have jp:∀f:Pt->Int,ps.map f≠[]:=λf z=>by rw[Np]at z;rw[z]at h0;exact absurd h0 (by decide)
 walk_at "go";refine⟨rfl,aQ (by rw[a_,sizeLine_eq];lia) (λi acc ie=>∃z1,acc=(ps.take i).map (λp=>T.int p.1)/\ie=[z1]) ⟨_,rfl,rfl⟩ ?_ ?_⟩
 ·rintro i t _ _ ⟨z1,rfl,rfl⟩ ei;obtain⟨l,el,rfl⟩:=bo ei;walk_at "go";exact⟨_,by rw[map_take el],rfl⟩
 rintro _ _ ⟨z1,rfl,rfl⟩;rw[a_,yp];walk_at "go";refine aQ (by rw[a_,sizeLine_eq];lia) (λi acc ie=>∃z1,acc=(ps.take i).map (λp=>T.int p.2)/\ie=[z1]) ⟨_,rfl,rfl⟩ ?_ ?_
 ·rintro i t _ _ ⟨z1,rfl,rfl⟩ ei;obtain⟨l,el,rfl⟩:=bo ei;walk_at "go";exact⟨_,by rw[map_take el],rfl⟩
 rintro _ _ ⟨z1,rfl,rfl⟩;rw[a_,yp];walk_at "go";refine⟨jp _,λx0 hx0=>⟨jp _,λx1 hx1=>?_⟩⟩;obtain⟨y0,hy0⟩:=wu (l:=ps.map (·.2)) (by rw[a_];omega);obtain⟨y1,hy1⟩:=Fo (l:=ps.map (·.2)) (by rw[a_];omega);have bb:=JJ hb hx0 hx1 hy0 hy1;have hs:∀p∈ps,sm p:=λp m=>by obtain⟨⟨g1,g2⟩,g3,g4⟩:=jq hb m;exact⟨by lia,by lia,by lia,by lia⟩
 refine⟨by omega,cQ (λi env=>∃(qs:List Qt) (z4 z5 z6 z7:T),upQ qs/\(∀q∈qs,okQ q/\q.1<x0+i)/\qs.length<=960*i/\env=[.lst o (ps.map ptP),.dT true (dQ qs),.lst true (ps.map λp=>T.int p.1),.lst true (ps.map λp=>T.int p.2),z4,z5,z6,z7]) ⟨[],_,_,_,_,.nil,(λq m=>by cases m),A_ _,rfl⟩ ?_ ?_⟩
 ·rintro i t _ ⟨qs,z4,z5,z6,z7,u1,u2,u3,rfl⟩ ei;have hi:=j4 ei;have et:=lC ei;subst et;have kx:-1000<=x0+(i:Int)/\x0+(i:Int)<=1000:=⟨by lia,by omega⟩;walk_at "go";refine⟨jp _,λy0' hy0'=>?_⟩;cases GX hy0 hy0';refine⟨jp _,λy1' hy1'=>?_⟩;cases Hm hy1 hy1';clear hy0' hy1';refine⟨by omega,cQ (λj env=>∃(qs:List Qt) (z5 z6 z7:T),upQ qs/\(∀q∈qs,okQ q/\(q.1<x0+i\/q.1=x0+i/\q.2.1<y0+j))/\qs.length<=960*i+4*j/\env=[.lst o (ps.map ptP),.dT true (dQ qs),.lst true (ps.map λp=>T.int p.1),.lst true (ps.map λp=>T.int p.2),.int (x0+i),z5,z6,z7]) ⟨qs,_,_,_,u1,λq m=>⟨(u2 q m).1,.inl (u2 q m).2⟩,u3,rfl⟩ ?_ ?_⟩
  ·clear u1 u2 u3 qs;rintro j t _ ⟨qs,z5,z6,z7,u1,u2,u3,rfl⟩ ej;have hj:=j4 ej;have et:=lC ej;subst et;have ky:-1000<=y0+(j:Int)/\y0+(j:Int)<=1000:=⟨by lia,by omega⟩;walk_at "go";refine⟨by decide,cQ (λs env=>∃(qs:List Qt) (z6 z7:T),upQ qs/\(∀q∈qs,okQ q/\(q.1<x0+i\/q.1=x0+i/\(q.2.1<y0+j\/q.2.1=y0+j/\q.2.2<s)))/\qs.length<=960*i+4*j+s/\env=[.lst o (ps.map ptP),.dT true (dQ qs),.lst true (ps.map λp=>T.int p.1),.lst true (ps.map λp=>T.int p.2),.int (x0+i),.int (y0+j),z6,z7]) ⟨qs,_,_,u1,λq m=>⟨(u2 q m).1,(u2 q m).2.imp_right (PC .inl)⟩,u3,rfl⟩ ?_ ?_⟩
   ·clear u1 u2 u3 qs;rintro s t _ ⟨qs,z6,z7,u1,u2,u3,rfl⟩ es;have hs4:s<4:=j4 es;have et:=lC es;subst et;rw[O9];obtain⟨⟨v1,e1⟩,v2,e2⟩:=DZ hs4;walk_at "go";refine⟨.inl ⟨by decide,by decide⟩,aZ e1 ?_⟩;walk_at "go";refine⟨.inl ⟨by decide,by decide⟩,aZ e2 ?_⟩;walk_at "go";refine⟨false,ps,(8*(x0+i)+v1,8*(y0+j)+v2),rfl,h0,h1,hs,λn=>?_⟩;walk_at "go";refine⟨by decide,aO (λh=>?_) (λh=>?_)⟩
    ·walk_at "go";have gn:∀r∈qs,ltQ r (x0+i,y0+j,s):=λr m=>(u2 r m).2;refine⟨by rw[rO];lia,qs++[(x0+i,y0+j,s)],_,_,Hh u1 gn,GP u2 (λr g=>⟨g.1,LN g.2⟩) ⟨⟨kx,ky,hs4⟩,.inr ⟨rfl,.inr ⟨rfl,Nat.lt_succ_self _⟩⟩⟩,by rw[f'];show qs.length+1<=_;lia,by rw[<-yr (J1 gn)];rfl⟩
    walk_at "go";exact⟨qs,_,_,u1,λr m=>⟨(u2 r m).1,LN (u2 r m).2⟩,by lia,rfl⟩
   clear u1 u2 u3 qs;rintro _ ⟨qs,z6,z7,u1,u2,u3,rfl⟩;have u3:qs.length<=960*i+4*j+4:=u3;exact⟨qs,_,_,_,u1,λr m=>⟨(u2 r m).1,Mr (u2 r m).2 (by lia)⟩,by omega,rfl⟩
  clear u1 u2 u3 qs;rintro _ ⟨qs,z5,z6,z7,u1,u2,u3,rfl⟩;rw[dC]at u3;exact⟨qs,_,_,_,_,u1,λr m=>⟨(u2 r m).1,Mq (u2 r m).2 (by lia)⟩,by lia,rfl⟩
 rintro _ ⟨qs,z4,z5,z6,z7,u1,u2,u3,rfl⟩;rw[dC]at u3;walk_at "go";exact q qs _ u1 (λr m=>(u2 r m).1) (by lia)
end
def De:FP:=λts k=>∃x y w h,∃(o:Bool),∃a b c d,ts=[.int x,.int y,.int w,.int h,.lst o [.int a,.int b,.int c,.int d]]/\k (.lst true ((qk x y w h a b c d).map ptP)) [.int x,.int y,.int w,.int h,.lst false [.int a,.int b,.int c,.int d]]
section
variable{P:RC}{w:RK}{K:Rr}{mg:Str->Option Rq}{base:RM}
theorem Ey:FnScope ["_law_x","_law_y","_law_wide","_law_high","_law_cuts","_law_a","_law_b","_law_c","_law_d","_law_corners"] ["_law_x","_law_y","_law_wide","_law_high","_law_cuts"] (aA EO):=⟨rfl,rfl,rfl,by decide +kernel,rfl,by decide +kernel,by decide +kernel⟩
theorem JB(F:Fun K "_law_box" "_law_box" EO f fd)(TX:Txt mg)  :FnOk P w K mg base CX0 1 f fd ["_law_x","_law_y","_law_wide","_law_high","_law_cuts"] (aI K 5 De):=by
 refine cN F Ey [true,true,true,true,true] rfl (λcdv A outer s H E hr=>?_);have sc:=@Ey;have nd1:(["_law_k","_law_corner","_law_corners"]:List Str).Nodup:=by decide +kernel
 refine⟨_,(ai (vK (cR 4) (A2 (n:=4) (by rfl) (aE (au (i:=5) sc.nd (by rfl) (bt rfl) (by rfl)) (aE (au (i:=6) sc.nd (by rfl) (bt rfl) (by rfl)) (aE (au (i:=7) sc.nd (by rfl) (bt rfl) (by rfl)) (aE (au (i:=8) sc.nd (by rfl) (bt rfl) (by rfl)) gA)))))) (ai (aC (i:=9) sc.nd (by rfl) (i' rfl) (by rfl) (aD (aP (ae (aB (ae (aj ay (af 0) (af 5)) (ae (af 1) ag))) (ae (aB (ae (aj aV (aj ay (af 0) (af 2)) (af 6)) (ae (af 1) ag))) (ae (aB (ae (aj ay (af 0) (af 2)) (ae (aj ay (af 1) (af 6)) ag))) (ae (aB (ae (aj ay (af 0) (af 2)) (ae (aj aV (aj ay (af 1) (af 3)) (af 7)) ag))) (ae (aB (ae (aj aV (aj ay (af 0) (af 2)) (af 7)) (ae (aj ay (af 1) (af 3)) ag))) ag)))))))) (ai (aC (i:=9) sc.nd (by rfl) (i' rfl) (by rfl) (aD (aj ay (af 9) (aP (ae (aB (ae (aj ay (af 0) (af 8)) (ae (aj ay (af 1) (af 3)) ag))) (ae (aB (ae (af 0) (ae (aj aV (aj ay (af 1) (af 3)) (af 8)) ag))) (ae (aB (ae (af 0) (ae (aj ay (af 1) (af 5)) ag))) ag))))))) (aq (aH (aD (bE sc ["_law_k","_law_corner","_law_corners"] [none,none,some 9] nd1 (by decide +kernel) (oA (by rfl) TX.enumerate (ae (af 9) ag)) (λ_ _ _=>(A2 (n:=2) (by rfl) (aE (au (i:=0) nd1 (by rfl) (bt rfl) (by rfl) (hf:=(i' rfl))) (aE (au (i:=1) nd1 (by rfl) (bt rfl) (by rfl) (hf:=(i' rfl))) gA)))) (λ_ _ _=>(nZ (br (rg hr) (af 1) (az hr (af 2) (aj aV (af 0) ge_int)) (aM _)))) (λ_ _ _=>(af 1))))))))),λts kk hl hp=>?_⟩;clear hl;obtain⟨x,y,w,h,o,a,b,c,d,rfl,q⟩:=hp;walk_at "go";have el:[T.tup [T.int (x+a),T.int y],T.tup [T.int (x+w-b),T.int y],T.tup [T.int (x+w),T.int (y+b)],T.tup [T.int (x+w),T.int (y+h-c)],T.tup [T.int (x+w-c),T.int (y+h)],T.tup [T.int (x+d),T.int (y+h)],T.tup [T.int x,T.int (y+h-d)],T.tup [T.int x,T.int (y+a)]]=(yb x y w h a b c d).map ptP:=rfl;rw[el];have hl:8=(yb x y w h a b c d).length:=rfl;have hp:(yb x y w h a b c d).getD ((yb x y w h a b c d).length-1) (0,0)=(x,y+a):=rfl;unfold qk at q;generalize yb x y w h a b c d=ps at *;generalize (x,y+a)=p at *;refine aQ (by rw[lX hl,<-hl];decide) (λi acc ie=>∃z1 z2,acc=(ddl p (ps.take i)).map ptP/\ie=[z1,z2,.lst false (ps.map ptP)]) ⟨_,_,rfl,rfl⟩ ?_ ?_
 ·rintro i u _ _ ⟨z1,z2,rfl,rfl⟩ eu;obtain⟨c,ec,rfl⟩:=oj hl eu;have hi:i<ps.length:=(c_.mp ec).1;walk_at "go";refine aZ (xJ (g:=ptP) (l:=ps) hi (0,0)) ?_;walk_at "go";rw[DO hp ec];refine aO (λh=>?_) (λh=>?_)
  ·walk_at "go";rw[if_neg h];exact⟨_,_,by rw[l_];rfl,rfl⟩
  walk_at "go";rw[if_pos (Yb h),H_];exact⟨_,_,rfl,rfl⟩
 rintro _ _ ⟨z1,z2,rfl,rfl⟩;rw[lX hl,yp];walk_at "go";exact q
end
def xI:FP:=λts k=>∃x y w h m,ts=[.int x,.int y,.int w,.int h,.int m]/\bd 50 x/\bd 50 y/\5<=w/\w<=30/\5<=h/\h<=30/\∀(ps:List Pt),0<ps.length->ps.length<=12->bdL 110 ps->k (.lst true (ps.map ptP)) ts
section
variable{P:RC}{w:RK}{K:Rr}{mg:Str->Option Rq}{base:RM}
theorem uk:FnScope ["_law_x","_law_y","_law_wide","_law_high","_law_way","_law_u","_law_v","_law_rows","_law_p","_law_q"] ["_law_x","_law_y","_law_wide","_law_high","_law_way"] (aA rD):=⟨rfl,rfl,rfl,by decide +kernel,rfl,by decide +kernel,by decide +kernel⟩
theorem Bz(F:Fun K "_law_angled" "_law_angled" rD f fd)(TX:Txt mg)  :FnOk P w K mg base CX0 1 f fd ["_law_x","_law_y","_law_wide","_law_high","_law_way"] (aI K 5 xI):=by
 refine cN F uk [true,true,true,true,true] rfl (λcdv A outer s H E hr=>?_);have sc:=@uk;have nd1:(["_law_one","_law_other","_law_y","_law_x"]:List Str).Nodup:=by decide +kernel
 refine⟨_,(ai (sQ (i:=5) (j:=6) (by rfl) sc.nd (by rfl) (by rfl) (by decide) (by rfl) (by rfl) (by rfl) (by rfl) (ae (aD (aj ay ge_int (aj nj (af 2) ge_int))) (ae (aD (aj ay ge_int (aj nj (af 3) ge_int))) ag)) (by rfl)) (bF (dI (jh (br (cS hr) (af 4) ge_int (aM _))) (aq (aC (i:=7) sc.nd (by rfl) (bt rfl) (by rfl) (aD (aP (ae (aB (ae ge_int (ae ge_int ag))) (ae (aB (ae (af 2) (ae ge_int ag))) (ae (aB (ae (af 2) (ae (af 6) ag))) (ae (aB (ae (af 5) (ae (af 6) ag))) (ae (aB (ae (af 5) (ae (af 3) ag))) (ae (aB (ae ge_int (ae (af 3) ag))) ag)))))))))) (aq (dI (jh (br (cS hr) (af 4) ge_int (aM _))) (aq (aC (i:=7) sc.nd (by rfl) (bt rfl) (by rfl) (aD (aP (ae (aB (ae ge_int (ae ge_int ag))) (ae (aB (ae (af 2) (ae ge_int ag))) (ae (aB (ae (af 2) (ae (af 3) ag))) (ae (aB (ae (aj aV (af 2) (af 5)) (ae (af 3) ag))) (ae (aB (ae (aj aV (af 2) (af 5)) (ae (af 6) ag))) (ae (aB (ae (af 5) (ae (af 6) ag))) (ae (aB (ae (af 5) (ae (af 3) ag))) (ae (aB (ae ge_int (ae (af 3) ag))) ag)))))))))))) (ai (sQ (i:=8) (j:=9) (by rfl) sc.nd (by rfl) (by rfl) (by decide) (by rfl) (by rfl) (by rfl) (by rfl) (ae (aD (aj nj (af 3) ge_int)) (ae (aD (aj aV (af 3) (aj nj (af 3) ge_int))) ag)) (by rfl)) (ai (aC (i:=7) sc.nd (by rfl) (bt rfl) (by rfl) (aD (aP (ae (aB (ae ge_int (ae ge_int ag))) (ae (aB (ae (af 5) (ae ge_int ag))) (ae (aB (ae (af 5) (ae (af 8) ag))) (ae (aB (ae (aj aV (af 2) (af 5)) (ae (af 8) ag))) (ae (aB (ae (aj aV (af 2) (af 5)) (ae ge_int ag))) (ae (aB (ae (af 2) (ae ge_int ag))) (ae (aB (ae (af 2) (ae (af 3) ag))) (ae (aB (ae (aj aV (af 2) (af 5)) (ae (af 3) ag))) ag))))))))))) (aq (aC (i:=7) sc.nd (by rfl) (bt rfl) (by rfl) (aD (aj ay (af 7) (aP (ae (aB (ae (aj aV (af 2) (af 5)) (ae (af 9) ag))) (ae (aB (ae (af 5) (ae (af 9) ag))) (ae (aB (ae (af 5) (ae (af 3) ag))) (ae (aB (ae ge_int (ae (af 3) ag))) ag)))))))))))))) (aq (aH (aD (bE sc ["_law_one","_law_other","_law_y","_law_x"] [none,none,some 1,some 0] nd1 (by decide +kernel) (cM (af 7)) (λ_ _ _=>(iX (n:=2) (by rfl) (aE (au (i:=0) nd1 (by rfl) (bt rfl) (by rfl) (hf:=(i' rfl))) (aE (au (i:=1) nd1 (by rfl) (bt rfl) (by rfl) (hf:=(i' rfl))) gA)))) (λ_ _ _=>bG) (λ_ _ _=>(aB (ae (aj ay (af 3) (af 0)) (ae (aj ay (af 2) (af 1)) ag)))))))))),λts kk hl hp=>?_⟩;clear hl;obtain⟨x,y,w,h,m,rfl,⟨x0,x1⟩,⟨y0,y1⟩,w0,w1,h0,h1,q⟩:=hp;walk_at "go";refine⟨⟨by decide,by decide⟩,⟨by decide,by decide⟩,?_⟩;have b0:bd 50 0:=⟨by decide,by decide⟩;have bw:bd 50 w:=⟨by lia,by lia⟩;have bh:bd 50 h:=⟨by lia,by lia⟩;have bu:bd 50 (1+w/4):=⟨by lia,by lia⟩;have bv:bd 50 (1+h/3):=⟨by lia,by lia⟩;have bwu:bd 50 (w-(1+w/4)):=⟨by lia,by lia⟩;have bp:bd 50 (h/3):=⟨by lia,by lia⟩;have bq:bd 50 (h-h/3):=⟨by lia,by lia⟩;refine dG (λenv=>∃(rs:List Pt) (z8 z9:T),0<rs.length/\rs.length<=12/\bdL 50 rs/\env=[.int x,.int y,.int w,.int h,.int m,.int (1+w/4),.int (1+h/3),.lst true (rs.map ptP),z8,z9]) ?_ ?_
 ·walk_at "go";refine aO (λg=>?_) (λg=>?_)
  ·walk_at "go";exact⟨[(0,0),(w,0),(w,1+h/3),(1+w/4,1+h/3),(1+w/4,h),(0,h)],_,_,N0 _,NM rfl,⟨⟨b0,b0⟩,⟨bw,b0⟩,⟨bw,bv⟩,⟨bu,bv⟩,⟨bu,bh⟩,⟨b0,bh⟩,trivial⟩,rfl⟩
  walk_at "go";refine aO (λg=>?_) (λg=>?_)
  ·walk_at "go";exact⟨[(0,0),(w,0),(w,h),(w-(1+w/4),h),(w-(1+w/4),1+h/3),(1+w/4,1+h/3),(1+w/4,h),(0,h)],_,_,N0 _,NM rfl,⟨⟨b0,b0⟩,⟨bw,b0⟩,⟨bw,bh⟩,⟨bwu,bh⟩,⟨bwu,bv⟩,⟨bu,bv⟩,⟨bu,bh⟩,⟨b0,bh⟩,trivial⟩,rfl⟩
  walk_at "go";refine⟨⟨by decide,by decide⟩,⟨by decide,by decide⟩,?_⟩;exact⟨[(0,0),(1+w/4,0),(1+w/4,h/3),(w-(1+w/4),h/3),(w-(1+w/4),0),(w,0),(w,h),(w-(1+w/4),h),(w-(1+w/4),h-h/3),(1+w/4,h-h/3),(1+w/4,h),(0,h)],_,_,N0 _,NM rfl,⟨⟨b0,b0⟩,⟨bu,b0⟩,⟨bu,bp⟩,⟨bwu,bp⟩,⟨bwu,b0⟩,⟨bw,b0⟩,⟨bw,bh⟩,⟨bwu,bh⟩,⟨bwu,bq⟩,⟨bu,bq⟩,⟨bu,bh⟩,⟨b0,bh⟩,trivial⟩,rfl⟩
 rintro _ ⟨rs,z8,z9,l0,l1,hb,rfl⟩;walk_at "go";refine aQ (by rw[a_,sizeLine_eq];lia) (λi acc ie=>∃z1 z2,acc=(rs.take i).map (λp=>ptP (x+p.1,y+p.2))/\ie=[z1,z2,.int y,.int x]) ⟨_,_,rfl,rfl⟩ ?_ ?_
 ·rintro i u _ _ ⟨z1,z2,rfl,rfl⟩ eu;obtain⟨p,ep,rfl⟩:=bo eu;walk_at "go";exact⟨_,_,by rw[map_take ep];rfl,rfl⟩
 rintro _ _ ⟨z1,z2,rfl,rfl⟩;rw[a_,yp];walk_at "go";have e:rs.map (λp=>ptP (x+p.1,y+p.2))=(rs.map λp=>((x+p.1,y+p.2):Pt)).map ptP:=by rw[z_];rfl
 rw[e];refine q _ (by rw[a_];exact l0) (by rw[a_];exact l1) (rJ λp m=>?_);obtain⟨r,mr,rfl⟩:=o_.mp m;obtain⟨⟨r1,r2⟩,r3,r4⟩:=jq hb mr;exact⟨⟨by dsimp only;lia,by dsimp only;lia⟩,by dsimp only;lia,by dsimp only;lia⟩
end
def ur:FP:=λts k=>∃c n x y w h,ts=[stT c n,.int x,.int y,.int w,.int h]/\n<2 ^ 39/\bd 50 x/\bd 50 y/\5<=w/\w<=30/\5<=h/\h<=30/\∀(c':Cells) (n':Nat) (ps:List Pt),n<=n'->n'<=n+20->0<ps.length->ps.length<=12->bdL 110 ps->k (.lst true (ps.map ptP)) [stT c' n',.int x,.int y,.int w,.int h]
section
variable{P:RC}{w:RK}{K:Rr}{mg:Str->Option Rq}{base:RM}
theorem rL:FnScope ["_law_state","_law_x","_law_y","_law_wide","_law_high","_law_way","_law_most","_law_cuts","_law_corners","_law_least","_law_first_here"] ["_law_state","_law_x","_law_y","_law_wide","_law_high"] (aA pV):=⟨rfl,rfl,rfl,by decide +kernel,rfl,by decide +kernel,by decide +kernel⟩
theorem zm(F:Fun K "_law_outline" "_law_outline" pV f fd)(TX:Txt mg)  (Fa:Cal P w K mg base 1 "_law_take" ["_law_state","_law_many"] (aI K 2 kl))(rc:Cal P w K mg base 1 "_law_box" ["_law_x","_law_y","_law_wide","_law_high","_law_cuts"] (aI K 5 De))(on:Cal P w K mg base 1 "_law_angled" ["_law_x","_law_y","_law_wide","_law_high","_law_way"] (aI K 5 xI)):FnOk P w K mg base CX0 2 f fd ["_law_state","_law_x","_law_y","_law_wide","_law_high"] (aI K 5 ur):=by
 refine cN F rL [true,true,true,true,true] rfl (λcdv A outer s H E hr=>?_);have sc:=@rL;have nd1:(["_law_turn","_law_most","_law_state"]:List Str).Nodup:=by decide +kernel
 refine⟨_,(ai (aC (i:=5) sc.nd (by rfl) (bt rfl) (by rfl) (av Fa hr (by rfl) (aN 0 (ah ge_int ax)))) (ai (aC (i:=6) sc.nd (by rfl) (i' rfl) (by rfl) (aD (aj nj (aF (jk rfl) (by rfl) TX.min (by decide +kernel) (ae (af 3) (ae (af 4) ag))) ge_int))) (ai (F3 sc (i:=7) ["_law_turn","_law_most","_law_state"] [none,some 6,some 0] nd1 (by decide +kernel) (by rfl) (bt rfl) (by rfl) (j6 (by rfl) TX.range (ae ge_int ag)) (λ_ _ _=>(au (i:=0) nd1 (by rfl) (bt rfl) (by rfl) (hf:=(i' rfl)))) (λ_ _ _=>bG) (λ_ _ _=>(av Fa hr (by rfl) (aN 2 (ah (az hr (aD (aP (ae ge_int (ae ge_int (ae (aj ay (af 1) ge_int) ag))))) (av Fa hr (by rfl) (aN 2 (ah ge_int ax)))) ax)))) (by rfl)) (ai (aC (i:=8) sc.nd (by rfl) (bt rfl) (by rfl) (aD (av rc hr (by rfl) (ah (af 1) (ah (af 2) (ah (af 3) (ah (af 4) (ah (af 7) ax)))))))) (bF (dI (jh (br jP (af 5) ge_int (aM _))) (aq (aC (i:=8) sc.nd (by rfl) (bt rfl) (by rfl) (aD (av on hr (by rfl) (ah (af 1) (ah (af 2) (ah (af 3) (ah (af 4) (ah (af 5) ax))))))))) bc) (bF (dI (jh (br (cS hr) (af 5) ge_int (aM _))) (ai (aC (i:=9) sc.nd (by rfl) (bt rfl) (by rfl) (aD (aF (jk rfl) (by rfl) TX.min (by decide +kernel) (ae (af 3) (ae (af 4) ag))))) (aq (aC (i:=8) sc.nd (by rfl) (bt rfl) (by rfl) (aD (aP (ae (aB (ae (af 1) (ae (af 2) ag))) (ae (aB (ae (aj ay (af 1) (af 9)) (ae (af 2) ag))) (ae (aB (ae (af 1) (ae (aj ay (af 2) (af 9)) ag))) ag)))))))) bc) (ai (aC (i:=10) sc.nd (by rfl) (bt rfl) (by rfl) (av Fa hr (by rfl) (aN 0 (ah (aD (aF j5 (by rfl) TX.len (by decide +kernel) (ae (af 8) ag))) ax)))) (ai (aC (i:=8) sc.nd (by rfl) (bt rfl) (by rfl) (aD (aj ay (mR (af 8) (oy (af 10)) oZ) (mR (af 8) oZ (oy (af 10)))))) (bF (dI (br (cS hr) (av Fa hr (by rfl) (aN 0 (ah ge_int ax))) ge_int (aM _)) (aq (ja (xH 8 U9 U_ qw))) bc) (aq (aH (lR 8)))))))))))),λts kk hl hp=>?_⟩;clear hl;obtain⟨c,n,x,y,w,h,rfl,hn,⟨x0,x1⟩,⟨y0,y1⟩,w0,w1,h0,h1,q⟩:=hp;walk_at "go";walk_at "take";intro way c1 a1 b1;walk_at "go";refine⟨⟨by decide,by decide⟩,by decide,aQ (by rw[dC,sizeLine_eq];decide) (λi acc ie=>∃c' n' cs z,n+1<=n'/\n'<=n+1+2*i/\acc=MZ T.int cs/\cs.length=i/\(∀v∈cs,0<=v/\v<=min w h/2)/\ie=[z,.int (min w h/2),stT c' n']) ⟨c1,n+1,[],_,b_ _,by lia,rfl,rfl,(λ_ m=>by cases m),rfl⟩ ?_ ?_⟩
 ·rintro i t _ _ ⟨c',n',cs,z,l1,l2,rfl,hl,hv,rfl⟩ ei;have hi:i<4:=j4 ei;walk_at "go";walk_at "take";intro r c2 a2 b2;walk_at "go";obtain⟨v,ev,v0,v1⟩:=mY (λv=>1<=v/\v<=min w h/2+1) (ns:=[1,2,min w h/2+1]) (i:=r) (by omega) (by show r<3;omega) (by intro v hv;simp only[n_,Nv,or_false]at hv;lia)
  refine aZ ev ?_;walk_at "go";walk_at "take";intro r2 c3 a3 b3;walk_at "go";refine⟨c3,n'+1+1,cs++[r2],_,by lia,by lia,by rw[l_];rfl,by rw[f',hl];rfl,λv m=>?_,rfl⟩;rcases B_.mp m with m|m
  ·exact hv v m
  rw[C_.mp m];lia
 rintro _ _ ⟨c2,n2,cs,z,l1,l2,rfl,hl,hv,rfl⟩;rw[dC]at l2 hl;obtain⟨a,b,c',d,rfl,ha,hb,hc,hd⟩:=four (P:=λv=>0<=v/\v<=min w h/2) hl hv;walk_at "go";refine⟨x,y,w,h,false,a,b,c',d,rfl,?_⟩;have bx:bd 110 x:=qx ⟨x0,x1⟩ (by decide);have by_:bd 110 y:=qx ⟨y0,y1⟩ (by decide);have bw:bd 110 (x+w):=⟨by lia,by lia⟩;have bh:bd 110 (y+h):=⟨by lia,by lia⟩;have pb:bdL 110 (qk x y w h a b c' d):=D6 bx by_ bw bh (by lia) (by lia) ha hb hc hd;have pl:(qk x y w h a b c' d).length<=8:=zX;have p0:0<(qk x y w h a b c' d).length:=y9 (by lia);generalize qk x y w h a b c' d=ps at *;walk_at "go";refine dG (λenv=>∃(ps:List Pt) (z9 z10:T),0<ps.length/\ps.length<=12/\bdL 110 ps/\env=[stT c2 n2,.int x,.int y,.int w,.int h,.int way,.int (min w h/2),.lst true [.int a,.int b,.int c',.int d],.lst true (ps.map ptP),z9,z10]) ?_ ?_
 ·walk_at "go";refine aO (λg=>?_) (λg=>?_)
  ·walk_at "go";refine⟨x,y,w,h,way,rfl,⟨x0,x1⟩,⟨y0,y1⟩,by omega,w1,by omega,h1,λps' g1 g2 g3=>?_⟩;walk_at "go";exact⟨ps',_,_,g1,g2,g3,rfl⟩
  walk_at "go";exact⟨ps,_,_,p0,by lia,pb,rfl⟩
 clear pb pl p0 ps;rintro _ ⟨ps,z9,z10,p0,pl,pb,rfl⟩;refine dG (λenv=>∃(ps:List Pt) (z9 z10:T),0<ps.length/\ps.length<=12/\bdL 110 ps/\env=[stT c2 n2,.int x,.int y,.int w,.int h,.int way,.int (min w h/2),.lst true [.int a,.int b,.int c',.int d],.lst true (ps.map ptP),z9,z10]) ?_ ?_
 ·walk_at "go";refine aO (λg=>?_) (λg=>?_)
  ·walk_at "go";exact⟨[(x,y),(x+min w h,y),(x,y+min w h)],_,_,N0 _,NM rfl,Cp bx by_ (FG bx bw (Int.le_min.mpr ⟨by lia,by lia⟩) (Int.min_le_left ..)) (FG by_ bh (Int.le_min.mpr ⟨by lia,by lia⟩) (Int.min_le_right ..)),rfl⟩
  walk_at "go";exact⟨ps,_,_,p0,pl,pb,rfl⟩
 clear pb pl p0 ps;rintro _ ⟨ps,z9,z10,p0,pl,pb,rfl⟩;walk_at "go";walk_at "take";intro first c3 a3 b3
 walk_at "go";obtain⟨e1,e2⟩:=Hw (ts:=ps.map ptP) (m:=first) a3 (by rw[a_];exact b3);rw[e1,e2,<-Py,<-Pz,aR,aR,<-l_];have l1:(ps.drop first.toNat++ps.take first.toNat).length=ps.length:=by rw[f',F',y_];lia
 have m1:bdL 110 (ps.drop first.toNat++ps.take first.toNat):=yc pb λp m=>(B_.mp m).elim NQ Nj;refine⟨by rw[a_,a_,F',y_];lia,by rw[show((ps.drop first.toNat).all λx=>dO (ptP x))=true from cO _,show((ps.take first.toNat).all λx=>dO (ptP x))=true from cO _];rfl,?_⟩;generalize ps.drop first.toNat++ps.take first.toNat=qs at *;refine dG (λenv=>∃(c4:Cells) (qs:List Pt),qs.length=ps.length/\bdL 110 qs/\env=[stT c4 (n2+1+1),.int x,.int y,.int w,.int h,.int way,.int (min w h/2),.lst true [.int a,.int b,.int c',.int d],.lst true (qs.map ptP),z9,.int first]) ?_ ?_
 ·walk_at "go";walk_at "take";intro r c4 a4 b4;walk_at "go";refine aO (λg=>?_) (λg=>?_)
  ·walk_at "go";exact⟨c4,qs.reverse,by rw[MR,l1],yc m1 λp m=>PV.mp m,by rw[P_]⟩
  walk_at "go";exact⟨c4,qs,l1,m1,rfl⟩
 rintro _ ⟨c4,qs,l2,m2,rfl⟩;walk_at "go";exact q c4 (n2+1+1) qs (by lia) (by lia) (by lia) (by lia) m2
end
def xN:FP:=λts k=>∃c n x y,ts=[stT c n,.int x,.int y]/\n<2 ^ 39/\bd 80 x/\bd 80 y/\∀(c':Cells) (n':Nat) (ps:List Pt),n<=n'->n'<=n+20->0<ps.length->ps.length<=12->bdL 110 ps->k (.lst true (ps.map ptP)) [stT c' n',.int x,.int y]
section
variable{P:RC}{w:RK}{K:Rr}{mg:Str->Option Rq}{base:RM}
theorem tW:FnScope ["_law_state","_law_x","_law_y","_law_size","_law_east","_law_north"] ["_law_state","_law_x","_law_y"] (aA sN):=⟨rfl,rfl,rfl,by decide +kernel,rfl,by decide +kernel,by decide +kernel⟩
theorem BG(F:Fun K "_law_island" "_law_island" sN f fd)(TX:Txt mg)  (Fa:Cal P w K mg base 1 "_law_take" ["_law_state","_law_many"] (aI K 2 kl))(rc:Cal P w K mg base 1 "_law_box" ["_law_x","_law_y","_law_wide","_law_high","_law_cuts"] (aI K 5 De)):FnOk P w K mg base CX0 2 f fd ["_law_state","_law_x","_law_y"] (aI K 3 xN):=by
 refine cN F tW [true,true,true] rfl (λcdv A outer s H E hr=>?_);have sc:=@tW;refine⟨_,(ai (dI (br (cS hr) (av Fa hr (by rfl) (aN 0 (ah ge_int ax))) ge_int (aM _)) (aq (aH (av rc hr (by rfl) (ah (cR 1) (ah (cR 2) (ah (aj ay ge_int (av Fa hr (by rfl) (aN 0 (ah ge_int ax)))) (ah (aj ay ge_int (av Fa hr (by rfl) (aN 0 (ah ge_int ax)))) (ah (aD (aP (ae ge_int (ae ge_int (ae ge_int (ae ge_int ag)))))) ax)))))))) bc) (ai (aC (i:=3) sc.nd (by rfl) (bt rfl) (by rfl) (aj ay ge_int (av Fa hr (by rfl) (aN 0 (ah ge_int ax))))) (ai (sQ (i:=4) (j:=5) (by rfl) sc.nd (by rfl) (by rfl) (by decide) (by rfl) (by rfl) (by rfl) (by rfl) (ae (az hr (aD (aP (ae (af 3) (ae (kF (af 3)) ag)))) (av Fa hr (by rfl) (aN 0 (ah ge_int ax)))) (ae (az hr (aD (aP (ae (af 3) (ae (kF (af 3)) ag)))) (av Fa hr (by rfl) (aN 0 (ah ge_int ax)))) ag)) (by rfl)) (aq (aH (aD (aP (ae (aB (ae (af 1) (ae (af 2) ag))) (ae (aB (ae (aj ay (af 1) (af 4)) (ae (af 2) ag))) (ae (aB (ae (af 1) (ae (aj ay (af 2) (af 5)) ag))) ag)))))))))),λts kk hl hp=>?_⟩;clear hl;obtain⟨c,n,x,y,rfl,hn,⟨x0,x1⟩,⟨y0,y1⟩,q⟩:=hp;walk_at "go";walk_at "take";intro r c1 a1 b1;walk_at "go";refine aO (λg=>?_) (λg=>?_)
 ·walk_at "go";walk_at "take";intro w' c2 a2 b2;walk_at "go";walk_at "take";intro h' c3 a3 b3;walk_at "go";refine⟨x,y,1+w',1+h',true,0,0,0,0,rfl,?_⟩;have pb:bdL 110 (qk x y (1+w') (1+h') 0 0 0 0):=D6 (qx ⟨x0,x1⟩ (by decide)) (qx ⟨y0,y1⟩ (by decide)) (bd_a1 ⟨x0,x1⟩ a2 b2 (by decide)) (bd_a1 ⟨y0,y1⟩ a3 b3 (by decide)) (M:=0) (by lia) (by lia) ⟨Nr _,Nr _⟩ ⟨Nr _,Nr _⟩ ⟨Nr _,Nr _⟩ ⟨Nr _,Nr _⟩;have pl:(qk x y (1+w') (1+h') 0 0 0 0).length<=8:=zX;have p0:0<(qk x y (1+w') (1+h') 0 0 0 0).length:=y9 (by lia);generalize qk x y (1+w') (1+h') 0 0 0 0=ps at *;walk_at "go";exact q c3 _ ps (by lia) (by lia) p0 (by lia) pb
 walk_at "go";walk_at "take";intro z c2 a2 b2;walk_at "go";walk_at "take";intro r1 c3 a3 b3;walk_at "go";have hz:∀v∈[1+z,-(1+z)],-3<=v/\v<=3:=by intro v hv;simp only[n_,Nv,or_false]at hv;lia
 obtain⟨u,eu,u0,u1⟩:=mY (λv=>-3<=v/\v<=3) (ns:=[1+z,-(1+z)]) (i:=r1) a3 b3 hz
 refine aZ eu ?_;walk_at "go";walk_at "take";intro r2 c4 a4 b4;walk_at "go";obtain⟨v,ev,v0,v1⟩:=mY (λv=>-3<=v/\v<=3) (ns:=[1+z,-(1+z)]) (i:=r2) a4 b4 hz
 refine aZ ev ?_;walk_at "go";exact q c4 _ [(x,y),(x+u,y),(x,y+v)] (by lia) (by lia) (N0 _) (NM rfl) (Cp (qx ⟨x0,x1⟩ (by decide)) (qx ⟨y0,y1⟩ (by decide)) (bd_a3 ⟨x0,x1⟩ u0 u1) (bd_a3 ⟨y0,y1⟩ v0 v1))
end
def uf:FP:=λts k=>∃(b o:Bool) (t:Tl) (x y:Int) (s:Nat),ts=[tlT b o t,.int x,.int y,.int (s:Int)]/\s<4/\k (.bl (inM t (x,y,s))) ts
section
variable{P:RC}{w:RK}{K:Rr}{mg:Str->Option Rq}{base:RM}
theorem rC:FnScope ["_law_tool_here","_law_x","_law_y","_law_side","_law_ends","_law_points"] ["_law_tool_here","_law_x","_law_y","_law_side"] (aA pE):=⟨rfl,rfl,rfl,by decide +kernel,rfl,by decide +kernel,by decide +kernel⟩
theorem zC(F:Fun K "_law_in_mark" "_law_in_mark" pE f fd)(TX:Txt mg)  :FnOk P w K mg base CX0 1 f fd ["_law_tool_here","_law_x","_law_y","_law_side"] (aI K 4 uf):=by
 refine cN F rC [true,true,true,true] rfl (λcdv A outer s H E hr=>?_);have sc:=@rC;have nd1:(["_law_one","_law_other","_law_y","_law_x"]:List Str).Nodup:=by decide +kernel
 have nd2:(["_law_one","_law_other","_law_tool_here"]:List Str).Nodup:=by decide +kernel
 refine⟨_,(@ai _ _ _ _ _ _ (@aC _ _ _ _ _ 4 _ _ sc.nd (by rfl) (bt rfl) (by rfl) (@aD _ _ _ (@az _ _ _ _ _ _ _ hr (@aP _ _ _ _ (@ae _ _ _ _ _ (@aP _ _ _ _ (@ae _ _ _ _ _ (@aB _ _ _ _ _ (@ae _ _ _ _ _ (@ge_int _ _ _ _) (@ae _ _ _ _ _ (@ge_int _ _ _ _) (@ag _) (by rfl)) (by rfl))) (@ae _ _ _ _ _ (@aB _ _ _ _ _ (@ae _ _ _ _ _ (@ge_int _ _ _ _) (@ae _ _ _ _ _ (@ge_int _ _ _ _) (@ag _) (by rfl)) (by rfl))) (@ag _) (by rfl)) (by rfl))) (@ae _ _ _ _ _ (@aP _ _ _ _ (@ae _ _ _ _ _ (@aB _ _ _ _ _ (@ae _ _ _ _ _ (@ge_int _ _ _ _) (@ae _ _ _ _ _ (@ge_int _ _ _ _) (@ag _) (by rfl)) (by rfl))) (@ae _ _ _ _ _ (@aB _ _ _ _ _ (@ae _ _ _ _ _ (@ge_int _ _ _ _) (@ae _ _ _ _ _ (@ge_int _ _ _ _) (@ag _) (by rfl)) (by rfl))) (@ag _) (by rfl)) (by rfl))) (@ae _ _ _ _ _ (@aP _ _ _ _ (@ae _ _ _ _ _ (@aB _ _ _ _ _ (@ae _ _ _ _ _ (@ge_int _ _ _ _) (@ae _ _ _ _ _ (@ge_int _ _ _ _) (@ag _) (by rfl)) (by rfl))) (@ae _ _ _ _ _ (@aB _ _ _ _ _ (@ae _ _ _ _ _ (@ge_int _ _ _ _) (@ae _ _ _ _ _ (@ge_int _ _ _ _) (@ag _) (by rfl)) (by rfl))) (@ag _) (by rfl)) (by rfl))) (@ae _ _ _ _ _ (@aP _ _ _ _ (@ae _ _ _ _ _ (@aB _ _ _ _ _ (@ae _ _ _ _ _ (@ge_int _ _ _ _) (@ae _ _ _ _ _ (@ge_int _ _ _ _) (@ag _) (by rfl)) (by rfl))) (@ae _ _ _ _ _ (@aB _ _ _ _ _ (@ae _ _ _ _ _ (@ge_int _ _ _ _) (@ae _ _ _ _ _ (@ge_int _ _ _ _) (@ag _) (by rfl)) (by rfl))) (@ag _) (by rfl)) (by rfl))) (@ag _) (by rfl)) (by rfl)) (by rfl)) (by rfl))) (@af _ _ 3 _ (by rfl) (by first|exact bt rfl|exact i' (bt rfl)|exact i' (i' rfl)) (by decide) (by decide)) (by intro _ _;rfl))) (by rfl) (by first|exact .inl rfl|exact .inr rfl)) (@ai _ _ _ _ _ _ (@aC _ _ _ _ _ 5 _ _ sc.nd (by rfl) (bt rfl) (by rfl) (@aD _ _ _ (@aj _ _ _ _ _ _ _ _ ay (@aP _ _ _ _ (@ae _ _ _ _ _ (@aB _ _ _ _ _ (@ae _ _ _ _ _ (@aj _ _ _ _ _ _ _ _ ay (@aj _ _ _ _ _ _ _ _ cW (@ge_int _ _ _ _) (@af _ _ 1 _ (by rfl) (by first|exact bt rfl|exact i' (bt rfl)|exact i' (i' rfl)) (by decide) (by decide))) (@ge_int _ _ _ _)) (@ae _ _ _ _ _ (@aj _ _ _ _ _ _ _ _ ay (@aj _ _ _ _ _ _ _ _ cW (@ge_int _ _ _ _) (@af _ _ 2 _ (by rfl) (by first|exact bt rfl|exact i' (bt rfl)|exact i' (i' rfl)) (by decide) (by decide))) (@ge_int _ _ _ _)) (@ag _) (by rfl)) (by rfl))) (@ag _) (by rfl))) (@bE _ _ _ _ sc ["_law_one","_law_other","_law_y","_law_x"] [none,none,some 2,some 1] nd1 _ _ _ _ _ _ _ _ _ _ (by decide +kernel) (@cM _ _ _ _ (@af _ _ 4 _ (by rfl) (by first|exact bt rfl|exact i' (bt rfl)|exact i' (i' rfl)) (by decide) (by decide))) (λ_ _ _=>(@iX _ _ _ _ _ _ 2 (by rfl) (@aE _ _ _ _ _ _ (@au _ _ _ 0 _ nd1 (by rfl) (bt rfl) (by rfl) (i' rfl)) (@aE _ _ _ _ _ _ (@au _ _ _ 1 _ nd1 (by rfl) (bt rfl) (by rfl) (i' rfl)) (@gA _ _) (by rfl)) (by rfl)) (by rfl) (by rfl))) (λ_ _ _=>(@bG _)) (λ_ _ _=>(@aB _ _ _ _ _ (@ae _ _ _ _ _ (@aj _ _ _ _ _ _ _ _ cW (@ge_int _ _ _ _) (@aj _ _ _ _ _ _ _ _ ay (@af _ _ 3 _ (by rfl) (by first|exact bt rfl|exact i' (bt rfl)|exact i' (i' rfl)) (by decide) (by decide)) (@af _ _ 0 _ (by rfl) (by first|exact bt rfl|exact i' (bt rfl)|exact i' (i' rfl)) (by decide) (by decide)))) (@ae _ _ _ _ _ (@aj _ _ _ _ _ _ _ _ cW (@ge_int _ _ _ _) (@aj _ _ _ _ _ _ _ _ ay (@af _ _ 2 _ (by rfl) (by first|exact bt rfl|exact i' (bt rfl)|exact i' (i' rfl)) (by decide) (by decide)) (@af _ _ 1 _ (by rfl) (by first|exact bt rfl|exact i' (bt rfl)|exact i' (i' rfl)) (by decide) (by decide)))) (@ag _) (by rfl)) (by rfl)))) (by rfl) (by rfl) (by rfl) (by intro _;rfl)))) (by rfl) (by first|exact .inl rfl|exact .inr rfl)) (@aq _ _ _ _ (@aH _ _ _ _ _ (@aD _ _ _ (@aF _ _ _ _ _ _ _ _ _ (nr rfl) (by rfl) TX.all (by decide +kernel) (@ae _ _ _ _ _ (@bE _ _ _ _ sc ["_law_one","_law_other","_law_tool_here"] [none,none,some 0] nd2 _ _ _ _ _ _ _ _ _ _ (by decide +kernel) (@cM _ _ _ _ (@af _ _ 5 _ (by rfl) (by first|exact bt rfl|exact i' (bt rfl)|exact i' (i' rfl)) (by decide) (by decide))) (λ_ _ _=>(@iX _ _ _ _ _ _ 2 (by rfl) (@aE _ _ _ _ _ _ (@au _ _ _ 0 _ nd2 (by rfl) (bt rfl) (by rfl) (i' rfl)) (@aE _ _ _ _ _ _ (@au _ _ _ 1 _ nd2 (by rfl) (bt rfl) (by rfl) (i' rfl)) (@gA _ _) (by rfl)) (by rfl)) (by rfl) (by rfl))) (λ_ _ _=>(@bG _)) (λ_ _ _=>(@iR _ _ _ _ _ _ _ _ Cb (@aj _ _ _ _ _ _ _ _ ay (@aF _ _ _ _ _ _ _ _ _ qf (by rfl) TX.abs (by decide +kernel) (@ae _ _ _ _ _ (@af _ _ 0 _ (by rfl) (by first|exact bt rfl|exact i' (bt rfl)|exact i' (i' rfl)) (by decide) (by decide)) (@ag _) (by rfl)) (by decide) (by decide) (by rfl) (by rfl)) (@aF _ _ _ _ _ _ _ _ _ qf (by rfl) TX.abs (by decide +kernel) (@ae _ _ _ _ _ (@af _ _ 1 _ (by rfl) (by first|exact bt rfl|exact i' (bt rfl)|exact i' (i' rfl)) (by decide) (by decide)) (@ag _) (by rfl)) (by decide) (by decide) (by rfl) (by rfl))) (@aj _ _ _ _ _ _ _ _ cW (@ge_int _ _ _ _) (@aj _ _ _ _ _ _ _ _ ay (@az _ _ _ _ _ _ _ hr (@af _ _ 2 _ (by rfl) (by first|exact bt rfl|exact i' (bt rfl)|exact i' (i' rfl)) (by decide) (by decide)) (@ge_int _ _ _ _) (by intro _ _;rfl)) (@az _ _ _ _ _ _ _ hr (@af _ _ 2 _ (by rfl) (by first|exact bt rfl|exact i' (bt rfl)|exact i' (i' rfl)) (by decide) (by decide)) (@ge_int _ _ _ _) (by intro _ _;rfl)))) (aM _))) (by rfl) (by rfl) (by rfl) (by intro _;rfl)) (@ag _) (by rfl)) (by decide) (by decide) (by rfl) (by rfl))))))),λts kk hl hp=>?_⟩;clear hl;obtain⟨b,o,t,x,y,s,rfl,hs,q⟩:=hp;walk_at "go";refine aZ (An hs).1 ?_;have l2:=(An hs).2;unfold inM ptM at q;dsimp only at q;generalize edL.getD s []=es at *;walk_at "go";refine⟨.inl ⟨by decide,by decide⟩,.inl ⟨by decide,by decide⟩,aQ (by rw[a_,sizeLine_eq];lia) (λi acc ie=>∃z1 z2,acc=(es.take i).map (λe=>ptP (2*(x+e.1),2*(y+e.2)))/\ie=[z1,z2,.int y,.int x]) ⟨_,_,rfl,rfl⟩ ?_ ?_⟩
 ·rintro i u _ _ ⟨z1,z2,rfl,rfl⟩ ei;obtain⟨e,ee,rfl⟩:=bo ei;walk_at "go";exact⟨.inl ⟨by decide,by decide⟩,.inl ⟨by decide,by decide⟩,_,_,by rw[map_take ee];rfl,rfl⟩
 rintro _ _ ⟨z1,z2,rfl,rfl⟩;rw[a_,yp];walk_at "go";have ep:T.tup [T.int (2*x+1),T.int (2*y+1)]::MZ (λe=>ptP (2*(x+e.1),2*(y+e.2))) es=((2*x+1,2*y+1)::es.map λe=>((2*(x+e.1),2*(y+e.2)):Pt)).map ptP:=by rw[e_,z_];rfl
 have lp:((2*x+1,2*y+1)::es.map λe=>((2*(x+e.1),2*(y+e.2)):Pt)).length=3:=by rw[j_,a_,l2]
 rw[ep];generalize ((2*x+1,2*y+1)::es.map λe=>((2*(x+e.1),2*(y+e.2)):Pt))=ps at *;refine⟨by lia,aQ (by rw[a_,sizeLine_eq];lia) (λi acc ie=>∃z1 z2,acc=(ps.take i).map (λp=>T.bl (decide ((p.1.natAbs:Int)+p.2.natAbs<=2*(t.1+t.2.1))))/\ie=[z1,z2,tlT b false t]) ⟨_,_,rfl,rfl⟩ ?_ ?_⟩
 ·rintro i u _ _ ⟨z1,z2,rfl,rfl⟩ ei;obtain⟨p,ee,rfl⟩:=bo ei;walk_at "go";exact⟨.inl ⟨by decide,by decide⟩,_,_,by rw[map_take ee],rfl⟩
 rintro _ _ ⟨z1,z2,rfl,rfl⟩;rw[a_,yp];walk_at "go";rw[NV];exact q
end
def D3:FP:=λts k=>∃(b o:Bool) (t:Tl),ts=[tlT b o t,ptP (0,0)]/\tlO t/\k (.dT true (dQ (nrQ t))) ts
section
variable{P:RC}{w:RK}{K:Rr}{mg:Str->Option Rq}{base:RM}
theorem Ah:FnScope ["_law_tool_here","_law_corner","_law_found","_law_x","_law_y","_law_side"] ["_law_tool_here","_law_corner"] (aA zA):=⟨rfl,rfl,rfl,by decide +kernel,rfl,by decide +kernel,by decide +kernel⟩
theorem Hj(F:Fun K "_law_mark" "_law_mark" zA f fd)(TX:Txt mg)  (ul:Cal P w K mg base 1 "_law_in_mark" ["_law_tool_here","_law_x","_law_y","_law_side"] (aI K 4 uf)):FnOk P w K mg base CX0 2 f fd ["_law_tool_here","_law_corner"] (aI K 2 D3):=by
 refine cN F Ah [true,true] rfl (λcdv A outer s H E hr=>?_);have sc:=@Ah;refine⟨_,(ai (aC (i:=2) sc.nd (by rfl) (bt rfl) (by rfl) (aD vI)) (ai (dM RU (by rfl) (jZ (by rfl) TX.range (ae (aD (kF (az hr (af 0) ge_int))) (ae (aD (az hr (af 0) ge_int)) ag))) (au (i:=3) sc.nd (by rfl) (bt rfl) (by rfl)) (aq (dM RU (by rfl) (jZ (by rfl) TX.range (ae (aD (kF (az hr (af 0) ge_int))) (ae (aD (az hr (af 0) ge_int)) ag))) (au (i:=4) sc.nd (by rfl) (bt rfl) (by rfl)) (aq (dM RU (by rfl) (j6 (by rfl) TX.range (ae ge_int ag)) (au (i:=5) sc.nd (by rfl) (bt rfl) (by rfl)) (aq (dI (jh (pQ (av ul hr (by rfl) (ah (af 0) (ah (af 3) (ah (af 4) (ah (af 5) ax))))))) (aq (vK jf (yZ (i:=2) hr (aD (aB (ae (aj ay (az hr (af 1) ge_int) (af 3)) (ae (aj ay (az hr (af 1) ge_int) (af 4)) (ae (af 5) ag)))))))) bc))))))) (aq (aH (lR 2))))),λts kk hl hp=>?_⟩;clear hl;obtain⟨b,o,t,rfl,ht,q⟩:=hp;rw[<-mk_eq ht]at q;obtain⟨t1,t2,t3,t4⟩:=ht;have im:∀x y s,inM t (x,y,s)=inM (t.1,t.2.1,0,0,0) (x,y,s):=λ_ _ _=>rfl;walk_at "go";refine⟨rfl,by lia,cQ (λi env=>∃z3 z4 z5,env=[tlT b o t,ptP (0,0),.dT true (dQ (mkN t.1 t.2.1 i)),z3,z4,z5]) ⟨_,_,_,rfl⟩ ?_ ?_⟩
 ·rintro i u _ ⟨z3,z4,z5,rfl⟩ ei;have hi:=j4 ei;have et:=lC ei;subst et;walk_at "go";refine⟨by lia,cQ (λj env=>∃z4 z5,env=[tlT b o t,ptP (0,0),.dT true (dQ (mkN t.1 t.2.1 i++mkC t.1 t.2.1 (-t.1+i) j)),.int (-t.1+i),z4,z5]) ⟨_,_,by rw[show mkC t.1 t.2.1 (-t.1+i) 0=[]from rfl,H_]⟩ ?_ ?_⟩
  ·rintro j u _ ⟨z4,z5,rfl⟩ ej;have hj:=j4 ej;have et:=lC ej;subst et;walk_at "go";refine⟨by decide,cQ (λs env=>∃z5,env=[tlT b o t,ptP (0,0),.dT true (dQ (mkN t.1 t.2.1 i++mkC t.1 t.2.1 (-t.1+i) j++((w_ s).filter λs=>inM (t.1,t.2.1,0,0,0) (-t.1+i,-t.1+j,s)).map λs=>(-t.1+(i:Int),-t.1+(j:Int),s))),.int (-t.1+i),.int (-t.1+j),z5]) ⟨_,by rw[List.range_zero,Q4,Oi,H_]⟩ ?_ ?_⟩
   ·rintro s u _ ⟨z5,rfl⟩ es;have hs4:s<4:=j4 es;have et:=lC es;subst et;rw[O9];walk_at "go";refine⟨b,false,t,-t.1+i,-t.1+j,s,rfl,hs4,?_⟩;walk_at "go";rw[NA,OM,l_,im];refine m5 (λh=>?_) (λh=>?_)
    ·walk_at "go";have l1:=Ir (r:=t.1) (k:=t.2.1) (i:=i) (j:=j) (s:=s) (by lia);have ef:((Qi (λs=>inM (t.1,t.2.1,0,0,0) (-t.1+i,-t.1+j,s)) [s]).map λs=>((-t.1+(i:Int),-t.1+(j:Int),s):Qt))=[(-t.1+(i:Int),-t.1+(j:Int),s)]:=by rw[N1,h];rfl
     rw[O9,O9];exact⟨by rw[rO];lia,_,by rw[ef,<-gV,<-yr Jm];rfl⟩
    walk_at "go";have ef:((Qi (λs=>inM (t.1,t.2.1,0,0,0) (-t.1+i,-t.1+j,s)) [s]).map λs=>((-t.1+(i:Int),-t.1+(j:Int),s):Qt))=[]:=by rw[N1,h];rfl
    exact⟨_,by rw[ef,H_]⟩
   rintro _ ⟨z5,rfl⟩;have e1:mkC t.1 t.2.1 (-t.1+i) (j+1)=mkC t.1 t.2.1 (-t.1+i) j++_:=jm;exact⟨_,_,by rw[e1,<-gV];rfl⟩
  rintro _ ⟨z4,z5,rfl⟩;rw[dC];have e1:mkN t.1 t.2.1 (i+1)=mkN t.1 t.2.1 i++_:=jm;exact⟨_,_,_,by rw[e1]⟩
 rintro _ ⟨z3,z4,z5,rfl⟩;rw[dC];walk_at "go";exact q
end
def zg:FP:=λts k=>∃c n m,ts=[stT c n,.int m]/\n<2 ^ 39/\2<=m/\m<=4/\∀(c':Cells) (t:Tl),tlO t->k (tlT false false t) [stT c' (n+5),.int m]
section
variable{P:RC}{w:RK}{K:Rr}{mg:Str->Option Rq}{base:RM}
theorem AL:FnScope ["_law_state","_law_most","_law_r","_law_k"] ["_law_state","_law_most"] (aA yT):=⟨rfl,rfl,rfl,by decide +kernel,rfl,by decide +kernel,by decide +kernel⟩
theorem G0(F:Fun K "_law_tool" "_law_tool" yT f fd)(TX:Txt mg)  (Fa:Cal P w K mg base 1 "_law_take" ["_law_state","_law_many"] (aI K 2 kl)):FnOk P w K mg base CX0 2 f fd ["_law_state","_law_most"] (aI K 2 zg):=by refine cN F AL [true,true] rfl (λcdv A outer s H E hr=>?_);have sc:=@AL;refine⟨_,(ai (aC (i:=2) sc.nd (by rfl) (bt rfl) (by rfl) (aj ay ge_int (av Fa hr (by rfl) (aN 0 (ah (aD (aj aV (af 1) ge_int)) ax))))) (ai (aC (i:=3) sc.nd (by rfl) (bt rfl) (by rfl) (aj ay ge_int (av Fa hr (by rfl) (aN 0 (ah (aD (aj aV (af 2) ge_int)) ax))))) (aq (aH (aB (ae (cR 2) (ae (cR 3) (ae (aj ay ge_int (av Fa hr (by rfl) (aN 0 (ah ge_int ax)))) (ae (aj ay ge_int (av Fa hr (by rfl) (aN 0 (ah ge_int ax)))) (ae (aj ay ge_int (av Fa hr (by rfl) (aN 0 (ah ge_int ax)))) ag)))))))))),λts kk hl hp=>?_⟩;clear hl;obtain⟨c,n,m,rfl,hn,m0,m1,q⟩:=hp;walk_at "go";walk_at "take";intro r c1 a1 b1;walk_at "go";walk_at "take";intro kk c2 a2 b2;walk_at "go";walk_at "take";intro u c3 a3 b3;walk_at "go";walk_at "take";intro v c4 a4 b4;walk_at "go";walk_at "take";intro w' c5 a5 b5;walk_at "go";exact q c5 (2+r,1+kk,_,_,_) ⟨by dsimp only;lia,by dsimp only;lia,by dsimp only;lia,by dsimp only;lia⟩
end
def Ao:FP:=λts k=>∃c n m l,ts=[stT c n,.int m,.int l]/\n<2 ^ 38/\2<=m/\m<=4/\0<=l/\l<=5/\∀(c':Cells) (n':Nat) (tl:List Tl),n<=n'->n'<=n+100->tl.length<=8->(∀t∈tl,tlO t)->k (.lst true (tl.map (tlT false false))) [stT c' n',.int m,.int l]
section
variable{P:RC}{w:RK}{K:Rr}{mg:Str->Option Rq}{base:RM}
theorem xO:FnScope ["_law_state","_law_most","_law_least"] ["_law_state","_law_most","_law_least"] (aA vp):=⟨rfl,rfl,rfl,by decide +kernel,rfl,by decide +kernel,by decide +kernel⟩
theorem CY(F:Fun K "_law_tools" "_law_tools" vp f fd)(TX:Txt mg)  (Fa:Cal P w K mg base 1 "_law_take" ["_law_state","_law_many"] (aI K 2 kl))(Fk:Cal P w K mg base 2 "_law_tool" ["_law_state","_law_most"] (aI K 2 zg)):FnOk P w K mg base CX0 3 f fd ["_law_state","_law_most","_law_least"] (aI K 3 Ao):=by
 refine cN F xO [true,true,true] rfl (λcdv A outer s H E hr=>?_);have sc:=@xO;have nd1:(["_law_turn","_law_most","_law_state"]:List Str).Nodup:=by decide +kernel
 refine⟨_,(aq (aH (bE sc ["_law_turn","_law_most","_law_state"] [none,some 1,some 0] nd1 (by decide +kernel) (j6 (by rfl) TX.range (ae (aj ay (cR 2) (av Fa hr (by rfl) (aN 0 (ah ge_int ax)))) ag)) (λ_ _ _=>(au (i:=0) nd1 (by rfl) (bt rfl) (by rfl) (hf:=(i' rfl)))) (λ_ _ _=>bG) (λ_ _ _=>(av Fk hr (by rfl) (aN 2 (ah (cR 1) ax))))))),λts kk hl hp=>?_⟩;clear hl;obtain⟨c,n,m,l,rfl,hn,m0,m1,l0,l1,q⟩:=hp;walk_at "go";walk_at "take";intro r c1 a1 b1;walk_at "go";refine⟨by lia,aQ (by rw[dC,sizeLine_eq];lia) (λi acc ie=>∃(c':Cells) (n':Nat) (tl:List Tl) (z:T),n<=n'/\n'<=n+1+5*i/\tl.length=i/\(∀t∈tl,tlO t)/\acc=tl.map (tlT false false)/\ie=[z,.int m,stT c' n']) ⟨c1,n+1,[],_,by lia,by lia,rfl,(λ_ h=>by cases h),rfl,rfl⟩ ?_ ?_⟩
 ·rintro i u _ _ ⟨c',n',tl,z,l2,l3,l4,ht,rfl,rfl⟩ ei;have hi:=j4 ei;walk_at "go";refine⟨c',n',m,rfl,by lia,m0,m1,λc2 t h=>?_⟩;walk_at "go";refine⟨c2,n'+5,tl++[t],_,by lia,by lia,by rw[f',l4];rfl,λv mv=>?_,by rw[l_];rfl,rfl⟩;rcases B_.mp mv with mv|mv
  ·exact ht v mv
  rw[C_.mp mv];exact h
 rintro _ _ ⟨c',n',tl,z,l2,l3,l4,ht,rfl,rfl⟩;rw[dC]at l3 l4;walk_at "go";exact q c' n' tl (by omega) (by lia) (by lia) ht
end
def AM:FP:=λts k=>∃(o:Bool) (tl:List Tl),ts=[.lst o (tl.map (tlT false false))]/\tl.length<100/\(∀t∈tl,tlO t)/\k (.lst true (tl.map λt=>.dT true (dQ (nrQ t)))) ts
section
variable{P:RC}{w:RK}{K:Rr}{mg:Str->Option Rq}{base:RM}
theorem xK:FnScope ["_law_tools_here"] ["_law_tools_here"] (aA uZ):=⟨rfl,rfl,rfl,by decide +kernel,rfl,by decide +kernel,by decide +kernel⟩
theorem Cv(F:Fun K "_law_marks" "_law_marks" uZ f fd)(TX:Txt mg)  (wT:Cal P w K mg base 2 "_law_mark" ["_law_tool_here","_law_corner"] (aI K 2 D3)):FnOk P w K mg base CX0 3 f fd ["_law_tools_here"] (aI K 1 AM):=by
 refine cN F xK [true] rfl (λcdv A outer s H E hr=>?_);have sc:=@xK;have nd1:(["_law_tool_here"]:List Str).Nodup:=by decide +kernel
 refine⟨_,(aq (aH (aD (bE sc ["_law_tool_here"] [none] nd1 (by decide +kernel) (cM (af 0)) (λ_ _ _=>(au (i:=0) nd1 (by rfl) (bt rfl) (by rfl) (hf:=(i' rfl)))) (λ_ _ _=>bG) (λ_ _ _=>(av wT hr (by rfl) (ah (af 0) (ah (aB (ae ge_int (ae ge_int ag))) ax)))))))),λts kk hl hp=>?_⟩;clear hl;obtain⟨o,tl,rfl,hl,ht,q⟩:=hp;walk_at "go";refine aQ (by rw[a_,sizeLine_eq];lia) (λi acc ie=>∃z,acc=(tl.take i).map (λt=>T.dT true (dQ (nrQ t)))/\ie=[z]) ⟨_,rfl,rfl⟩ ?_ ?_
 ·rintro i u _ _ ⟨z,rfl,rfl⟩ ei;obtain⟨t,et,rfl⟩:=bo ei;walk_at "go";refine⟨false,false,t,rfl,ht t (B' et),?_⟩;walk_at "go";exact⟨_,by rw[map_take et],rfl⟩
 rintro _ _ ⟨z,rfl,rfl⟩;rw[a_,yp];walk_at "go";exact q
end
def Ab:FP:=λts k=>∃(o u:Bool) (M rs:List Qt) (p:Pt),ts=[.dT u (dQ rs),.lst o (M.map qtT),ptP p]/\k (oqT (fsQ p rs M)) [.dT u (dQ rs),.lst false (M.map qtT),ptP p]
section
variable{P:RC}{w:RK}{K:Rr}{mg:Str->Option Rq}{base:RM}
theorem yd:FnScope ["_law_held","_law_base","_law_corner","_law_one","_law_other","_law_side"] ["_law_held","_law_base","_law_corner"] (aA vo):=⟨rfl,rfl,rfl,by decide +kernel,rfl,by decide +kernel,by decide +kernel⟩
theorem Ee(F:Fun K "_law_first" "_law_first" vo f fd)(TX:Txt mg)  :FnOk P w K mg base CX0 1 f fd ["_law_held","_law_base","_law_corner"] (aI K 3 Ab):=by
 refine cN F yd [true,true,true] rfl (λcdv A outer s H E hr=>?_);have sc:=@yd;refine⟨_,(ai (dM RU (by rfl) (cM (cR 1)) (iX (n:=3) (by rfl) (aE (au (i:=3) sc.nd (by rfl) (bt rfl) (by rfl)) (aE (au (i:=4) sc.nd (by rfl) (bt rfl) (by rfl)) (aE (au (i:=5) sc.nd (by rfl) (bt rfl) (by rfl)) gA)))) (aq (dI (jh (br (n5 hr) (aB (ae (aj ay (az hr (af 2) ge_int) (af 3)) (ae (aj ay (az hr (af 2) ge_int) (af 4)) (ae (af 5) ag)))) (af 0) (by with_unfolding_all rfl))) (aq (aH (aD (aB (ae (aj ay (az hr (af 2) ge_int) (af 3)) (ae (aj ay (az hr (af 2) ge_int) (af 4)) (ae (af 5) ag))))))) bc))) (aq (aH lA))),λts kk hl hp=>?_⟩;clear hl;obtain⟨o,u,M,rs,p,rfl,q⟩:=hp;walk_at "go";refine cQ (λi env=>∃z3 z4 z5,fsQ p rs (M.drop i)=fsQ p rs M/\env=[.dT u (dQ rs),.lst false (M.map qtT),ptP p,z3,z4,z5]) ⟨_,_,_,rfl,rfl⟩ ?_ ?_
 ·rintro i t _ ⟨z3,z4,z5,ew,rfl⟩ ei;obtain⟨m,em,rfl⟩:=bo ei;rw[lu em,fsQ]at ew;walk_at "go";rw[show(kJ (dQ rs) [So (p.1+m.1),So (p.2+m.2.1),So (m.2.2:Int)]).isSome=decide (mvQ p m∈rs)from ql (q:=mvQ p m)];refine aO (λh=>?_) (λh=>?_)
  ·walk_at "go";rw[if_pos h]at ew;exact⟨_,_,_,ew,rfl⟩
  walk_at "go";rw[if_neg h]at ew;rw[<-ew]at q;exact q
 rintro _ ⟨z3,z4,z5,ew,rfl⟩;rw[a_,NI]at ew;rw[<-ew]at q;walk_at "go";exact q
end
def uH:FP:=λts k=>∃(u:Bool) (M:List Qt) (q:Qt),ts=[.dT u (dQ M),qtT q]/\M.length<100000/\k (.lst true ((srP (abL M q)).map ptP)) ts
section
variable{P:RC}{w:RK}{K:Rr}{mg:Str->Option Rq}{base:RM}
theorem sr:FnScope ["_law_mark_here","_law_quarter"] ["_law_mark_here","_law_quarter"] (aA qp):=⟨rfl,rfl,rfl,by decide +kernel,rfl,by decide +kernel,by decide +kernel⟩
theorem yn(F:Fun K "_law_holding" "_law_holding" qp f fd)(TX:Txt mg)  :FnOk P w K mg base CX0 1 f fd ["_law_mark_here","_law_quarter"] (aI K 2 uH):=by
 refine cN F sr [true,true] rfl (λcdv A outer s H E hr=>?_);have sc:=@sr;have nd1:(["_law_one","_law_other","_law_side","_law_quarter"]:List Str).Nodup:=by decide +kernel
 refine⟨_,(aq (aH (aD (aF gw (by rfl) TX.sorted (by decide +kernel) (ae (bE sc ["_law_one","_law_other","_law_side","_law_quarter"] [none,none,none,some 1] nd1 (by decide +kernel) (A7 (af 0)) (λ_ _ _=>(iX (n:=3) (by rfl) (aE (au (i:=0) nd1 (by rfl) (bt rfl) (by rfl) (hf:=(i' rfl))) (aE (au (i:=1) nd1 (by rfl) (bt rfl) (by rfl) (hf:=(i' rfl))) (aE (au (i:=2) nd1 (by rfl) (bt rfl) (by rfl) (hf:=(i' rfl))) gA))))) (λ_ _ _=>(nZ (br (cS hr) (af 2) (az hr (af 3) ge_int) (aM _)))) (λ_ _ _=>(aB (ae (aj aV (az hr (af 3) ge_int) (af 0)) (ae (aj aV (az hr (af 3) ge_int) (af 1)) ag))))) ag))))),λts kk hl hp=>?_⟩;clear hl;obtain⟨u,M,q',rfl,hl,q⟩:=hp;walk_at "go";refine aQ (by rw[a_,sizeLine_eq];lia) (λi acc ie=>∃z1 z2 z3,acc=(abL (M.take i) q').map ptP/\ie=[z1,z2,z3,qtT q']) ⟨_,_,_,rfl,rfl⟩ ?_ ?_
 ·rintro i t _ _ ⟨z1,z2,z3,rfl,rfl⟩ ei;obtain⟨m,em,rfl⟩:=bo ei;walk_at "go";rw[xr em,l_];refine aO (λh=>?_) (λh=>?_)
  ·walk_at "go";exact⟨_,_,_,by rw[if_pos h];rfl,rfl⟩
  walk_at "go";exact⟨_,_,_,by rw[if_neg h];exact(H_ _).symm,rfl⟩
 rintro _ _ ⟨z1,z2,z3,rfl,rfl⟩;rw[a_,yp];walk_at "go";refine vd ((abL M q').map jW) (by rw[HZ]) (A9 _) ?_;rw[ya];walk_at "go";exact q
end
def HR:FP:=λts k=>∃(u o v:Bool) (rs:List Qt) (tl:List Tl) (q:Qt),ts=[.dT u (dQ rs),.lst o (tl.map λt=>.dT v (dQ (nrQ t))),qtT q]/\tl.length<100/\(∀t∈tl,tlO t)/\∀z1 z2 z3,k (wyT (wyN rs q 0 (tl.map nrQ))) [z1,z2,z3]
section
variable{P:RC}{w:RK}{K:Rr}{mg:Str->Option Rq}{base:RM}
theorem Dq:FnScope ["_law_held","_law_marks_here","_law_quarter","_law_told","_law_number","_law_mark_here","_law_base","_law_corner","_law_beyond_here"] ["_law_held","_law_marks_here","_law_quarter"] (aA CK):=⟨rfl,rfl,rfl,by decide +kernel,rfl,by decide +kernel,by decide +kernel⟩
theorem K8(F:Fun K "_law_why" "_law_why" CK f fd)(TX:Txt mg)  (sK:Cal P w K mg base 1 "_law_holding" ["_law_mark_here","_law_quarter"] (aI K 2 uH))(sw:Cal P w K mg base 1 "_law_first" ["_law_held","_law_base","_law_corner"] (aI K 3 Ab)):FnOk P w K mg base CX0 2 f fd ["_law_held","_law_marks_here","_law_quarter"] (aI K 3 HR):=by
 refine cN F Dq [true,true,true] rfl (λcdv A outer s H E hr=>?_);have sc:=@Dq;refine⟨_,(ai (aC (i:=3) sc.nd (by rfl) (bt rfl) (by rfl) (aD (aP ag))) (ai (dM RU (by rfl) (oA (by rfl) TX.enumerate (ae (cR 1) ag)) (iX (n:=2) (by rfl) (aE (au (i:=4) sc.nd (by rfl) (bt rfl) (by rfl)) (aE (au (i:=5) sc.nd (by rfl) (bt rfl) (by rfl)) gA))) (ai (aC (i:=6) sc.nd (by rfl) (bt rfl) (by rfl) (aD (aF gw (by rfl) TX.sorted (by decide +kernel) (ae (aL (jr rfl) (by rfl) TX.list (by decide +kernel) (ae (af 5) ag)) ag)))) (aq (dM RU (by rfl) (cM (aD (av sK hr (by rfl) (ah (af 5) (ah (af 2) ax))))) (au (i:=7) sc.nd (by rfl) (bt rfl) (by rfl)) (ai (aC (i:=8) sc.nd (by rfl) (bt rfl) (by rfl) (aD (av sw hr (by rfl) (ah (af 0) (ah (af 6) (ah (af 7) ax)))))) (ai (dI (jh (br vB (af 8) lA (aM _))) (aq (aH lA)) bc) (aq (ja (lN 3 Tc Td l9 (ae (aD (aB (ae (af 4) (ae (af 7) (ae (af 8) ag))))) ag)))))))))) (aq (aH (lR 3))))),λts kk hl hp=>?_⟩;clear hl;obtain⟨u,o,v,rs,tl,q',rfl,ht,ho,q⟩:=hp;walk_at "go";refine cQ (λi env=>∃(a:List Rw) (z4 z5 z6 z7 z8:T),(wyN rs q' i ((tl.map nrQ).drop i)).map (a++·)=wyN rs q' 0 (tl.map nrQ)/\a.length<=10000*i/\env=[.dT u (dQ rs),.lst false (tl.map λt=>.dT false (dQ (nrQ t))),qtT q',.lst true (a.map nK),z4,z5,z6,z7,z8]) ⟨[],_,_,_,_,_,?_,A_ _,rfl⟩ ?_ ?_
 ·rw[NH];cases wyN rs q' 0 (tl.map nrQ) <;> rfl
 ·rintro i t _ ⟨a,z4,z5,z6,z7,z8,ew,la,rfl⟩ ei;obtain⟨t,et,rfl⟩:=oj rfl ei;have hi:i<tl.length:=(c_.mp et).1;have hto:=ho t (B' et);have ln:=qe hto;have up:=F0 (t:=t);rw[lu (show(tl.map nrQ)[i]?=some (nrQ t) by rw[k_,et];rfl),wyN]at ew;generalize (tl.map nrQ).drop (i+1)=Ms at *;walk_at "go";generalize nrQ t=M at *;refine oO (o7 up ?_);walk_at "go";refine⟨false,M,q',rfl,by lia,?_⟩;have lc:=pf (abL M q');have lb:=qQ M q';generalize srP (abL M q')=cs at *;walk_at "go";refine cQ (λj env=>∃(a':List Rw) (z7 z8:T),((wyC M rs i (cs.drop j)).bind λb=>(wyN rs q' (i+1) Ms).map (b++·)).map (a'++·)=wyN rs q' 0 (tl.map nrQ)/\a'.length<=10000*i+j/\env=[.dT u (dQ rs),.lst false (tl.map λt=>.dT false (dQ (nrQ t))),qtT q',.lst true (a'.map nK),.int (i:Int),.dT false (dQ M),.lst true (M.map qtT),z7,z8]) ⟨a,_,_,ew,by omega,rfl⟩ ?_ ?_
  ·rintro j t' _ ⟨a',z7,z8,ew',la',rfl⟩ ej;obtain⟨p,ep,rfl⟩:=bo ej;have hj:j<cs.length:=(c_.mp ep).1;rw[lu ep,wyC]at ew';walk_at "go";refine⟨false,false,M,rs,p,rfl,?_⟩;cases e:fsQ p rs M with
   |none=>
    rw[e]at ew';have ew':none=wyN rs q' 0 (tl.map nrQ):=ew';rw[<-ew']at q;dsimp only[oqT];walk_at "go";exact q _ _ _
   |some z=>
    rw[e]at ew';dsimp only[oqT];walk_at "go";refine⟨by lia,a'++[(i,p,z)],_,_,?_,by rw[f'];show a'.length+1<=_;lia,by rw[l_];rfl⟩;rw[<-ew'];exact AY
  rintro _ ⟨a',z7,z8,ew',la',rfl⟩;rw[a_,NI,wyC]at ew';rw[a_]at la';exact⟨a',_,_,_,_,_,by rw[<-ew'];cases wyN rs q' (i+1) Ms <;> rfl,by lia,rfl⟩
 rintro _ ⟨a,z4,z5,z6,z7,z8,ew,la,rfl⟩;rw[lX rfl,<-a_ (f:=nrQ),NI]at ew;have ew:some (a++[])=wyN rs q' 0 (tl.map nrQ):=ew;rw[<-ew,H_]at q;walk_at "go";exact q _ _ _
end
def EK:FP:=λts k=>∃(c:Cells) (n:Nat) (o:Bool) (qs:List Qt) (m:Int),ts=[stT c n,.lst o (qs.map qtT),.int m]/\n<2 ^ 38/\qs.length<250000/\0<=m/\m<=20/\∀(c':Cells) (n':Nat) (rs:List Qt) (z:T),n<=n'->n'<=n+20->rs.length<=20->(∀r∈rs,r∈qs)->k (.lst true (rs.map qtT)) [stT c' n',z,.int m]
section
variable{P:RC}{w:RK}{K:Rr}{mg:Str->Option Rq}{base:RM}
theorem Ae:FnScope ["_law_state","_law_rows","_law_many"] ["_law_state","_law_rows","_law_many"] (aA yC):=⟨rfl,rfl,rfl,by decide +kernel,rfl,by decide +kernel,by decide +kernel⟩
theorem FW(F:Fun K "_law_some" "_law_some" yC f fd)(TX:Txt mg)  (Fa:Cal P w K mg base 1 "_law_take" ["_law_state","_law_many"] (aI K 2 kl)):FnOk P w K mg base CX0 2 f fd ["_law_state","_law_rows","_law_many"] (aI K 3 EK):=by
 refine cN F Ae [true,true,true] rfl (λcdv A outer s H E hr=>?_);have sc:=@Ae;have nd1:(["_law_turn","_law_rows","_law_state"]:List Str).Nodup:=by decide +kernel
 refine⟨_,(ai (dI (jh (br (A6 hr) (af 1) (aP ag) (aM _))) (aq (aH (aD (aP ag)))) bc) (aq (aH (bE sc ["_law_turn","_law_rows","_law_state"] [none,some 1,some 0] nd1 (by decide +kernel) (j6 (by rfl) TX.range (ae (cR 2) ag)) (λ_ _ _=>(au (i:=0) nd1 (by rfl) (bt rfl) (by rfl) (hf:=(i' rfl)))) (λ_ _ _=>bG) (λ_ _ _=>(az hr (cR 1) (av Fa hr (by rfl) (aN 2 (ah (aD (aF j5 (by rfl) TX.len (by decide +kernel) (ae (af 1) ag))) ax))))))))),λts kk hl hp=>?_⟩;clear hl;obtain⟨c,n,o,qs,m,rfl,hn,hl,m0,m1,q⟩:=hp;walk_at "go";refine G4 ?_;walk_at "go";refine aO (λh=>?_) (λh=>?_)
 ·walk_at "go";exact q c n [] _ (b_ _) (by lia) (A_ _) (λr m=>by cases m)
 have h0:0<qs.length:=N2.mpr h;walk_at "go";refine⟨by lia,aQ (by rw[dC,sizeLine_eq];lia) (λi acc ie=>∃(c':Cells) (n':Nat) (rs:List Qt) (z:T) (o':Bool),n<=n'/\n'<=n+i/\rs.length=i/\(∀r∈rs,r∈qs)/\acc=rs.map qtT/\ie=[z,.lst o' (qs.map qtT),stT c' n']) ⟨c,n,[],_,o,b_ _,b_ _,rfl,(λr m=>by cases m),rfl,rfl⟩ ?_ ?_⟩
 ·rintro i t _ _ ⟨c',n',rs,z,o',l1,l2,l3,hr,rfl,rfl⟩ ei;have hi:=j4 ei;walk_at "go";walk_at "take";intro r c2 a2 b2;walk_at "go";obtain⟨t,mt,e⟩:=qX (l:=qs.map qtT) (i:=r) a2 (by rw[a_];exact b2);obtain⟨v,mv,rfl⟩:=o_.mp mt;refine aZ e ?_;walk_at "go";refine⟨c2,n'+1,rs++[v],_,_,by lia,by lia,by rw[f',l3];rfl,λr m=>?_,by rw[l_];rfl,rfl⟩;rcases B_.mp m with m|m
  ·exact hr r m
  rw[C_.mp m];exact mv
 rintro _ _ ⟨c',n',rs,z,o',l1,l2,l3,hr,rfl,rfl⟩;rw[dC]at l2 l3;walk_at "go";exact q c' n' rs _ l1 (by lia) (by lia) hr
end
def wF:FP:=λts k=>∃(c:Cells) (n:Nat) (u:Bool) (qs:List Qt),ts=[stT c n,.dT u (dQ qs)]/\n<2 ^ 38/\upQ qs/\qs.length<250000/\∀(c':Cells) (n':Nat) (b:Bool) (rs:List Qt) (z:T),n<=n'->n'<=n+20->rs.Perm qs->k (.lst true (rs.map (qbT b true))) [stT c' n',z]
section
variable{P:RC}{w:RK}{K:Rr}{mg:Str->Option Rq}{base:RM}
theorem uA:FnScope ["_law_state","_law_held","_law_rows","_law_way","_law_cut"] ["_law_state","_law_held"] (aA t9):=⟨rfl,rfl,rfl,by decide +kernel,rfl,by decide +kernel,by decide +kernel⟩
theorem Be(F:Fun K "_law_strewn" "_law_strewn" t9 f fd)(TX:Txt mg)  (Fa:Cal P w K mg base 1 "_law_take" ["_law_state","_law_many"] (aI K 2 kl)):FnOk P w K mg base CX0 2 f fd ["_law_state","_law_held"] (aI K 2 wF):=by
 refine cN F uA [true,true] rfl (λcdv A outer s H E hr=>?_);have sc:=@uA;have nd1:(["_law_quarter"]:List Str).Nodup:=by decide +kernel
 refine⟨_,(ai (aC (i:=2) sc.nd (by rfl) (bt rfl) (by rfl) (aD (aF gw (by rfl) TX.sorted (by decide +kernel) (ae (aL (jr rfl) (by rfl) TX.list (by decide +kernel) (ae (af 1) ag)) ag)))) (ai (aC (i:=3) sc.nd (by rfl) (bt rfl) (by rfl) (av Fa hr (by rfl) (aN 0 (ah ge_int ax)))) (bF (dI (jh (br (cS hr) (af 3) ge_int (aM _))) (aq (ja (xH 2 U9 U_ qw))) bc) (bF (dI (jh (Cs (EM (br zj (af 3) ge_int (aM _)) (Ar (br (FV hr) (af 2) (aP ag) (aM _)))))) (ai (aC (i:=4) sc.nd (by rfl) (bt rfl) (by rfl) (av Fa hr (by rfl) (aN 0 (ah (aD (aF j5 (by rfl) TX.len (by decide +kernel) (ae (af 2) ag))) ax)))) (aq (aC (i:=2) sc.nd (by rfl) (bt rfl) (by rfl) (aD (aj ay (mR (af 2) (oy (af 4)) oZ) (mR (af 2) oZ (oy (af 4)))))))) bc) (bF (dI (jh (br (cS hr) (af 3) ge_int (aM _))) (aq (aC (i:=2) sc.nd (by rfl) (bt rfl) (by rfl) (aD (aj ay (yU (af 2) ge_int) (Bo (af 2) ge_int ge_int))))) bc) (bF (dI (br (cS hr) (av Fa hr (by rfl) (aN 0 (ah ge_int ax))) ge_int (aM _)) (aq (oJ sc (i:=2) ["_law_quarter"] [none] nd1 (by decide +kernel) (by rfl) (bt rfl) (by rfl) (cM (af 2)) (λ_ _ _=>(au (i:=0) nd1 (by rfl) (bt rfl) (by rfl) (hf:=(i' rfl)))) (λ_ _ _=>bG) (λ_ _ _=>(aL kh (by rfl) TX.list (by decide +kernel) (ae (af 0) ag))) (by rfl))) bc) (aq (aH (lR 2))))))))),λts kk hl hp=>?_⟩;clear hl;obtain⟨c,n,u,qs,rfl,hn,hu,hl,q⟩:=hp;walk_at "go";refine oO (o7 hu ?_);walk_at "go";walk_at "take";intro w' c1 a1 b1;walk_at "go";refine dG (λenv=>∃(rs:List Qt) (z:T),rs.Perm qs/\env=[stT c1 (n+1),.dT u (dQ qs),.lst true (rs.map qtT),.int w',z]) ?_ ?_
 ·walk_at "go";refine aO (λg=>?_) (λg=>?_)
  ·walk_at "go";exact⟨qs.reverse,_,OU _,by rw[P_]⟩
  walk_at "go";exact⟨qs,_,.refl _,rfl⟩
 rintro _ ⟨rs,z,pm,rfl⟩;refine dG (λenv=>∃(c':Cells) (n':Nat) (rs:List Qt) (z:T),n+1<=n'/\n'<=n+2/\rs.Perm qs/\env=[stT c' n',.dT u (dQ qs),.lst true (rs.map qtT),.int w',z]) ?_ ?_
 ·walk_at "go";refine aO (λg=>?_) (λg=>?_)
  ·walk_at "go";refine F5 ?_;walk_at "go";refine aO (λh=>?_) (λh=>?_)
   ·walk_at "go";exact⟨c1,n+1,rs,_,b_ _,by lia,pm,rfl⟩
   have h0:0<rs.length:=N2.mpr h;have hl':=pm.length_eq;walk_at "go";walk_at "take";intro r c2 a2 b2;walk_at "go";obtain⟨e1,e2⟩:=Hw (ts:=rs.map qtT) (m:=r) a2 (by rw[a_];exact b2);rw[e1,e2,<-Py,<-Pz,aR,aR,<-l_];refine⟨by rw[a_,a_,F',y_];lia,by rw[show((rs.drop r.toNat).all λx=>dO (qtT x))=true from cO _,show((rs.take r.toNat).all λx=>dO (qtT x))=true from cO _];rfl,c2,n+1+1,rs.drop r.toNat++rs.take r.toNat,_,by lia,by lia,?_,rfl⟩;exact(Na.trans (.of_eq (E_ _ _))).trans pm
  walk_at "go";exact⟨c1,n+1,rs,_,b_ _,by lia,pm,rfl⟩
 clear pm rs;rintro _ ⟨c2,n2,rs,z,l1,l2,pm,rfl⟩;refine dG (λenv=>∃(rs:List Qt) (z:T),rs.Perm qs/\env=[stT c2 n2,.dT u (dQ qs),.lst true (rs.map qtT),.int w',z]) ?_ ?_
 ·walk_at "go";refine aO (λg=>?_) (λg=>?_)
  ·walk_at "go";refine EY (by decide) (by decide) (by rw[aY];exact cO _) ?_;walk_at "go";refine EY (by decide) (by decide) (by rw[aY];exact cO _) ?_;walk_at "go";have pp:=BR rs;have pl:=pp.length_eq;have hl':=pm.length_eq;rw[f']at pl;rw[x4,x4,aR,aR,<-l_];exact⟨by rw[a_,a_];lia,by rw[show((cU rs 0 2).all λx=>dO (qtT x))=true from cO _,show((cU rs 1 2).all λx=>dO (qtT x))=true from cO _];rfl,_,_,pp.trans pm,rfl⟩
  walk_at "go";exact⟨rs,_,pm,rfl⟩
 clear pm rs;rintro _ ⟨rs,z,pm,rfl⟩;refine dG (λenv=>∃(c':Cells) (b:Bool) (rs:List Qt) (z:T),rs.Perm qs/\env=[stT c' (n2+1),.dT u (dQ qs),.lst true (rs.map (qbT b true)),.int w',z]) ?_ ?_
 ·walk_at "go";walk_at "take";intro r c3 a3 b3;walk_at "go";refine aO (λg=>?_) (λg=>?_)
  ·walk_at "go";refine aQ (by rw[a_,sizeLine_eq,pm.length_eq];lia) (λi acc ie=>∃z,acc=(rs.take i).map (qbT true true)/\ie=[z]) ⟨_,rfl,rfl⟩ ?_ ?_
   ·rintro i t _ _ ⟨z,rfl,rfl⟩ ei;obtain⟨m,em,rfl⟩:=bo ei;walk_at "go";exact⟨_,by rw[map_take em];rfl,rfl⟩
   rintro _ _ ⟨z,rfl,rfl⟩;rw[a_,yp];walk_at "go";exact⟨cO rs,c3,true,rs,_,pm,rfl⟩
  walk_at "go";exact⟨c3,false,rs,_,pm,rfl⟩
 clear pm rs;rintro _ ⟨c3,b,rs,z,pm,rfl⟩;walk_at "go";exact q c3 (n2+1) b rs _ (by lia) (by lia) pm
end
def xE:FP:=λts k=>∃(c:Cells) (n:Nat) (b:Bool),ts=[stT c n,.bl b]/\n<2 ^ 37/\∀(c':Cells) (n':Nat) (qs:List Qt) (z:T),n<=n'->n'<=n+1000->upQ qs->(∀q∈qs,okQ q)->qs.length<=230400->k (.dT true (dQ qs)) [stT c' n',z]
section
variable{P:RC}{w:RK}{K:Rr}{mg:Str->Option Rq}{base:RM}
theorem uK:FnScope ["_law_state","_law_broad","_law_x","_law_y","_law_wide","_law_high","_law_held","_law_turn","_law_spot","_law_quarter"] ["_law_state","_law_broad"] (aA sZ):=⟨rfl,rfl,rfl,by decide +kernel,rfl,by decide +kernel,by decide +kernel⟩
theorem BA(F:Fun K "_law_pocket" "_law_pocket" sZ f fd)(TX:Txt mg)  (Fa:Cal P w K mg base 1 "_law_take" ["_law_state","_law_many"] (aI K 2 kl))(Ch:Cal P w K mg base 2 "_law_outline" ["_law_state","_law_x","_law_y","_law_wide","_law_high"] (aI K 5 ur))(v4:Cal P w K mg base 2 "_law_inside" ["_law_corners"] (aI K 1 xf))(ww:Cal P w K mg base 2 "_law_island" ["_law_state","_law_x","_law_y"] (aI K 3 xN)):FnOk P w K mg base CX0 3 f fd ["_law_state","_law_broad"] (aI K 2 xE):=by
 refine cN F uK [true,true] rfl (λcdv A outer s H E hr=>?_);have sc:=@uK;refine⟨_,(bF (sQ (i:=2) (j:=3) (by rfl) sc.nd (by rfl) (by rfl) (by decide) (by rfl) (by rfl) (by rfl) (by rfl) (ae (aj aV (av Fa hr (by rfl) (aN 0 (ah ge_int ax))) ge_int) (ae (aj aV (av Fa hr (by rfl) (aN 0 (ah ge_int ax))) ge_int) ag)) (by rfl)) (bF (aC (i:=4) sc.nd (by rfl) (bt rfl) (by rfl) (az hr (aP (ae (aj ay ge_int (av Fa hr (by rfl) (aN 0 (ah ge_int ax)))) (ae (aj ay ge_int (av Fa hr (by rfl) (aN 0 (ah ge_int ax)))) ag))) (aD (aL jl (by rfl) TX.int (by decide +kernel) (ae (af 1) ag))))) (ai (aC (i:=5) sc.nd (by rfl) (bt rfl) (by rfl) (aj ay (aD (aj ay ge_int (aL jl (by rfl) TX.int (by decide +kernel) (ae (af 1) ag)))) (av Fa hr (by rfl) (aN 0 (ah (aD (aj ay ge_int (aL jl (by rfl) TX.int (by decide +kernel) (ae (af 1) ag)))) ax))))) (bF (aC (i:=6) sc.nd (by rfl) (bt rfl) (by rfl) (av v4 hr (by rfl) (ah (av Ch hr (by rfl) (aN 0 (ah (cR 2) (ah (cR 3) (ah (cR 4) (ah (cR 5) ax)))))) ax))) (bF (dM RU (by rfl) (j6 (by rfl) TX.range (ae (az hr (aD (aP (ae ge_int (ae ge_int (ae ge_int (ae ge_int (ae ge_int (ae ge_int ag)))))))) (av Fa hr (by rfl) (aN 0 (ah ge_int ax)))) ag)) (au (i:=7) sc.nd (by rfl) (bt rfl) (by rfl)) (ai (aC (i:=8) sc.nd (by rfl) (bt rfl) (by rfl) (aB (ae (aj ay (cR 2) (av Fa hr (by rfl) (aN 0 (ah (cR 4) ax)))) (ae (aj ay (cR 3) (av Fa hr (by rfl) (aN 0 (ah (cR 5) ax)))) ag)))) (aq (dM RU (by rfl) (A7 (av v4 hr (by rfl) (ah (av ww hr (by rfl) (aN 0 (ah (aD (az hr (af 8) ge_int)) (ah (aD (az hr (af 8) ge_int)) ax)))) ax))) (au (i:=9) sc.nd (by rfl) (bt rfl) (by rfl)) (aq (ja (DN (i:=6) hr (cR 9) lA ⟨rfl,rfl,rfl,rfl⟩))))))) (bF (dI (Cs (EM (jh (br (Gy hr) (af 6) vI (aM _))) (Ar (br (cS hr) (av Fa hr (by rfl) (aN 0 (ah ge_int ax))) ge_int (aM _))))) (aq (ja (Dh (i:=6) hr (az hr (aD (aF gw (by rfl) TX.sorted (by decide +kernel) (ae (aL (jr rfl) (by rfl) TX.list (by decide +kernel) (ae (af 6) ag)) ag))) (av Fa hr (by rfl) (aN 0 (ah (aD (aF j5 (by rfl) TX.len (by decide +kernel) (ae (af 6) ag))) ax)))) ⟨rfl,rfl,rfl,rfl⟩))) bc) (aq (aH (lR 6))))))))),λts kk hl hp=>?_⟩;clear hl;obtain⟨c,n,b,rfl,hn,q⟩:=hp;refine dG (λenv=>∃(c':Cells) (x y:Int),bd 50 x/\bd 50 y/\env=[stT c' (n+2),.bl b,.int x,.int y,.any,.any,.any,.any,.any,.any]) ?_ ?_
 ·walk_at "go";walk_at "take";intro x c1 x0 x1;walk_at "go";walk_at "take";intro y c2 y0 y1;walk_at "go";exact⟨c2,_,_,⟨by lia,by lia⟩,⟨by lia,by lia⟩,rfl⟩
 rintro _ ⟨c1,x,y,hx,hy,rfl⟩;refine dG (λenv=>∃(c':Cells) (wd:Int),8<=wd/\wd<=20/\env=[stT c' (n+4),.bl b,.int x,.int y,.int wd,.any,.any,.any,.any,.any]) ?_ ?_
 ·walk_at "go";walk_at "take";intro w1 c3 a3 b3;walk_at "go";walk_at "take";intro w2 c4 a4 b4;walk_at "go";obtain⟨wd,ew,w0,w5⟩:∃v:Int,atI [T.int (8+w1),.int (13+w2)] (if b=true then 1 else 0)=some (.int v)/\8<=v/\v<=20:=by
   cases b
   ·exact⟨_,rfl,by lia,by lia⟩
   exact⟨_,rfl,by lia,by lia⟩
  refine aZ ew ?_;walk_at "go";exact⟨c4,wd,w0,w5,rfl⟩
 rintro _ ⟨c2,wd,w0,w1,rfl⟩;obtain⟨bi,eb,bi0,bi1⟩:∃v:Int,(if b=true then(1:Int)else 0)=v/\0<=v/\v<=1:=by
  cases b
  ·exact⟨_,rfl,by decide,by decide⟩
  exact⟨_,rfl,by decide,by decide⟩
 walk_at "go";rw[eb];walk_at "take";intro h1 c5 a5 b5;walk_at "go";obtain⟨hx0,hx1⟩:=id hx;obtain⟨hy0,hy1⟩:=id hy;have hg0:8<=8+bi+h1/\8+bi+h1<=20:=by lia
 generalize 8+bi+h1=hg at *;refine dG (λenv=>∃(c':Cells) (n':Nat) (qs:List Qt),n+5<=n'/\n'<=n+25/\upQ qs/\(∀q∈qs,okQ q)/\qs.length<=230400/\env=[stT c' n',.bl b,.int x,.int y,.int wd,.int hg,.dT true (dQ qs),.any,.any,.any]) ?_ ?_
 ·walk_at "go";refine⟨c5,n+5,x,y,wd,hg,rfl,by lia,hx,hy,by lia,by lia,by lia,by lia,λc6 n6 ps l1 l2 p0 p1 pb=>?_⟩;walk_at "go";refine⟨true,ps,rfl,p0,by lia,rJ λp m=>E7 (jq pb m) (by decide),λqs z u1 u2 u3=>?_⟩;walk_at "go";exact⟨c6,n6,qs,by omega,by omega,u1,u2,u3,rfl⟩
 rintro _ ⟨c6,n6,qs,l1,l2,u1,u2,u3,rfl⟩;refine dG (λenv=>∃(c':Cells) (n':Nat) (qs:List Qt) (z7 z8 z9:T),n6<=n'/\n'<=n6+500/\upQ qs/\(∀q∈qs,okQ q)/\qs.length<=230400/\env=[stT c' n',.bl b,.int x,.int y,.int wd,.int hg,.dT true (dQ qs),z7,z8,z9]) ?_ ?_
 ·walk_at "go";walk_at "take";intro r c7 a7 b7;walk_at "go";obtain⟨v,ev,v0,v1⟩:=mY (λv=>0<=v/\v<=2) (ns:=[0,0,0,1,1,2]) (i:=r) (by omega) (by show r<6;omega) (by intro v hv;simp only[n_,Nv,or_false]at hv;lia)
  refine aZ ev ?_;walk_at "go";refine⟨by lia,cQ (λi env=>∃(c':Cells) (n':Nat) (qs:List Qt) (z7 z8 z9:T),n6<=n'/\n'<=n6+1+50*i/\upQ qs/\(∀q∈qs,okQ q)/\qs.length<=230400/\env=[stT c' n',.bl b,.int x,.int y,.int wd,.int hg,.dT true (dQ qs),z7,z8,z9]) ⟨c7,n6+1,qs,_,_,_,by lia,by lia,u1,u2,u3,rfl⟩ ?_ ?_⟩
  ·clear u1 u2 u3 qs;rintro i t7 _ ⟨c8,n8,qs,z7,z8,z9,l3,l4,u1,u2,u3,rfl⟩ ei;have hi:=j4 ei;walk_at "go";walk_at "take";intro r1 c9 a9 b9;walk_at "go";walk_at "take";intro r2 c10 a10 b10;walk_at "go";refine⟨c10,n8+1+1,x+r1,y+r2,rfl,by lia,bd_ad hx a9 b9 (by lia),bd_ad hy a10 b10 (by lia),λc11 n11 ps l5 l6 p0 p1 pb=>?_⟩;walk_at "go";refine⟨true,ps,rfl,p0,by lia,rJ λp m=>E7 (jq pb m) (by decide),λis z w1 w2 w3=>?_⟩;walk_at "go";refine cQ (λj env=>∃(qs:List Qt) (z9:T),upQ qs/\(∀q∈qs,okQ q)/\qs.length<=230400/\env=[stT c11 n11,.bl b,.int x,.int y,.int wd,.int hg,  .dT true (dQ qs),t7,.tup [.int (x+r1),.int (y+r2)],z9]) ⟨qs,_,u1,u2,u3,rfl⟩ ?_ ?_
   ·clear u1 u2 u3 qs;rintro j t _ ⟨qs,z9,u1,u2,u3,rfl⟩ ej;obtain⟨m,em,rfl⟩:=bo ej;walk_at "go";refine CW λrs u hs=>?_;exact⟨rs,_,u1.sublist hs,λq m=>u2 q (hs.subset m),p_ hs.length_le u3,rfl⟩
   clear u1 u2 u3 qs;rintro _ ⟨qs,z9,u1,u2,u3,rfl⟩;exact⟨c11,n11,qs,_,_,_,by lia,by lia,u1,u2,u3,rfl⟩
  clear u1 u2 u3 qs;rintro _ ⟨c8,n8,qs,z7,z8,z9,l3,l4,u1,u2,u3,rfl⟩;rw[dC]at l4;exact⟨c8,n8,qs,_,_,_,by omega,by lia,u1,u2,u3,rfl⟩
 clear u1 u2 u3 qs;rintro _ ⟨c7,n7,qs,z7,z8,z9,l3,l4,u1,u2,u3,rfl⟩;refine dG (λenv=>∃(c':Cells) (n':Nat) (qs:List Qt) (z7 z8 z9:T),n7<=n'/\n'<=n7+2/\upQ qs/\(∀q∈qs,okQ q)/\qs.length<=230400/\env=[stT c' n',.bl b,.int x,.int y,.int wd,.int hg,.dT true (dQ qs),z7,z8,z9]) ?_ ?_
 ·walk_at "go";rw[rO];refine m5 (λh=>?_) (λh=>?_)
  ·have h0:0<qs.length:=by have:=bne_iff_ne.mp h;lia
   walk_at "go";walk_at "take";intro r c8 a8 b8;walk_at "go";refine aO (λg=>?_) (λg=>?_)
   ·walk_at "go";refine oO (o7 u1 ?_);walk_at "go";rw[rO];walk_at "take";intro r2 c9 a9 b9;walk_at "go";obtain⟨t,mt,e⟩:=qX (l:=qs.map qtT) (i:=r2) a9 (by rw[a_];exact b9);obtain⟨v,mv,rfl⟩:=o_.mp mt;refine aZ e ?_;walk_at "go";refine Gq mv λrs u hs=>?_;exact⟨c9,n7+1+1,rs,_,_,_,by lia,by lia,u1.sublist hs,λq m=>u2 q (hs.subset m),p_ hs.length_le u3,rfl⟩
   walk_at "go";exact⟨c8,n7+1,qs,_,_,_,by lia,by lia,u1,u2,u3,rfl⟩
  walk_at "go";exact⟨c7,n7,qs,_,_,_,by lia,by lia,u1,u2,u3,rfl⟩
 clear u1 u2 u3 qs;rintro _ ⟨c8,n8,qs,z7,z8,z9,l5,l6,u1,u2,u3,rfl⟩;walk_at "go";exact q c8 n8 qs _ (by lia) (by lia) u1 u2 u3
end
def rE:FP:=λts k=>∃t,ts=[t]/\Kd3 t/\k (.bl (lO t)) ts
section
variable{P:RC}{w:RK}{K:Rr}{mg:Str->Option Rq}{base:RM}
theorem qB:FnScope ["row"] ["row"] (aA nW):=⟨rfl,rfl,rfl,by decide +kernel,rfl,by decide +kernel,by decide +kernel⟩
theorem wJ(F:Fun K "is_shown" "is_shown" nW f fd)(TX:Txt mg)  (wn:Cal P w K mg base 1 "is_number" ["thing"] (aI K 1 mB))(wr:Cal P w K mg base 1 "is_row" ["thing"] (aI K 1 pq))(pc:Cal P w K mg base 2 "are_numbers" ["thing","many"] (aI K 2 nF)):FnOk P w K mg base CX0 3 f fd ["row"] (aI K 1 rE):=by
 refine cN F qB [true] rfl (λcdv A outer s H E hr=>?_);have sc:=@qB;refine⟨_,(aq (aH (aD (kg (av wr hr (by rfl) (ah (af 0) ax)) (kg (iR (cS hr) (aF j5 (by rfl) TX.len (by decide +kernel) (ae (af 0) ag)) ge_int (aM _)) (kg (av wn hr (by rfl) (ah (az hr (af 0) ge_int) ax)) (kg (av pc hr (by rfl) (ah (az hr (af 0) ge_int) (ah ge_int ax))) (pH (av pc hr (by rfl) (ah (az hr (af 0) ge_int) (ah ge_int ax))))))))))),λts kk hl hp=>?_⟩;clear hl;obtain⟨t,rfl,⟨⟨c,ht⟩,hu⟩,q⟩:=hp;have hi:=tR ht;walk_at "go";refine⟨gC ht,er t,c,rfl,by rw[cL];exact ht,?_⟩;walk_at "go";refine m5 (λh=>?_) (λh=>?_)
 ·rw[h]at hi;obtain⟨us,eu⟩:=OG.mp hi;have eu2:items (er t)=some (erL us):=by rw[ji,eu];rfl
  walk_at "go";refine⟨gC ht,zV eu2 ?_⟩;walk_at "go";refine aO (λh2=>?_) (λh2=>?_)
  ·have h3:us.length=3:=by rw[jc]at h2;lia
   obtain⟨a,b,d,rfl⟩:=three h3;have es:lO t=(isI a&&(nums b 2&&nums d 3)):=by unfold lO;rw[eu]
   rw[es]at q;obtain⟨ka,-⟩:=hu _ eu a (by simp);obtain⟨kb,lb⟩:=hu _ eu b (by simp);obtain⟨kd,ld⟩:=hu _ eu d (by simp);obtain⟨ca,hca⟩:=ka.1;obtain⟨cb,hcb⟩:=kb.1;obtain⟨cd,hcd⟩:=kd.1;walk_at "go";refine⟨gC ht,mn (u:=er a) eu2 rfl ?_⟩;refine⟨er a,ca,rfl,by rw[cL];exact hca,?_⟩;have ei:isI a=decide (ca=.int):=by unfold isI;rw[hca];simp only[Oe]
   rw[ei]at q;walk_at "go";refine aO (λh4=>?_) (λh4=>?_)
   ·rw[decide_eq_true h4,Nu]at q;walk_at "go";refine⟨gC ht,mn (u:=er b) eu2 rfl ?_⟩;refine⟨er b,2,rfl,Hr kb,DU lb,?_⟩;rw[Av];walk_at "go";refine m5 (λh5=>?_) (λh5=>?_)
    ·rw[h5,Nu]at q;walk_at "go";refine⟨gC ht,mn (u:=er d) eu2 rfl ?_⟩;refine⟨er d,3,rfl,Hr kd,DU ld,?_⟩;rw[Av];walk_at "go";exact q
    rw[h5,Nw]at q;walk_at "go";exact q
   rw[decide_eq_false h4,Nw]at q;walk_at "go";exact q
  have h3:us.length≠3:=by rw[jc]at h2;lia
  rw[BD eu h3]at q;walk_at "go";exact q
 rw[h]at hi;rw[BL hi]at q;walk_at "go";exact q
end
def oX:FP:=λts k=>∃(M R:List Qt) (o1 o2:Bool) (c t:T) (x y a b s:Int),ts=[.dT o1 (dQ M),c,t,.dT o2 (dQ R)]/\items c=some [.int x,.int y]/\items t=some [.int a,.int b,.int s]/\(∀vs,t≠.cst vs)/\k (.bl ((kJ (dQ M) [.inl (a-x),.inl (b-y),.inl s]).isSome&&!(kJ (dQ R) [.inl a,.inl b,.inl s]).isSome)) ts
section
variable{P:RC}{w:RK}{K:Rr}{mg:Str->Option Rq}{base:RM}
theorem nG:FnScope ["near","corner","quarter","there","laid"] ["near","corner","quarter","there"] (aA lG):=⟨rfl,rfl,rfl,by decide +kernel,rfl,by decide +kernel,by decide +kernel⟩
theorem tE(F:Fun K "is_missing" "is_missing" lG f fd)(TX:Txt mg)  :FnOk P w K mg base CX0 1 f fd ["near","corner","quarter","there"] (aI K 4 oX):=by
 refine cN F nG [true,true,true,true] rfl (λcdv A outer s H E hr=>?_);have sc:=@nG;refine⟨_,(ai (aC (i:=4) sc.nd (by rfl) (bt rfl) (by rfl) (aD (aB (ae (aj aV (az hr (af 2) ge_int) (az hr (af 1) ge_int)) (ae (aj aV (az hr (af 2) ge_int) (az hr (af 1) ge_int)) (ae (az hr (af 2) ge_int) ag)))))) (aq (aH (aD (kg (iR (E8 hr) (af 4) (af 0) (by with_unfolding_all rfl)) (pH (iR (n5 hr) (aL iP (by rfl) TX.tuple (by decide +kernel) (ae (af 2) ag)) (af 3) (by with_unfolding_all rfl)))))))),λts kk hl hp=>?_⟩;clear hl;obtain⟨M,R,o1,o2,c,t,x,y,a,b,s,rfl,hc,ht,hn,q⟩:=hp;have hc2:items (er c)=some [.int x,.int y]:=by rw[ji,hc];rfl
 have ht2:items (er t)=some [.int a,.int b,.int s]:=by rw[ji,ht];rfl
 have ac:isAny (er c)=false:=qD hc;have at':isAny (er t)=false:=qD ht;walk_at "go";refine⟨at',mn (u:=.int a) ht2 rfl ⟨ac,mn (u:=.int x) hc2 rfl ?_⟩⟩;walk_at "go";refine⟨at',mn (u:=.int b) ht2 rfl ⟨ac,mn (u:=.int y) hc2 rfl ?_⟩⟩;walk_at "go";refine⟨at',mn (u:=.int s) ht2 rfl ?_⟩;walk_at "go";refine m5 (λh=>?_) (λh=>?_)
 ·rw[h,Nu]at q;walk_at "go";refine⟨at',Bn ht2 (Gw hn) ?_⟩;walk_at "go";exact q
 rw[h,Nw]at q;walk_at "go";exact q
end
def p8:FP:=λts k=>∃(c o b u c2 o2 b2 u2 b3 u3:Bool) (rs:List Qt) (tl:List Tl) (q:Qt) (t:T),ts=[rgT c o b u rs,tgT c2 o2 b2 u2 tl,qbT b3 u3 q,t]/\(rs.Nodup/\rs.length<250000/\tl.length<100/\∀t∈tl,tlO t)/\((∃(c4 o4 u4:Bool) (ps:List Pr),t=ppT c4 o4 u4 ps/\ps.length<=900000/\∀z1 z2 z3 z4,k (.bl (shB (tl.map nrQ) rs q ps)) [z1,z2,z3,z4])\/((t=.non\/∃o o',t=.lst o [.lst o' []])/\∀z1 z2 z3 z4,k (.bl false) [z1,z2,z3,z4]))
section
variable{P:RC}{w:RK}{K:Rr}{mg:Str->Option Rq}{base:RM}
theorem nJ:FnScope ["region","tools","quarter","paper","there","nears","wanted","number","near"] ["region","tools","quarter","paper"] (aA lM):=⟨rfl,rfl,rfl,by decide +kernel,rfl,by decide +kernel,by decide +kernel⟩
theorem tL(F:Fun K "shows_left" "shows_left" lM f fd)(TX:Txt mg)  (wr:Cal P w K mg base 1 "is_row" ["thing"] (aI K 1 pq))(At:Cal P w K mg base 4 "near_quarters" ["tool"] (aI K 1 jM))(AC:Cal P w K mg base 1 "noted" ["region"] (aI K 1 vq))(re:Cal P w K mg base 1 "corners_about" ["near","quarter"] (aI K 2 jO))(wv:Cal P w K mg base 3 "is_shown" ["row"] (aI K 1 rE))(wf:Cal P w K mg base 1 "is_missing" ["near","corner","quarter","there"] (aI K 4 oX)):FnOk P w K mg base CX0 5 f fd ["region","tools","quarter","paper"] (aI K 4 p8):=by
 refine cN F nJ [true,true,true,true] rfl (λcdv A outer s H E hr=>?_);have sc:=@nJ;have nd1:(["row"]:List Str).Nodup:=by decide +kernel
 have nd2:(["tool"]:List Str).Nodup:=by decide +kernel
 have nd3:(["corner","number"]:List Str).Nodup:=by decide +kernel
 have nd4:(["row"]:List Str).Nodup:=by decide +kernel
 have nd5:(["row","there","nears"]:List Str).Nodup:=by decide +kernel
 refine⟨_,(ai (dI (jh (Cs (Dc (DE (pQ (av wr hr (by rfl) (ah (af 3) ax)))) (yo (DE (pQ (aF (nr rfl) (by rfl) TX.all (by decide +kernel) (ae (bE sc ["row"] [none] nd1 (by decide +kernel) (cM (af 3)) (λ_ _ _=>(au (i:=0) nd1 (by rfl) (bt rfl) (by rfl) (hf:=(i' rfl)))) (λ_ _ _=>bG) (λ_ _ _=>(av wv hr (by rfl) (ah (af 0) ax)))) ag)))))))) (aq (aH jf)) bc) (ai (aC (i:=4) sc.nd (by rfl) (i' rfl) (by rfl) (aD (av AC hr (by rfl) (ah (af 0) ax)))) (ai (aC (i:=5) sc.nd (by rfl) (i' rfl) (by rfl) (aD (bE sc ["tool"] [none] nd2 (by decide +kernel) (cM (af 1)) (λ_ _ _=>(au (i:=0) nd2 (by rfl) (bt rfl) (by rfl) (hf:=(i' rfl)))) (λ_ _ _=>bG) (λ_ _ _=>(av AC hr (by rfl) (ah (av At hr (by rfl) (ah (af 0) ax)) ax)))))) (ai (aC (i:=6) sc.nd (by rfl) (bt rfl) (by rfl) (aD (aP ag))) (ai (dM RU (by rfl) (oA (by rfl) TX.enumerate (ae (cR 5) ag)) (iX (n:=2) (by rfl) (aE (au (i:=7) sc.nd (by rfl) (i' rfl) (by rfl)) (aE (au (i:=8) sc.nd (by rfl) (bt rfl) (by rfl)) gA))) (aq (ja (lN 6 Vk Vl rP (ae (aD (bE sc ["corner","number"] [none,some 7] nd3 (by decide +kernel) (cM (av re hr (by rfl) (ah (af 8) (ah (af 2) ax)))) (λ_ _ _=>(au (i:=0) nd3 (by rfl) (bt rfl) (by rfl) (hf:=(i' rfl)))) (λ_ _ _=>bG) (λ_ _ _=>(aB (ae (af 1) (ae (af 0) ag)))))) ag))))) (ai (dI (jh (br (Hi hr) (aF (tK hr) (by rfl) TX.sorted (by decide +kernel) (ae (bE sc ["row"] [none] nd4 (by decide +kernel) (cM (af 3)) (λ_ _ _=>(au (i:=0) nd4 (by rfl) (bt rfl) (by rfl) (hf:=(i' rfl)))) (λ_ _ _=>bG) (λ_ _ _=>(aB (ae (az hr (af 0) ge_int) (ae (aL iP (by rfl) TX.tuple (by decide +kernel) (ae (az hr (af 0) ge_int) ag)) ag))))) ag)) (af 6) (aM _))) (aq (aH jf)) bc) (aq (aH (aD (aF (nr rfl) (by rfl) TX.all (by decide +kernel) (ae (bE sc ["row","there","nears"] [none,some 4,some 5] nd5 (by decide +kernel) (cM (af 3)) (λ_ _ _=>(au (i:=0) nd5 (by rfl) (bt rfl) (by rfl) (hf:=(i' rfl)))) (λ_ _ _=>bG) (λ_ _ _=>(av wf hr (by rfl) (ah (az hr (af 2) (az hr (af 0) ge_int)) (ah (az hr (af 0) ge_int) (ah (az hr (af 0) ge_int) (ah (af 1) ax))))))) ag))))))))))),λts kk hl hp=>?_⟩;clear hl;obtain⟨c,o,b,u,c2,o2,b2,u2,b3,u3,rs,tl,q',t,rfl,⟨hd,hl,ht,ho⟩,q⟩:=hp;walk_at "go";rcases q with⟨c4,o4,u4,ps,rfl,lp,q⟩|⟨rfl|⟨o4,o5,rfl⟩,q⟩
 case inr.inl=>
  refine⟨rfl,.non,_,rfl,rfl,zO rfl ?_⟩;walk_at "go";exact q _ _ _ _
 case inr.inr=>
  refine⟨rfl,.lst false [.lst false []],_,rfl,rfl,ng rfl ?_⟩;walk_at "go";refine aQ (by decide) (λi acc ie=>∃z,acc=([()].take i).map (λ_=>T.bl false)/\ie=[z]) ⟨_,rfl,rfl⟩ ?_ ?_
  ·rintro i u _ _ ⟨z,rfl,rfl⟩ ei;obtain⟨x,ex,rfl⟩:=bo (l:=[()]) (g:=λ_=>T.lst false []) ei;walk_at "go";refine⟨_,rfl,⟨⟨_,rfl⟩,λus e v m=>by cases e;cases m⟩,?_⟩;walk_at "go";exact⟨_,by rw[map_take ex];rfl,rfl⟩
  rintro _ _ ⟨z,rfl,rfl⟩;walk_at "go";refine ng rfl ?_;walk_at "go";exact q _ _ _ _
 obtain⟨y,ey,hy⟩:=IQ (c:=c4) (o:=false) (u:=false) (ps:=ps);rw[gE];refine⟨bA,_,y,rfl,ey,?_⟩;rw[hy];walk_at "go";refine aQ (by rw[a_,sizeLine_eq];lia) (λi acc ie=>∃z,acc=(ps.take i).map (λ_=>T.bl true)/\ie=[z]) ⟨_,rfl,rfl⟩ ?_ ?_
 ·rintro i u _ _ ⟨z,rfl,rfl⟩ ei;obtain⟨r,er,rfl⟩:=bo ei;walk_at "go";refine⟨_,rfl,A8.1,?_⟩;rw[A8.2];walk_at "go";exact⟨_,by rw[map_take er],rfl⟩
 rintro _ _ ⟨z,rfl,rfl⟩;rw[a_,yp];walk_at "go";rw[show(ps.map λ_=>true).all id=true by rw[NV];exact NU.mpr λ_ _=>rfl];walk_at "go";refine⟨c,false,b,false,rs,rfl,hd,hl,?_⟩;walk_at "go";refine aQ (by rw[a_,sizeLine_eq];lia) (λi acc ie=>∃z,acc=(tl.take i).map (λt=>T.dT true (dQ (nrQ t)))/\ie=[z]) ⟨_,rfl,rfl⟩ ?_ ?_
 ·rintro i u _ _ ⟨z,rfl,rfl⟩ ei;obtain⟨t,et,rfl⟩:=bo ei;have hto:=ho t (B' et);have ln:=qe hto;walk_at "go";refine⟨b2,false,t,rfl,hto,?_⟩;walk_at "go";refine⟨false,true,false,false,nrQ t,rfl,HS F0,by lia,?_⟩;walk_at "go";exact⟨_,by rw[map_take et],rfl⟩
 rintro _ _ ⟨z,rfl,rfl⟩;rw[a_,yp];walk_at "go";refine cQ (λi env=>∃(wl:List Nk) (z7 z8:T),wl++wnL q' i ((tl.map nrQ).drop i)=wnL q' 0 (tl.map nrQ)/\wl.length<=10000*i/\env=[rgT c o b u rs,tgT c2 o2 b2 u2 tl,qbT b3 u3 q',ppT c4 o4 u4 ps,.dT true (dQ rs),.lst false (tl.map λt=>T.dT false (dQ (nrQ t))),.lst true (wl.map nkT),z7,z8]) ⟨[],_,_,rfl,A_ _,rfl⟩ ?_ ?_
 ·rintro i t _ ⟨wl,z7,z8,ew,lw,rfl⟩ ei;obtain⟨t,et,rfl⟩:=oj rfl ei;have hi:i<tl.length:=(c_.mp et).1;have ln:=qe (ho t (B' et));rw[lu (show(tl.map nrQ)[i]?=some (nrQ t) by rw[k_,et];rfl),wnL]at ew;generalize (tl.map nrQ).drop (i+1)=Ms at *;generalize nrQ t=M at *;walk_at "go";refine⟨true,false,b3,false,M,q',rfl,by lia,?_⟩;have lc:=pf (abL M q');have lb:=qQ M q';generalize srP (abL M q')=cs at *;walk_at "go";refine aQ (by rw[a_,sizeLine_eq];lia) (λj acc ie=>∃z,acc=(cs.take j).map (λp=>nkT ((i:Int),jW p))/\ie=[z,.int (i:Int)]) ⟨_,rfl,rfl⟩ ?_ ?_
  ·rintro j u _ _ ⟨z,rfl,rfl⟩ ej;obtain⟨p,ep,rfl⟩:=bo ej;walk_at "go";exact⟨_,by rw[map_take ep];rfl,rfl⟩
  rintro _ _ ⟨z,rfl,rfl⟩;rw[a_,yp];walk_at "go";refine⟨NU.mpr λ_ _=>rfl,by lia,wl++cs.map (λp=>((i:Int),jW p)),_,_,by rw[<-ew,gV],by rw[f',a_];lia,by rw[l_,z_];rfl⟩
 rintro _ ⟨wl,z7,z8,ew,lw,rfl⟩;rw[lX rfl,<-a_ (f:=nrQ),NI,wnL,H_]at ew;subst ew;walk_at "go";refine aQ (by rw[a_,sizeLine_eq];lia) (λj acc ie=>∃z,acc=(ps.take j).map (λr=>nkT (pk r))/\ie=[z]) ⟨_,rfl,rfl⟩ ?_ ?_
 ·rintro j u _ _ ⟨z,rfl,rfl⟩ ej;obtain⟨r,er,rfl⟩:=bo ej;walk_at "go";exact⟨_,by rw[map_take er];rfl,rfl⟩
 rintro _ _ ⟨z,rfl,rfl⟩;rw[a_,yp];walk_at "go";refine E1 (ps.map pk) (by rw[z_];rfl) ?_;walk_at "go";refine L9 ?_;walk_at "go";have q:∀z1 z2 z3 z4,kk (.bl (decide (srN (ps.map pk)=wnL q' 0 (tl.map nrQ))&&ps.all (msB (tl.map nrQ) rs))) [z1,z2,z3,z4]:=q;refine aO (λg=>?_) (λg=>?_)
 rotate_left
 ·rw[decide_eq_false g,Nw]at q;walk_at "go";exact q _ _ _ _
 rw[decide_eq_true g,Nu]at q;walk_at "go";refine aQ (by rw[a_,sizeLine_eq];lia) (λj acc ie=>∃z,acc=(ps.take j).map (λr=>T.bl (msB (tl.map nrQ) rs r))/\ie=[z,.dT false (dQ rs),.lst false (tl.map λt=>T.dT false (dQ (nrQ t)))]) ⟨_,rfl,rfl⟩ ?_ ?_
 ·rintro j u _ _ ⟨z,rfl,rfl⟩ ej;obtain⟨r,er,rfl⟩:=bo ej;walk_at "go";have mr:pk r∈wnL q' 0 (tl.map nrQ):=(xb.mp g).mem_iff.mp (I_ (B' er));obtain⟨n,hn,en⟩:=FD mr;have en:r.2.1=(n:Int):=by rw[Ol]at en;exact en
  rw[a_]at hn;obtain⟨t,et⟩:∃t,tl[n]?=some t:=⟨_,d_ hn⟩;refine aZ (show atI (tl.map λt=>T.dT false (dQ (nrQ t))) r.2.1=some (.dT false (dQ (nrQ t))) by rw[en];exact j8 (by rw[k_,et];rfl)) ?_;walk_at "go";refine⟨nrQ t,rs,false,false,prC false r,prQ false r,_,_,_,_,_,rfl,nu,mT,Du,?_⟩;rw[show(kJ (dQ (nrQ t)) [So (r.2.2.2.1-r.2.2.1.1),So (r.2.2.2.2.1-r.2.2.1.2),So (r.2.2.2.2.2:Int)]).isSome=decide (((r.2.2.2.1-r.2.2.1.1,r.2.2.2.2.1-r.2.2.1.2,r.2.2.2.2.2):Qt)∈nrQ t)from ql (q:=(r.2.2.2.1-r.2.2.1.1,r.2.2.2.2.1-r.2.2.1.2,r.2.2.2.2.2)),show(kJ (dQ rs) [So r.2.2.2.1,So r.2.2.2.2.1,So (r.2.2.2.2.2:Int)]).isSome=decide (r.2.2.2∈rs)from ql (q:=r.2.2.2)];have em:msB (tl.map nrQ) rs r=(decide (((r.2.2.2.1-r.2.2.1.1,r.2.2.2.2.1-r.2.2.1.2,r.2.2.2.2.2):Qt)∈nrQ t)&&!decide (r.2.2.2∈rs)):=by
   unfold msB;rw[en,Nl,A',k_,et]
   rfl
  rw[<-em];walk_at "go";exact⟨_,by rw[map_take er],rfl⟩
 rintro _ _ ⟨z,rfl,rfl⟩;rw[a_,yp];walk_at "go";rw[NV];exact q _ _ _ _
end
def xD:FP:=λts k=>∃(o:Bool) (M:List Qt) (p:Pt),ts=[.lst o (M.map qtT),ptP p]/\M.length<100000/\k (.lst true ((M.map (mvQ p)).map qtT)) ts
section
variable{P:RC}{w:RK}{K:Rr}{mg:Str->Option Rq}{base:RM}
theorem uq:FnScope ["_law_base","_law_corner"] ["_law_base","_law_corner"] (aA rh):=⟨rfl,rfl,rfl,by decide +kernel,rfl,by decide +kernel,by decide +kernel⟩
theorem Bt(F:Fun K "_law_moved" "_law_moved" rh f fd)(TX:Txt mg)  :FnOk P w K mg base CX0 1 f fd ["_law_base","_law_corner"] (aI K 2 xD):=by
 refine cN F uq [true,true] rfl (λcdv A outer s H E hr=>?_);have sc:=@uq;have nd1:(["_law_one","_law_other","_law_side","_law_corner"]:List Str).Nodup:=by decide +kernel
 refine⟨_,(aq (aH (aD (bE sc ["_law_one","_law_other","_law_side","_law_corner"] [none,none,none,some 1] nd1 (by decide +kernel) (cM (af 0)) (λ_ _ _=>(iX (n:=3) (by rfl) (aE (au (i:=0) nd1 (by rfl) (bt rfl) (by rfl) (hf:=(i' rfl))) (aE (au (i:=1) nd1 (by rfl) (bt rfl) (by rfl) (hf:=(i' rfl))) (aE (au (i:=2) nd1 (by rfl) (bt rfl) (by rfl) (hf:=(i' rfl))) gA))))) (λ_ _ _=>bG) (λ_ _ _=>(aB (ae (aj ay (az hr (af 3) ge_int) (af 0)) (ae (aj ay (az hr (af 3) ge_int) (af 1)) (ae (af 2) ag))))))))),λts kk hl hp=>?_⟩;clear hl;obtain⟨o,M,p,rfl,hl,q⟩:=hp;walk_at "go";refine aQ (by rw[a_,sizeLine_eq];lia) (λi acc ie=>∃z1 z2 z3,acc=((M.take i).map (mvQ p)).map qtT/\ie=[z1,z2,z3,ptP p]) ⟨_,_,_,rfl,rfl⟩ ?_ ?_
 ·rintro i t _ _ ⟨z1,z2,z3,rfl,rfl⟩ ei;obtain⟨m,em,rfl⟩:=bo ei;walk_at "go";exact⟨_,_,_,by rw[map_take em,l_];rfl,rfl⟩
 rintro _ _ ⟨z1,z2,z3,rfl,rfl⟩;rw[a_,yp];walk_at "go";exact q
end
def xX:FP:=λts k=>∃(u v:Bool) (rs M:List Qt) (p:Pt),ts=[.dT u (dQ rs),.dT v (dQ M),ptP p]/\upQ M/\M.length<100000/\k (.lst true (((M.map (mvQ p)).filter λz=>decide (z ∉ rs)).map qtT)) ts
section
variable{P:RC}{w:RK}{K:Rr}{mg:Str->Option Rq}{base:RM}
theorem uT:FnScope ["_law_held","_law_mark_here","_law_corner"] ["_law_held","_law_mark_here","_law_corner"] (aA sS):=⟨rfl,rfl,rfl,by decide +kernel,rfl,by decide +kernel,by decide +kernel⟩
theorem BU(F:Fun K "_law_beyond" "_law_beyond" sS f fd)(TX:Txt mg)  (wP:Cal P w K mg base 1 "_law_moved" ["_law_base","_law_corner"] (aI K 2 xD)):FnOk P w K mg base CX0 2 f fd ["_law_held","_law_mark_here","_law_corner"] (aI K 3 xX):=by
 refine cN F uT [true,true,true] rfl (λcdv A outer s H E hr=>?_);have sc:=@uT;have nd1:(["_law_one","_law_held"]:List Str).Nodup:=by decide +kernel
 refine⟨_,(aq (aH (aD (bE sc ["_law_one","_law_held"] [none,some 0] nd1 (by decide +kernel) (cM (av wP hr (by rfl) (ah (aF gw (by rfl) TX.sorted (by decide +kernel) (ae (aL (jr rfl) (by rfl) TX.list (by decide +kernel) (ae (af 1) ag)) ag)) (ah (af 2) ax)))) (λ_ _ _=>(au (i:=0) nd1 (by rfl) (bt rfl) (by rfl) (hf:=(i' rfl)))) (λ_ _ _=>(nZ (br (n5 hr) (af 0) (af 1) (by with_unfolding_all rfl)))) (λ_ _ _=>(af 0)))))),λts kk hl hp=>?_⟩;clear hl;obtain⟨u,v,rs,M,p,rfl,hu,hl,q⟩:=hp;walk_at "go";refine oO (o7 hu ?_);refine⟨_,M,p,rfl,hl,?_⟩;walk_at "go";refine aQ (by rw[a_,a_,sizeLine_eq];lia) (λi acc ie=>∃z,acc=(((M.map (mvQ p)).take i).filter λz=>decide (z ∉ rs)).map qtT/\ie=[z,.dT false (dQ rs)]) ⟨_,rfl,rfl⟩ ?_ ?_
 ·rintro i t _ _ ⟨z,rfl,rfl⟩ ei;obtain⟨m,em,rfl⟩:=bo ei;walk_at "go";rw[show(kJ (dQ rs) [So m.1,So m.2.1,So (m.2.2:Int)]).isSome=decide (m∈rs)from ql (q:=m)];refine aO (λh=>?_) (λh=>?_)
  ·walk_at "go";exact⟨_,by rw[y8 em,if_neg (by simp[h]),H_],rfl⟩
  walk_at "go";exact⟨_,by rw[y8 em,if_pos (by simp[h]),l_];rfl,rfl⟩
 rintro _ _ ⟨z,rfl,rfl⟩;rw[a_,yp];walk_at "go";exact q
end
def qu:FP:=λts k=>∃(c:Cells) (n:Nat) (u o v o2:Bool) (rs:List Qt) (q:Qt) (tl:List Tl) (l:List Rw),ts=[stT c n,.dT u (dQ rs),.lst o (tl.map λt=>.dT v (dQ (nrQ t))),.lst o2 (l.map nK)]/\n<2 ^ 38/\(okQ q/\tl.length<100/\∀t∈tl,tlO t)/\wyN rs q 0 (tl.map nrQ)=some l/\l.length<=100000/\∀(c':Cells) (n':Nat) (e:Bool) (ps:List Pr),n'<=n+300001->ps.length=l.length->(∀r∈ps,rOk r)->shB (tl.map nrQ) rs q ps=true->∀z1 z2 z3,k (ppT e false false ps) [stT c' n',z1,z2,z3]
section
variable{P:RC}{w:RK}{K:Rr}{mg:Str->Option Rq}{base:RM}
theorem ph:FnScope ["_law_state","_law_held","_law_marks_here","_law_paper","_law_rows","_law_number","_law_corner","_law_quarter","_law_beyond_here","_law_row"] ["_law_state","_law_held","_law_marks_here","_law_paper"] (aA m4):=⟨rfl,rfl,rfl,by decide +kernel,rfl,by decide +kernel,by decide +kernel⟩
theorem vG(F:Fun K "_law_otherwise" "_law_otherwise" m4 f fd)(TX:Txt mg)  (Fa:Cal P w K mg base 1 "_law_take" ["_law_state","_law_many"] (aI K 2 kl))(po:Cal P w K mg base 2 "_law_beyond" ["_law_held","_law_mark_here","_law_corner"] (aI K 3 xX)):FnOk P w K mg base CX0 3 f fd ["_law_state","_law_held","_law_marks_here","_law_paper"] (aI K 4 qu):=by
 refine cN F ph [true,true,true,true] rfl (λcdv A outer s H E hr=>?_);have sc:=@ph;refine⟨_,(ai (aC (i:=4) sc.nd (by rfl) (bt rfl) (by rfl) (aP ag)) (ai (dM RU (by rfl) (cM (cR 3)) (iX (n:=3) (by rfl) (aE (au (i:=5) sc.nd (by rfl) (bt rfl) (by rfl)) (aE (au (i:=6) sc.nd (by rfl) (bt rfl) (by rfl)) (aE (au (i:=7) sc.nd (by rfl) (bt rfl) (by rfl)) gA)))) (ai (aC (i:=8) sc.nd (by rfl) (bt rfl) (by rfl) (aD (av po hr (by rfl) (ah (af 1) (ah (az hr (af 2) (af 5)) (ah (af 6) ax)))))) (ai (aC (i:=7) sc.nd (by rfl) (bt rfl) (by rfl) (az hr (cR 8) (av Fa hr (by rfl) (aN 0 (ah (aD (aF j5 (by rfl) TX.len (by decide +kernel) (ae (af 8) ag))) ax))))) (ai (aC (i:=9) sc.nd (by rfl) (bt rfl) (by rfl) (aD (aB (ae (af 5) (ae (af 6) (ae (af 7) ag)))))) (bF (dI (br (cS hr) (av Fa hr (by rfl) (aN 0 (ah ge_int ax))) ge_int (aM _)) (aq (aC (i:=9) sc.nd (by rfl) (bt rfl) (by rfl) (aP (ae (cR 5) (ae (aD (aL kh (by rfl) TX.list (by decide +kernel) (ae (af 6) ag))) (ae (aD (aL kh (by rfl) TX.list (by decide +kernel) (ae (af 7) ag))) ag)))))) bc) (aq (ja (lN 4 PySem.F.slot_list_insert PySem.F.type_list_insert yY (ae (av Fa hr (by rfl) (aN 0 (ah (aD (aj ay (aF j5 (by rfl) TX.len (by decide +kernel) (ae (af 4) ag)) ge_int)) ax))) (ae (cR 9) ag)))))))))) (aq (aH (az hr (aP (ae (cR 4) (ae (aL iP (by rfl) TX.tuple (by decide +kernel) (ae (cR 4) ag)) ag))) (av Fa hr (by rfl) (aN 0 (ah ge_int ax)))))))),λts kk hl hp=>?_⟩;clear hl;obtain⟨c,n,u,o,v,o2,rs,q',tl,l,rfl,hn,⟨hq',ht,ho⟩,hw,hl,q⟩:=hp;obtain⟨hk,hf⟩:=oE hw;walk_at "go";refine cQ (λi env=>∃(c':Cells) (n':Nat) (ps:List Pr) (z5 z6 z7 z8 z9:T),n'<=n+3*i/\ps.length=i/\(ps.map pk).Perm ((l.take i).map rwK)/\(∀r∈ps,∃(n:Nat) (M:List Qt) (m:Qt),r.2.1=(n:Int)/\(tl.map nrQ)[n]?=some M/\m∈M/\r.2.2.2=mvQ r.2.2.1 m/\r.2.2.2 ∉ rs)/\env=[stT c' n',.dT u (dQ rs),.lst o (tl.map λt=>.dT v (dQ (nrQ t))),.lst false (l.map nK),.lst true (ps.map (prT false)),z5,z6,z7,z8,z9]) ⟨c,n,[],_,_,_,_,_,b_ _,rfl,.refl _,(λr m=>by cases m),rfl⟩ ?_ ?_
 ·rintro i t _ ⟨c',n',ps,z5,z6,z7,z8,z9,ln,lp,pm,hr,rfl⟩ ei;obtain⟨w,ew,rfl⟩:=bo ei;have hi:i<l.length:=(c_.mp ew).1;obtain⟨_,M,eM,fM⟩:=hf w (B' ew);rw[QB]at eM;obtain⟨tt,et,rfl⟩:∃tt,tl[w.1]?=some tt/\nrQ tt=M:=by rw[k_]at eM;exact NJ.mp eM
  walk_at "go";refine aZ (show atI (tl.map λt=>T.dT false (dQ (nrQ t))) (w.1:Int)=some (.dT false (dQ (nrQ tt)))from j8 (by rw[k_,et];rfl)) ?_;walk_at "go";have ln2:=qe (ho tt (B' et));refine⟨_,_,rs,nrQ tt,w.2.1,rfl,F0,by lia,?_⟩;obtain⟨⟨m0,mm0,e0⟩,n0⟩:=vW fM;have hb:∀z,z∈((nrQ tt).map (mvQ w.2.1)).filter (λz=>decide (z ∉ rs))->∃m∈nrQ tt,z=mvQ w.2.1 m/\z ∉ rs:=by intro z mz;obtain⟨m1,m2⟩:=Nd.mp mz;obtain⟨m,mm,e⟩:=o_.mp m1;exact⟨m,mm,e.symm,of_decide_eq_true m2⟩
  have hp:0<(((nrQ tt).map (mvQ w.2.1)).filter (λz=>decide (z ∉ rs))).length:=Ql (a:=w.2.2) (Nd.mpr ⟨o_.mpr ⟨m0,mm0,e0.symm⟩,decide_eq_true n0⟩);have lB:=Oo (λz=>decide (z ∉ rs)) ((nrQ tt).map (mvQ w.2.1));rw[a_]at lB;generalize ((nrQ tt).map (mvQ w.2.1)).filter (λz=>decide (z ∉ rs))=B at *;walk_at "go";walk_at "take";intro x c1 a1 b1;walk_at "go";obtain⟨t,mt,e⟩:=qX (l:=B.map qtT) (i:=x) a1 (by rw[a_];exact b1);obtain⟨z,mz,rfl⟩:=o_.mp mt;refine aZ e ?_;walk_at "go";refine dG (λenv=>∃(c':Cells) (b:Bool) (z5 z6 z7 z8:T),env=[stT c' (n'+1+1),.dT u (dQ rs),.lst o (tl.map λt=>.dT v (dQ (nrQ t))),.lst false (l.map nK),.lst true (ps.map (prT false)),z5,z6,z7,z8,prT true (b,(w.1:Int),w.2.1,z)]) ?_ ?_
  ·walk_at "go";walk_at "take";intro y c2 a2 b2;walk_at "go";refine aO (λh=>?_) (λh=>?_)
   ·walk_at "go";refine⟨rfl,?_⟩;first|exact⟨c2,true,_,_,_,_,rfl⟩|exact⟨rfl,c2,true,_,_,_,_,rfl⟩
   walk_at "go";exact⟨c2,false,_,_,_,_,rfl⟩
  rintro _ ⟨c2,b,z5,z6,z7,z8,rfl⟩;walk_at "go";walk_at "take";intro y c3 a3 b3;walk_at "go";rw[<-Pz,<-Py,<-e_,<-l_];have pm2:(ps.take y.toNat++(b,(w.1:Int),w.2.1,z)::ps.drop y.toNat).Perm ((b,(w.1:Int),w.2.1,z)::ps):=f_.trans ((Q3 (E_ _ _)).cons _);refine⟨by lia,c3,_,_,_,_,_,_,_,by lia,by rw[pm2.length_eq,j_,lp],?_,λr mr=>?_,rfl⟩
  ·rw[Nm,ew,show(l.take i++(some w).toList).map rwK=(l.take i).map rwK++[pk (b,(w.1:Int),w.2.1,z)] by rw[l_];rfl];exact(pm2.map pk).trans ((pm.cons _).trans (List.perm_append_singleton _ _).symm)
  rcases n_.mp (pm2.mem_iff.mp mr)with rfl|mr
  ·obtain⟨m,mm,e1,e2⟩:=hb z mz;exact⟨w.1,nrQ tt,m,rfl,by rw[k_,et];rfl,mm,e1,e2⟩
  exact hr r mr
 rintro _ ⟨c',n',ps,z5,z6,z7,z8,z9,ln,lp,pm,hr,rfl⟩;rw[a_]at ln lp pm;rw[yp]at pm;have hs:=wL hw pm hr;have ho2:∀r∈ps,rOk r:=λr mr=>by obtain⟨n,M,m,_,e2,mm,e3,_⟩:=hr r mr;exact DQ hq' ho (by lia) (by rw[<-hk];exact pm.mem_iff.mp (I_ mr)) ⟨n,M,m,e2,mm,e3⟩
 walk_at "go";walk_at "take";intro y c2 a2 b2;walk_at "go";obtain rfl|rfl:y=0\/y=1:=by lia
 ·refine aZ (show _=some (ppT false false false ps)from rfl) ?_;walk_at "go";exact q c2 (n'+1) false ps (by lia) lp ho2 hs _ _ _
 refine aZ (show _=some (ppT true false false ps)from rfl) ?_;walk_at "go";exact q c2 (n'+1) true ps (by lia) lp ho2 hs _ _ _
theorem Dx:FnScope ["_law_script","_law_state","_law_held","_law_region","_law_tools_here","_law_marks_here","_law_some_here","_law_papers","_law_seen","_law_quarter","_law_due","_law_paper","_law_kept","_law_bad"] ["_law_script"] (aA mM):=⟨rfl,rfl,rfl,by decide +kernel,rfl,by decide +kernel,by decide +kernel⟩
theorem Kg(F:Fun K "law" "law" mM f fd)(TX:Txt mg)  (Gc:Cal P w K mg base 5 "why_left" ["region","tools","quarter"] (aI K 3 rN))(Db:Cal P w K mg base 5 "shows_left" ["region","tools","quarter","paper"] (aI K 4 p8))(pi:Cal P w K mg base 1 "_law_begin" ["_law_script"] (aI K 1 (vX K)))(Fa:Cal P w K mg base 1 "_law_take" ["_law_state","_law_many"] (aI K 2 kl))(Fk:Cal P w K mg base 2 "_law_tool" ["_law_state","_law_most"] (aI K 2 zg))(Cl:Cal P w K mg base 3 "_law_pocket" ["_law_state","_law_broad"] (aI K 2 xE))(EQ:Cal P w K mg base 2 "_law_strewn" ["_law_state","_law_held"] (aI K 2 wF))(xL:Cal P w K mg base 3 "_law_marks" ["_law_tools_here"] (aI K 1 AM))(FM:Cal P w K mg base 2 "_law_why" ["_law_held","_law_marks_here","_law_quarter"] (aI K 3 HR))(FB:Cal P w K mg base 3 "_law_tools" ["_law_state","_law_most","_law_least"] (aI K 3 Ao))(Do:Cal P w K mg base 2 "_law_some" ["_law_state","_law_rows","_law_many"] (aI K 3 EK))(BT:Cal P w K mg base 3 "_law_otherwise" ["_law_state","_law_held","_law_marks_here","_law_paper"] (aI K 4 qu)):FnOk P w K mg base CX0 6 f fd ["_law_script"] (aI K 1 (Cj K)):=by
 refine cN F Dx [true] rfl (λcdv A outer s H E hr=>?_);have sc:=@Dx;have nd1:(["_law_turn","_law_state"]:List Str).Nodup:=by decide +kernel
 have nd2:(["_law_tool_here"]:List Str).Nodup:=by decide +kernel
 have nd3:(["_law_paper","_law_quarter","_law_tools_here","_law_region"]:List Str).Nodup:=by decide +kernel
 refine⟨_,(bF (aC (i:=1) sc.nd (by rfl) (i' rfl) (by rfl) (aD (av pi hr (by rfl) (ah (af 0) ax)))) (bF (aC (i:=2) sc.nd (by rfl) (bt rfl) (by rfl) (av Cl hr (by rfl) (aN 1 (ah (iR (cS hr) (av Fa hr (by rfl) (aN 1 (ah ge_int ax))) ge_int (aM _)) ax)))) (bF (aC (i:=3) sc.nd (by rfl) (i' rfl) (by rfl) (av EQ hr (by rfl) (aN 1 (ah (cR 2) ax)))) (bF (aC (i:=4) sc.nd (by rfl) (i' rfl) (by rfl) (av FB hr (by rfl) (aN 1 (ah (az hr (aP (ae ge_int (ae ge_int ag))) (aL jl (by rfl) TX.int (by decide +kernel) (ae (iR (cS hr) (av Fa hr (by rfl) (aN 1 (ah ge_int ax))) ge_int (aM _)) ag))) (ah (aL jl (by rfl) TX.int (by decide +kernel) (ae (iR zj (av Fa hr (by rfl) (aN 1 (ah ge_int ax))) ge_int (aM _)) ag)) ax))))) (bF (dI (br (cS hr) (av Fa hr (by rfl) (aN 1 (ah ge_int ax))) ge_int (aM _)) (aq (aC (i:=4) sc.nd (by rfl) (i' rfl) (by rfl) (bE sc ["_law_turn","_law_state"] [none,some 1] nd1 (by decide +kernel) (j6 (by rfl) TX.range (ae ge_int ag)) (λ_ _ _=>(au (i:=0) nd1 (by rfl) (bt rfl) (by rfl) (hf:=(i' rfl)))) (λ_ _ _=>bG) (λ_ _ _=>(av Fk hr (by rfl) (aN 1 (ah ge_int ax))))))) bc) (bF (aC (i:=5) sc.nd (by rfl) (bt rfl) (by rfl) (aD (av xL hr (by rfl) (ah (af 4) ax)))) (bF (oJ sc (i:=6) ["_law_tool_here"] [none] nd2 (by decide +kernel) (by rfl) (bt rfl) (by rfl) (cM (af 4)) (λ_ _ _=>(au (i:=0) nd2 (by rfl) (bt rfl) (by rfl) (hf:=(i' rfl)))) (λ_ _ _=>bG) (λ_ _ _=>(aL kh (by rfl) TX.list (by decide +kernel) (ae (af 0) ag))) (by rfl)) (bF (aC (i:=7) sc.nd (by rfl) (bt rfl) (by rfl) (aP (ae (aP ag) ag))) (bF (aC (i:=8) sc.nd (by rfl) (bt rfl) (by rfl) (aD (aL (mS hr) (by rfl) TX.str (by decide +kernel) (ae (af 3) ag)))) (ai (dM RU (by rfl) (cM (av Do hr (by rfl) (aN 1 (ah (aD (aF gw (by rfl) TX.sorted (by decide +kernel) (ae (aL (jr rfl) (by rfl) TX.list (by decide +kernel) (ae (af 2) ag)) ag))) (ah ge_int ax))))) (au (i:=9) sc.nd (by rfl) (i' rfl) (by rfl)) (ai (aC (i:=10) sc.nd (by rfl) (bt rfl) (by rfl) (aD (av FM hr (by rfl) (ah (af 2) (ah (af 5) (ah (af 9) ax)))))) (bF (dI (jh (br vB (af 10) lA (aM _))) (aq (dI (jh (pQ (aF (Bm rfl) (by rfl) TX.any (by decide +kernel) (ae (bE sc ["_law_paper","_law_quarter","_law_tools_here","_law_region"] [none,some 9,some 4,some 3] nd3 (by decide +kernel) (cM (af 7)) (λ_ _ _=>(au (i:=0) nd3 (by rfl) (bt rfl) (by rfl) (hf:=(i' rfl)))) (λ_ _ _=>bG) (λ_ _ _=>(iR mJ (av Db hr (by rfl) (ah (af 3) (ah (af 2) (ah (af 1) (ah (af 0) ax))))) jf (aM _)))) ag)))) (aq (aH jf)) bc)) (ai (aC (i:=7) sc.nd (by rfl) (bt rfl) (by rfl) (aP (ae (aD (av Gc hr (by rfl) (ah (af 3) (ah (af 4) (ah (af 9) ax))))) (ae (av BT hr (by rfl) (aN 1 (ah (cR 2) (ah (cR 5) (ah (cR 10) ax))))) ag)))) (ai (dM RU (by rfl) (cM (cR 7)) (au (i:=11) sc.nd (by rfl) (bt rfl) (by rfl)) (ai (aC (i:=12) sc.nd (by rfl) (bt rfl) (by rfl) (aD (aL (mS hr) (by rfl) TX.str (by decide +kernel) (ae (af 11) ag)))) (ai (dI (jh (Cs (Dc (br mJ (av Db hr (by rfl) (ah (af 3) (ah (af 4) (ah (af 9) (ah (af 11) ax))))) jf (aM _)) (yo (br (rg hr) (aL (mS hr) (by rfl) TX.str (by decide +kernel) (ae (af 11) ag)) (af 12) (aM _)))))) (aq (aH jf)) bc) (aq (dI (jh (br mJ (av Db hr (by rfl) (ah (aL iP (by rfl) TX.tuple (by decide +kernel) (ae (af 3) ag)) (ah (af 6) (ah (aL kh (by rfl) TX.list (by decide +kernel) (ae (af 9) ag)) (ah (af 11) ax))))) jf (aM _))) (aq (aH jf)) bc))))) (aq (dI (jh (br (rg hr) (iR Hf (av Db hr (by rfl) (ah (af 3) (ah (af 4) (ah (af 9) (ah (aP ag) ax))))) jf (aM _)) (iR (A6 hr) (af 4) (aP ag) (aM _)) (aM _))) (aq (aH jf)) bc))))) (ai (dI (jh (Cs (Dc (br mJ (av Db hr (by rfl) (ah (yX (by rfl) (by rfl) TX.list (by rfl) TX.reversed (af 3)) (ah (aB ag) (ah (af 9) (ah (aB ag) ax))))) jf (aM _)) (yo (br (rg hr) (aL (mS hr) (by rfl) TX.str (by decide +kernel) (ae (af 3) ag)) (af 8) (aM _)))))) (aq (aH jf)) bc) (ai (aC (i:=13) sc.nd (by rfl) (bt rfl) (by rfl) (az hr (aP (ae (aP (ae (aD (aB (ae ge_int (ae (mR (af 9) oZ (oy ge_int)) (ae (af 9) ag))))) ag)) (ae lA (ae (aP (ae (aP ag) ag)) (ae (aP (ae (aD (aB (ae (kF ge_int) (ae (aB (ae ge_int (ae ge_int ag))) (ae (aB (ae ge_int (ae ge_int (ae ge_int ag)))) ag))))) ag)) ag))))) (av Fa hr (by rfl) (aN 1 (ah ge_int ax))))) (aq (dI (jh (br mJ (av Db hr (by rfl) (ah (af 3) (ah (aP ag) (ah (af 9) (ah (af 13) ax))))) jf (aM _))) (aq (aH jf)) bc))))))) (aq (aH jf)))))))))))),λts kk hl hp=>?_⟩;clear hl;obtain⟨t,ns,rfl,hs,hn,q⟩:=hp;refine dG (λenv=>∃z c,env=[z,stT c 0,.any,.any,.any,.any,.any,.any,.any,.any,.any,.any,.any,.any]) ?_ ?_
 ·walk_at "go";obtain⟨e,i⟩:=Iu hs;rw[e];exact⟨i,t,ns,rfl,hs,hn,λc=>⟨EE,_,c,rfl⟩⟩
 rintro _ ⟨z,c,rfl⟩;refine dG (λenv=>∃(c:Cells) (n:Nat) (qs:List Qt),n<=1100/\upQ qs/\(∀q∈qs,okQ q)/\qs.length<=230400/\env=[z,stT c n,.dT true (dQ qs),.any,.any,.any,.any,.any,.any,.any,.any,.any,.any,.any]) ?_ ?_
 ·walk_at "go";walk_at "take";intro r c1 a1 b1;walk_at "go";refine⟨c1,1,decide (r=0),rfl,by decide,λc2 n2 qs z l1 l2 u1 u2 u3=>?_⟩;walk_at "go";exact⟨c2,n2,qs,by lia,u1,u2,u3,rfl⟩
 rintro _ ⟨c,n,qs,hn,u1,u2,u3,rfl⟩;refine dG (λenv=>∃(c:Cells) (n:Nat) (b:Bool) (rs:List Qt),n<=1200/\rs.Perm qs/\env=[z,stT c n,.dT false (dQ qs),rgT false true b true rs,.any,.any,.any,.any,.any,.any,.any,.any,.any,.any]) ?_ ?_
 ·walk_at "go";refine⟨c,n,false,qs,rfl,by lia,u1,by lia,λc2 n2 b rs z l1 l2 pm=>?_⟩;walk_at "go";exact⟨c2,n2,b,rs,by lia,pm,rfl⟩
 clear hn c n;rintro _ ⟨c,n,b,rs,hn,pm,rfl⟩;have hr:∀q∈rs,okQ q:=λq m=>u2 q (pm.mem_iff.mp m);have hl:rs.length<=230400:=by rw[pm.length_eq];exact u3
 have hd:rs.Nodup:=B0 pm (HS u1);refine dG (λenv=>∃(c:Cells) (n:Nat) (tl:List Tl),n<=1400/\tl.length<=8/\(∀t∈tl,tlO t)/\env=[z,stT c n,.dT false (dQ qs),rgT false true b true rs,tgT false true false false tl,.any,.any,.any,.any,.any,.any,.any,.any,.any]) ?_ ?_
 ·walk_at "go";walk_at "take";intro r c1 a1 b1;walk_at "go";obtain⟨m,em,m0,m1⟩:∃m:Int,atI [T.int 3,.int 4] (if r=0 then 1 else 0)=some (.int m)/\2<=m/\m<=4:=by
   by_cases h:r=0
   ·rw[if_pos h];exact⟨4,rfl,by decide,by decide⟩
   rw[if_neg h];exact⟨3,rfl,by decide,by decide⟩
  refine aZ em ?_;walk_at "go";walk_at "take";intro r2 c2 a2 b2;walk_at "go";refine⟨c2,n+1+1,m,_,rfl,by lia,m0,m1,by split <;> decide,by split <;> decide,λc3 n3 tl l1 l2 l3 l4=>?_⟩;walk_at "go";exact⟨c3,n3,tl,by lia,l3,l4,rfl⟩
 clear hn c n;rintro _ ⟨c,n,tl,hn,ht,ho,rfl⟩;refine dG (λenv=>∃(c:Cells) (n:Nat) (tl:List Tl),n<=1500/\tl.length<=8/\(∀t∈tl,tlO t)/\env=[z,stT c n,.dT false (dQ qs),rgT false true b true rs,tgT false true false false tl,.any,.any,.any,.any,.any,.any,.any,.any,.any]) ?_ ?_
 ·walk_at "go";walk_at "take";intro r c1 a1 b1;walk_at "go";refine aO (λg=>?_) (λg=>?_)
  ·walk_at "go";refine⟨by decide,aQ (by rw[dC,sizeLine_eq];decide) (λi acc ie=>∃(c':Cells) (n':Nat) (tl:List Tl) (z:T),n<=n'/\n'<=n+1+5*i/\tl.length=i/\(∀t∈tl,tlO t)/\acc=tl.map (tlT false false)/\ie=[z,stT c' n']) ⟨c1,n+1,[],_,by lia,by lia,rfl,(λ_ h=>by cases h),rfl,rfl⟩ ?_ ?_⟩
   ·rintro i u _ _ ⟨c',n',tl,z,l2,l3,l4,ht,rfl,rfl⟩ ei;have hi:i<5:=j4 ei;walk_at "go";refine⟨c',n',3,rfl,by lia,by decide,by decide,λc2 t h=>?_⟩;walk_at "go";refine⟨c2,n'+5,tl++[t],_,by lia,by lia,by rw[f',l4];rfl,λv mv=>?_,by rw[l_];rfl,rfl⟩;rcases B_.mp mv with mv|mv
    ·exact ht v mv
    rw[C_.mp mv];exact h
   rintro _ _ ⟨c',n',tl,z,l2,l3,l4,ht,rfl,rfl⟩;have l3:n'<=n+1+5*5:=l3;have l4:tl.length=5:=l4;walk_at "go";exact⟨c',n',tl,by lia,by lia,ht,rfl⟩
  walk_at "go";exact⟨c1,n+1,tl,by lia,ht,ho,rfl⟩
 clear hn c n ht ho tl;rintro _ ⟨c,n,tl,hn,ht,ho,rfl⟩;refine dG (λenv=>env=[z,stT c n,.dT false (dQ qs),rgT false true b true rs,tgT false true false false tl,.lst true (tl.map λt=>.dT true (dQ (nrQ t))),.any,.any,.any,.any,.any,.any,.any,.any]) ?_ ?_
 ·walk_at "go";refine⟨false,tl,rfl,by lia,ho,?_⟩;walk_at "go"
 rintro _ rfl;refine dG (λenv=>env=[z,stT c n,.dT false (dQ qs),rgT false true b true rs,tgT false true false false tl,.lst true (tl.map λt=>.dT true (dQ (nrQ t))),tgT false true true true tl,.any,.any,.any,.any,.any,.any,.any]) ?_ ?_
 ·walk_at "go";refine aQ (by rw[a_,sizeLine_eq];lia) (λi acc ie=>∃z,acc=(tl.take i).map (tlT true true)/\ie=[z]) ⟨_,rfl,rfl⟩ ?_ ?_
  ·rintro i u _ _ ⟨z,rfl,rfl⟩ ei;obtain⟨t,et,rfl⟩:=bo ei;walk_at "go";exact⟨_,by rw[map_take et],rfl⟩
  rintro _ _ ⟨z',rfl,rfl⟩;rw[a_,yp];walk_at "go";exact⟨cO tl,rfl⟩
 rintro _ rfl;refine dG (λenv=>env=[z,stT c n,.dT false (dQ qs),rgT false true b true rs,tgT false true false false tl,.lst true (tl.map λt=>.dT true (dQ (nrQ t))),tgT false true true true tl,.lst true [.lst true []],.any,.any,.any,.any,.any,.any]) ?_ ?_
 ·walk_at "go"
 rintro _ rfl;refine dG (λenv=>env=[z,stT c n,.dT false (dQ qs),rgT false true b true rs,tgT false true false false tl,.lst true (tl.map λt=>.dT true (dQ (nrQ t))),tgT false true true true tl,.lst true [.lst true []],.str (toPy (dt (rgT false false b false rs))).shown,.any,.any,.any,.any,.any]) ?_ ?_
 ·walk_at "go";refine EF hr hl ?_;walk_at "go"
 rintro _ rfl;walk_at "go";refine oO (o7 u1 ?_);walk_at "go";refine⟨c,n,true,qs,4,rfl,by lia,by lia,by decide,by decide,λc1 n1 xs z1 l1 l2 l3 hx=>?_⟩;walk_at "go";have hrq:∀y,y∈rs↔y∈qs:=λy=>pm.mem_iff;refine cQ (λi env=>∃(c':Cells) (n':Nat) (o om:Bool) (pps:List Pp) (z9 z10 z11 z12 z13:T),n'<=1600+300100*i/\pps.length<=2/\(∀x∈pps,IM x)/\env=[z,stT c' n',.dT false (dQ qs),rgT false true b true rs,tgT false true false false tl,.lst om (tl.map λt=>.dT om (dQ (nrQ t))),tgT false true true true tl,.lst o (pps.map ppF),.str (toPy (dt (rgT false false b false rs))).shown,z9,z10,z11,z12,z13]) ⟨c1,n1,true,true,[(false,true,[])],_,_,_,_,_,by lia,by decide,λx m=>by rw[C_.mp m];exact⟨A_ _,λr m=>by cases m⟩,rfl⟩ ?_ ?_
 ·rintro i t _ ⟨c',n',o,om,pps,z9,z10,z11,z12,z13,ln,lp,hp,rfl⟩ ei;obtain⟨q',eq',rfl⟩:=bo ei;have mq:=hx q' (B' eq');have hi:i<xs.length:=(c_.mp eq').1;have oq:=u2 q' mq;walk_at "go";refine⟨false,false,false,qs,tl,q',rfl,by lia,ho,λz1 z2 z3=>?_⟩;walk_at "go";have eWr:wyN rs q' 0 (tl.map nrQ)=wyN qs q' 0 (tl.map nrQ):=Bb hrq _ 0;have lw:∀l,wyN qs q' 0 (tl.map nrQ)=some l->l.length<=9600*8:=λl e=>by have l1:=G8 (λM m=>by obtain⟨t,mt,rfl⟩:=o_.mp m;exact qe (ho t mt)) e;rw[a_]at l1;lia
  refine dG (λenv=>∃(c':Cells) (n':Nat) (o om:Bool) (pps:List Pp) (z10 z11 z12 z13:T),n'<=1600+300100*i+300002/\pps.length<=2/\(∀x∈pps,IM x)/\env=[z,stT c' n',.dT false (dQ qs),rgT false true b true rs,tgT false true false false tl,.lst om (tl.map λt=>.dT om (dQ (nrQ t))),tgT false true true true tl,.lst o (pps.map ppF),.str (toPy (dt (rgT false false b false rs))).shown,qtT q',z10,z11,z12,z13]) ?_ ?_
  ·walk_at "go";cases hW:wyN qs q' 0 (tl.map nrQ)with
   |none=>
    rw[show(none:Option (List Rw)).isNone=true from rfl];walk_at "go";refine aQ (by rw[a_,sizeLine_eq];lia) (λj acc ie=>∃z,acc=(pps.take j).map (λ_=>T.bl false)/\ie=[z,qtT q',tgT false false false false tl,rgT false false b false rs]) ⟨_,rfl,rfl⟩ ?_ ?_
    ·rintro j u _ _ ⟨z,rfl,rfl⟩ ej;obtain⟨x,ex,rfl⟩:=bo ej;have ok:=hp x (B' ex);walk_at "go";refine⟨false,false,b,false,false,false,false,false,false,false,rs,tl,q',_,rfl,⟨hd,by lia,by lia,ho⟩,.inl ⟨x.1,false,false,x.2.2,rfl,by have:=ok.1;lia,λz1 z2 z3 z4=>?_⟩⟩;rw[FK (by rw[eWr];exact hW)];walk_at "go";exact⟨_,by rw[map_take ex];rfl,rfl⟩
    rintro _ _ ⟨z',rfl,rfl⟩;rw[a_,yp];walk_at "go";rw[show(pps.map λ_=>false).any id=false by rw[PY];exact QK.mpr λ_ _=>Nf];walk_at "go";exact⟨c',n',o,om,pps,_,_,_,_,by lia,lp,hp,rfl⟩
   |some l=>
    have l8:=lw l hW;rw[show(some l).isNone=false from rfl];walk_at "go";refine⟨false,false,b,false,false,false,false,false,false,false,rs,tl,q',rfl,hd,by lia,by lia,ho,λz1 z2 z3=>?_⟩;rw[eWr,hW];walk_at "go";refine⟨c',n',false,false,false,false,qs,q',tl,l,rfl,by lia,⟨oq,by lia,ho⟩,hW,by lia,λc3 n3 e ps hn3 hps ok2 sh2 y1 y2 y3=>?_⟩;walk_at "go";have hpp:∀x∈[((false,false,l.map rwP):Pp),(e,false,ps)],IM x/\shB (tl.map nrQ) rs q' x.2.2=true:=by
     intro x mx;simp only[n_,Nv,or_false]at mx;rcases mx with rfl|rfl
     ·exact⟨⟨by rw[a_];lia,Ij oq ho (by lia) hW⟩,by rw[wV hrq];exact Fe hW⟩
     exact⟨⟨by dsimp only;lia,ok2⟩,by rw[wV hrq];exact sh2⟩
    rw[show [wyU false (some l),ppT e false false ps]=[((false,false,l.map rwP):Pp),(e,false,ps)].map ppF from congrArg (·::[ppT e false false ps]) (congrArg (T.lst false) (K6 (u:=false)))];have lpp:[((false,false,l.map rwP):Pp),(e,false,ps)].length=2:=rfl;generalize [((false,false,l.map rwP):Pp),(e,false,ps)]=pp2 at *;refine cQ (λj env=>∃z11 z12,env=[z,stT c3 n3,.dT false (dQ qs),rgT false true b true rs,tgT false true false false tl,.lst false (tl.map λt=>.dT false (dQ (nrQ t))),tgT false true true true tl,.lst false (pp2.map ppF),.str (toPy (dt (rgT false false b false rs))).shown,qtT q',wyU false (some l),z11,z12,z13]) ⟨_,_,rfl⟩ ?_ ?_
    ·rintro j u _ ⟨z11,z12,rfl⟩ ej;obtain⟨x,ex,rfl⟩:=bo ej;obtain⟨ok,hs⟩:=hpp x (B' ex);walk_at "go";refine C4 ok.2 ok.1 ?_;walk_at "go";have lx:=ok.1;refine⟨false,false,b,false,false,false,false,false,false,false,rs,tl,q',_,rfl,⟨hd,by lia,by lia,ho⟩,.inl ⟨x.1,false,false,x.2.2,rfl,by lia,λy1 y2 y3 y4=>?_⟩⟩;rw[hs];walk_at "go";refine ng rfl ?_;walk_at "go";refine C4 ok.2 ok.1 ?_;walk_at "go";refine⟨true,false,b,false,false,false,true,false,true,true,rs,tl,q',_,rfl,⟨hd,by lia,by lia,ho⟩,.inl ⟨x.1,false,false,x.2.2,rfl,by lia,λy1 y2 y3 y4=>?_⟩⟩;rw[hs];walk_at "go";refine ng rfl ?_;walk_at "go";exact⟨_,_,rfl⟩
    rintro _ ⟨z11,z12,rfl⟩;walk_at "go";refine⟨false,false,b,false,false,false,false,false,false,false,rs,tl,q',_,rfl,⟨hd,by lia,by lia,ho⟩,.inl ⟨false,true,false,[],rfl,A_ _,λy1 y2 y3 y4=>?_⟩⟩;rw[CV oq.2.2 ho];walk_at "go";refine CQ ?_;walk_at "go";refine zO (by cases decide (tl=[]) <;> rfl) ?_;walk_at "go";exact⟨c3,n3,false,false,pp2,_,_,_,_,by lia,Ng lpp,λx mx=>(hpp x mx).1,rfl⟩
  clear ln hp lp;rintro _ ⟨c2,n2,o,om,pps,z10,z11,z12,z13,ln,lp,hp,rfl⟩;walk_at "go";refine⟨false,true,b,false,true,false,false,false,false,false,rs.reverse,[],q',_,rfl,⟨B0 (OU _) hd,by rw[MR];lia,by decide,λt m=>by cases m⟩,.inl ⟨true,false,false,[],rfl,A_ _,λy1 y2 y3 y4=>?_⟩⟩;rw[show shB (([]:List Tl).map nrQ) rs.reverse q' []=true from CV oq.2.2 λt m=>by cases m];walk_at "go";refine ng rfl ?_;walk_at "go";refine EF hr hl ?_;walk_at "go";walk_at "take";intro w c3 a3 b3;walk_at "go";obtain⟨t,et,ea,ht⟩:∃t,atI [T.lst true [T.tup [T.int 0,ptP (q'.1,q'.2.1),qtT q']],T.non,T.lst true [T.lst true []],T.lst true [T.tup [T.int (-1),T.tup [T.int 0,T.int 0],T.tup [T.int 0,T.int 0,T.int 0]]]] w=some t/\isAny (er t)=false/\((∃r:Pr,er t=ppT false false false [r])\/(er t=.non\/∃o o',er t=.lst o [.lst o' []])):=by
   obtain rfl|rfl|rfl|rfl:w=0\/w=1\/w=2\/w=3:=by lia
   ·exact⟨_,rfl,rfl,.inl ⟨(false,0,(q'.1,q'.2.1),q'),rfl⟩⟩
   ·exact⟨_,rfl,rfl,.inr (.inl rfl)⟩
   ·exact⟨_,rfl,rfl,.inr (.inr ⟨_,_,rfl⟩)⟩
   exact⟨_,rfl,rfl,.inl ⟨(false,-1,(0,0),(0,0,0)),rfl⟩⟩
  have go:∀Kk:T->List T->Prop,(∀z1 z2 z3 z4,Kk (.bl false) [z1,z2,z3,z4])->((∃(c4 o4 u4:Bool) (ps:List Pr),er t=ppT c4 o4 u4 ps/\ps.length<=900000/\∀z1 z2 z3 z4,Kk (.bl (shB (([]:List Tl).map nrQ) rs q' ps)) [z1,z2,z3,z4])\/((er t=.non\/∃o o',er t=.lst o [.lst o' []])/\∀z1 z2 z3 z4,Kk (.bl false) [z1,z2,z3,z4])):=λKk hk=>ht.elim (λ⟨r,e⟩=>.inl ⟨false,false,false,[r],e,by show 1<=900000;decide,λa b c d=>by rw[show shB (([]:List Tl).map nrQ) rs q' [r]=false from J0];exact hk a b c d⟩) λh=>.inr ⟨h,hk⟩
  refine aZ et ?_;walk_at "go";refine⟨ea,false,false,b,false,false,true,false,false,false,false,rs,[],q',_,rfl,⟨hd,by lia,by decide,λt m=>by cases m⟩,go _ λy1 y2 y3 y4=>?_⟩;walk_at "go";refine ng rfl ?_;walk_at "go";exact⟨c3,n2+1,o,om,pps,_,_,_,_,_,by lia,lp,hp,rfl⟩
 rintro _ ⟨c',n',o,om,pps,z9,z10,z11,z12,z13,ln,lp,hp,rfl⟩;walk_at "go";exact q _
end
variable {α:Type}
theorem ar0{P:List α->Prop}(h:P []):∀us:List α,us.length=0->P us:=λus e=>by
 cases us with
 |nil=>exact h
 |cons a r=>cases e
theorem ar1{P:List α->Prop}(h:∀a0,P [a0]):∀us:List α,us.length=1->P us:=λus e=>by
 cases us with
 |nil=>cases e
 |cons a0 r=>exact ar0 (P:=λr=>P (a0::r)) (h a0) r (NZ e)
theorem ar2{P:List α->Prop}(h:∀a0 a1,P [a0,a1]):∀us:List α,us.length=2->P us:=λus e=>by
 cases us with
 |nil=>cases e
 |cons a0 r=>exact ar1 (P:=λr=>P (a0::r)) (h a0) r (NZ e)
theorem ar3{P:List α->Prop}(h:∀a0 a1 a2,P [a0,a1,a2]):∀us:List α,us.length=3->P us:=λus e=>by
 cases us with
 |nil=>cases e
 |cons a0 r=>exact ar2 (P:=λr=>P (a0::r)) (h a0) r (NZ e)
theorem ar4{P:List α->Prop}(h:∀a0 a1 a2 a3,P [a0,a1,a2,a3]):∀us:List α,us.length=4->P us:=λus e=>by
 cases us with
 |nil=>cases e
 |cons a0 r=>exact ar3 (P:=λr=>P (a0::r)) (h a0) r (NZ e)
theorem ar5{P:List α->Prop}(h:∀a0 a1 a2 a3 a4,P [a0,a1,a2,a3,a4]):∀us:List α,us.length=5->P us:=λus e=>by
 cases us with
 |nil=>cases e
 |cons a0 r=>exact ar4 (P:=λr=>P (a0::r)) (h a0) r (NZ e)
theorem walk{l:Vv}{q:RC}{loose:List Str}{XP:(Str->Option Rq)->RM->Prop}{YP:RK->RM->Prop}{d:DefRec}{K:Ve->Rr}(hn:l.most=some 63)(hdf:d.params.defaults=[])
  (hY:∀(w:RK) (h:RM),YP w h->(K w.params).In h)
  (F:∀(w:RK) (mg:Str->Option Rq) (fa:Rt) (h:RM),(K w.params).In h->h.Ns Se mg->mg d.name=some (.ref fa)->
   ∃fd:RP,(∀(s:Ru) (u:Rq),VG s fd ⟨[u],[]⟩ [("_law_script",u)])/\∀base:RM,(K w.params).In base->base.Ns Se mg->FnOk l.prog w (K w.params) mg base CX0 6 fa fd ["_law_script"] (AB (K w.params))) :
  Xs q loose XP YP l.row.toRowW d [] (λf vs=>WY f vs):=
 L2.Hc (n:=63) (k:=6) (x:="_law_script") (CX:=λ_=>CX0) (sp:=λw=>AB (K w.params)) hn (by decide) hdf ⟨rfl,by decide,by decide,rfl⟩ hY F (λ_ _ a ns hl _ hS=>⟨a,ns,rfl,hS,hl,λ_=>rfl⟩) λ_ _ _ _ _ z=>z
noncomputable def kd(P:Ve) (x:Str) (t:Tok) (v:Rq):SY:=⟨PyData.keyHash P x,.str x t,v⟩
def kf(n:Str) (s:RW) (m:Rq) (c:Rt):Obj:=⟨.type "function",none,.func (SV n n (kz s) (jo s) (aA s) .none .none .none m none (.ref c) .none),#[]⟩
def KK(P:Ve):Rr:=[(3,⟨.type "dict",none,.dict #[kd P "__name__" 165 (.str "law_millpath_k22_papers_of_what_is_left" 365),kd P "__doc__" 166 (.none),kd P "__package__" 167 (.none),kd P "__loader__" 168 (.builtin "__main__.__loader__#opaque"),kd P "__spec__" 169 (.none),kd P "__annotations__" 170 (.ref 6),kd P "__builtins__" 171 (.ref 4),kd P "__file__" 173 (.str "/claim/cut.py" 172),kd P "__cached__" 174 (.none),kd P "is_number" 195 (.ref 21),kd P "is_row" 202 (.ref 28),kd P "are_numbers" 208 (.ref 33),kd P "INNER" 219 (.ref 38),kd P "inner_point" 227 (.ref 45),kd P "octo_of" 235 (.ref 50),kd P "added" 241 (.ref 55),kd P "moved" 249 (.ref 62),kd P "quarters_in" 255 (.ref 67),kd P "is_flat" 262 (.ref 74),kd P "holds" 273 (.ref 81),kd P "mark_of" 285 (.ref 88),kd P "near_quarters" 294 (.ref 95),kd P "noted" 303 (.ref 102),kd P "why_left" 321 (.ref 109),kd P "corners_about" 327 (.ref 114),kd P "first_missing" 340 (.ref 121),kd P "shows_left" 346 (.ref 126),kd P "is_shown" 353 (.ref 133),kd P "is_missing" 364 (.ref 140),kd P "_law_begin" 374 (.ref 147),kd P "_law_take" 387 (.ref 154),kd P "_law_same" 393 (.ref 159),kd P "_law_box" 399 (.ref 164),kd P "_law_angled" 405 (.ref 169),kd P "_law_outline" 411 (.ref 174),kd P "_law_mark" 423 (.ref 181),kd P "_law_in_mark" 429 (.ref 186),kd P "_law_inside" 435 (.ref 191),kd P "_law_crossed" 451 (.ref 198),kd P "_law_tool" 461 (.ref 205),kd P "_law_island" 473 (.ref 212),kd P "_law_pocket" 489 (.ref 219),kd P "_law_strewn" 495 (.ref 224),kd P "_law_moved" 501 (.ref 229),kd P "_law_marks" 507 (.ref 234),kd P "_law_holding" 513 (.ref 239),kd P "_law_beyond" 519 (.ref 244),kd P "_law_first" 531 (.ref 251),kd P "_law_why" 546 (.ref 258),kd P "_law_tools" 552 (.ref 263),kd P "_law_some" 558 (.ref 268),kd P "_law_otherwise" 574 (.ref 275),kd P "law" 580 (.ref 280)] 53,#[]⟩),(21,kf "is_number" mQ (.str "millpath.kinds" 187) 20),(20,⟨.type "code",none,.fields #[.str "is_number" 189,.str "is_number" 190,.str "/claim/cut.py" 191,.int (2) 0,.int (1) 0,.int (0) 0,.int (0) 0,.int (3) 0,.ref 15,.bool true,.int (181) 0,.ref 16,.none,.ref 17,.ref 18,.ref 19,.int (193) 0,.int (2) 0,.str "/claim/cut.py" 194],#[]⟩),(28,kf "is_row" sT (.str "millpath.kinds" 187) 27),(27,⟨.type "code",none,.fields #[.str "is_row" 196,.str "is_row" 197,.str "/claim/cut.py" 198,.int (4) 0,.int (1) 0,.int (0) 0,.int (0) 0,.int (3) 0,.ref 22,.bool true,.int (181) 0,.ref 23,.none,.ref 24,.ref 25,.ref 26,.int (200) 0,.int (4) 0,.str "/claim/cut.py" 201],#[]⟩),(33,kf "are_numbers" kD (.str "millpath.kinds" 187) 32),(32,⟨.type "code",none,.fields #[.str "are_numbers" 203,.str "are_numbers" 204,.str "/claim/cut.py" 205,.int (6) 0,.int (2) 0,.int (0) 0,.int (0) 0,.int (3) 0,.ref 29,.bool true,.int (181) 0,.ref 30,.none,.none,.none,.ref 31,.int (206) 0,.int (6) 0,.str "/claim/cut.py" 207],#[]⟩),(45,kf "inner_point" kE (.str "millpath.corners" 209) 44),(44,⟨.type "code",none,.fields #[.str "inner_point" 220,.str "inner_point" 221,.str "/claim/cut.py" 222,.int (10) 0,.int (1) 0,.int (0) 0,.int (0) 0,.int (3) 0,.ref 39,.bool true,.int (181) 0,.ref 40,.none,.ref 41,.ref 42,.ref 43,.int (225) 0,.int (10) 0,.str "/claim/cut.py" 226],#[]⟩),(50,kf "octo_of" pS (.str "millpath.octos" 228) 49),(49,⟨.type "code",none,.fields #[.str "octo_of" 230,.str "octo_of" 231,.str "/claim/cut.py" 232,.int (14) 0,.int (1) 0,.int (0) 0,.int (0) 0,.int (3) 0,.ref 46,.bool true,.int (181) 0,.ref 47,.none,.none,.none,.ref 48,.int (233) 0,.int (14) 0,.str "/claim/cut.py" 234],#[]⟩),(55,kf "added" w9 (.str "millpath.octos" 228) 54),(54,⟨.type "code",none,.fields #[.str "added" 236,.str "added" 237,.str "/claim/cut.py" 238,.int (20) 0,.int (2) 0,.int (0) 0,.int (0) 0,.int (3) 0,.ref 51,.bool true,.int (181) 0,.ref 52,.none,.none,.none,.ref 53,.int (239) 0,.int (20) 0,.str "/claim/cut.py" 240],#[]⟩),(62,kf "moved" vT (.str "millpath.octos" 228) 61),(61,⟨.type "code",none,.fields #[.str "moved" 242,.str "moved" 243,.str "/claim/cut.py" 244,.int (22) 0,.int (2) 0,.int (0) 0,.int (0) 0,.int (3) 0,.ref 56,.bool true,.int (181) 0,.ref 57,.none,.ref 58,.ref 59,.ref 60,.int (247) 0,.int (22) 0,.str "/claim/cut.py" 248],#[]⟩),(67,kf "quarters_in" kH (.str "millpath.octos" 228) 66),(66,⟨.type "code",none,.fields #[.str "quarters_in" 250,.str "quarters_in" 251,.str "/claim/cut.py" 252,.int (24) 0,.int (1) 0,.int (0) 0,.int (0) 0,.int (3) 0,.ref 63,.bool true,.int (181) 0,.ref 64,.none,.none,.none,.ref 65,.int (253) 0,.int (24) 0,.str "/claim/cut.py" 254],#[]⟩),(74,kf "is_flat" pF (.str "millpath.octos" 228) 73),(73,⟨.type "code",none,.fields #[.str "is_flat" 256,.str "is_flat" 257,.str "/claim/cut.py" 258,.int (34) 0,.int (1) 0,.int (0) 0,.int (0) 0,.int (3) 0,.ref 68,.bool true,.int (181) 0,.ref 69,.none,.ref 70,.ref 71,.ref 72,.int (260) 0,.int (34) 0,.str "/claim/cut.py" 261],#[]⟩),(81,kf "holds" vg (.str "millpath.octos" 228) 80),(80,⟨.type "code",none,.fields #[.str "holds" 263,.str "holds" 264,.str "/claim/cut.py" 265,.int (36) 0,.int (2) 0,.int (0) 0,.int (0) 0,.int (3) 0,.ref 75,.bool true,.int (181) 0,.ref 76,.none,.ref 77,.ref 78,.ref 79,.int (271) 0,.int (36) 0,.str "/claim/cut.py" 272],#[]⟩),(88,kf "mark_of" pN (.str "millpath.tools" 274) 87),(87,⟨.type "code",none,.fields #[.str "mark_of" 276,.str "mark_of" 277,.str "/claim/cut.py" 278,.int (42) 0,.int (2) 0,.int (0) 0,.int (0) 0,.int (3) 0,.ref 82,.bool true,.int (181) 0,.ref 83,.none,.ref 84,.ref 85,.ref 86,.int (283) 0,.int (42) 0,.str "/claim/cut.py" 284],#[]⟩),(95,kf "near_quarters" jR (.str "millpath.marks" 286) 94),(94,⟨.type "code",none,.fields #[.str "near_quarters" 288,.str "near_quarters" 289,.str "/claim/cut.py" 290,.int (47) 0,.int (1) 0,.int (0) 0,.int (0) 0,.int (3) 0,.ref 89,.bool true,.int (181) 0,.ref 90,.none,.ref 91,.ref 92,.ref 93,.int (292) 0,.int (47) 0,.str "/claim/cut.py" 293],#[]⟩),(102,kf "noted" vx (.str "millpath.marks" 286) 101),(101,⟨.type "code",none,.fields #[.str "noted" 295,.str "noted" 296,.str "/claim/cut.py" 297,.int (49) 0,.int (1) 0,.int (0) 0,.int (0) 0,.int (3) 0,.ref 96,.bool true,.int (181) 0,.ref 97,.none,.ref 98,.ref 99,.ref 100,.int (301) 0,.int (49) 0,.str "/claim/cut.py" 302],#[]⟩),(109,kf "why_left" nT (.str "millpath.lefts" 304) 108),(108,⟨.type "code",none,.fields #[.str "why_left" 306,.str "why_left" 307,.str "/claim/cut.py" 308,.int (55) 0,.int (3) 0,.int (0) 0,.int (0) 0,.int (3) 0,.ref 103,.bool true,.int (181) 0,.ref 104,.none,.ref 105,.ref 106,.ref 107,.int (319) 0,.int (55) 0,.str "/claim/cut.py" 320],#[]⟩),(114,kf "corners_about" jN (.str "millpath.lefts" 304) 113),(113,⟨.type "code",none,.fields #[.str "corners_about" 322,.str "corners_about" 323,.str "/claim/cut.py" 324,.int (66) 0,.int (2) 0,.int (0) 0,.int (0) 0,.int (3) 0,.ref 110,.bool true,.int (181) 0,.ref 111,.none,.none,.none,.ref 112,.int (325) 0,.int (66) 0,.str "/claim/cut.py" 326],#[]⟩),(121,kf "first_missing" jQ (.str "millpath.lefts" 304) 120),(120,⟨.type "code",none,.fields #[.str "first_missing" 328,.str "first_missing" 329,.str "/claim/cut.py" 330,.int (68) 0,.int (3) 0,.int (0) 0,.int (0) 0,.int (3) 0,.ref 115,.bool true,.int (181) 0,.ref 116,.none,.ref 117,.ref 118,.ref 119,.int (338) 0,.int (68) 0,.str "/claim/cut.py" 339],#[]⟩),(126,kf "shows_left" lM (.str "millpath.lefts" 304) 125),(125,⟨.type "code",none,.fields #[.str "shows_left" 341,.str "shows_left" 342,.str "/claim/cut.py" 343,.int (74) 0,.int (4) 0,.int (0) 0,.int (0) 0,.int (3) 0,.ref 122,.bool true,.int (181) 0,.ref 123,.none,.none,.none,.ref 124,.int (344) 0,.int (74) 0,.str "/claim/cut.py" 345],#[]⟩),(133,kf "is_shown" nW (.str "millpath.lefts" 304) 132),(132,⟨.type "code",none,.fields #[.str "is_shown" 347,.str "is_shown" 348,.str "/claim/cut.py" 349,.int (85) 0,.int (1) 0,.int (0) 0,.int (0) 0,.int (3) 0,.ref 127,.bool true,.int (181) 0,.ref 128,.none,.ref 129,.ref 130,.ref 131,.int (351) 0,.int (85) 0,.str "/claim/cut.py" 352],#[]⟩),(140,kf "is_missing" lG (.str "millpath.lefts" 304) 139),(139,⟨.type "code",none,.fields #[.str "is_missing" 354,.str "is_missing" 355,.str "/claim/cut.py" 356,.int (87) 0,.int (4) 0,.int (0) 0,.int (0) 0,.int (3) 0,.ref 134,.bool true,.int (181) 0,.ref 135,.none,.ref 136,.ref 137,.ref 138,.int (362) 0,.int (87) 0,.str "/claim/cut.py" 363],#[]⟩),(147,kf "_law_begin" qZ (.str "law_millpath_k22_papers_of_what_is_left" 365) 146),(146,⟨.type "code",none,.fields #[.str "_law_begin" 367,.str "_law_begin" 368,.str "/claim/cut.py" 369,.int (91) 0,.int (1) 0,.int (0) 0,.int (0) 0,.int (3) 0,.ref 141,.bool true,.int (181) 0,.ref 142,.none,.ref 143,.ref 144,.ref 145,.int (372) 0,.int (91) 0,.str "/claim/cut.py" 373],#[]⟩),(154,kf "_law_take" vC (.str "law_millpath_k22_papers_of_what_is_left" 365) 153),(153,⟨.type "code",none,.fields #[.str "_law_take" 375,.str "_law_take" 376,.str "/claim/cut.py" 377,.int (96) 0,.int (2) 0,.int (0) 0,.int (0) 0,.int (3) 0,.ref 148,.bool true,.int (181) 0,.ref 149,.none,.ref 150,.ref 151,.ref 152,.int (385) 0,.int (96) 0,.str "/claim/cut.py" 386],#[]⟩),(164,kf "_law_box" EO (.str "law_millpath_k22_papers_of_what_is_left" 365) 163),(163,⟨.type "code",none,.fields #[.str "_law_box" 394,.str "_law_box" 395,.str "/claim/cut.py" 396,.int (123) 0,.int (5) 0,.int (0) 0,.int (0) 0,.int (3) 0,.ref 160,.bool true,.int (181) 0,.ref 161,.none,.none,.none,.ref 162,.int (397) 0,.int (123) 0,.str "/claim/cut.py" 398],#[]⟩),(169,kf "_law_angled" rD (.str "law_millpath_k22_papers_of_what_is_left" 365) 168),(168,⟨.type "code",none,.fields #[.str "_law_angled" 400,.str "_law_angled" 401,.str "/claim/cut.py" 402,.int (128) 0,.int (5) 0,.int (0) 0,.int (0) 0,.int (3) 0,.ref 165,.bool true,.int (181) 0,.ref 166,.none,.none,.none,.ref 167,.int (403) 0,.int (128) 0,.str "/claim/cut.py" 404],#[]⟩),(174,kf "_law_outline" pV (.str "law_millpath_k22_papers_of_what_is_left" 365) 173),(173,⟨.type "code",none,.fields #[.str "_law_outline" 406,.str "_law_outline" 407,.str "/claim/cut.py" 408,.int (139) 0,.int (5) 0,.int (0) 0,.int (0) 0,.int (3) 0,.ref 170,.bool true,.int (181) 0,.ref 171,.none,.none,.none,.ref 172,.int (409) 0,.int (139) 0,.str "/claim/cut.py" 410],#[]⟩),(181,kf "_law_mark" zA (.str "law_millpath_k22_papers_of_what_is_left" 365) 180),(180,⟨.type "code",none,.fields #[.str "_law_mark" 412,.str "_law_mark" 413,.str "/claim/cut.py" 414,.int (154) 0,.int (2) 0,.int (0) 0,.int (0) 0,.int (3) 0,.ref 175,.bool true,.int (181) 0,.ref 176,.none,.ref 177,.ref 178,.ref 179,.int (421) 0,.int (154) 0,.str "/claim/cut.py" 422],#[]⟩),(186,kf "_law_in_mark" pE (.str "law_millpath_k22_papers_of_what_is_left" 365) 185),(185,⟨.type "code",none,.fields #[.str "_law_in_mark" 424,.str "_law_in_mark" 425,.str "/claim/cut.py" 426,.int (162) 0,.int (4) 0,.int (0) 0,.int (0) 0,.int (3) 0,.ref 182,.bool true,.int (181) 0,.ref 183,.none,.none,.none,.ref 184,.int (427) 0,.int (162) 0,.str "/claim/cut.py" 428],#[]⟩),(191,kf "_law_inside" sF (.str "law_millpath_k22_papers_of_what_is_left" 365) 190),(190,⟨.type "code",none,.fields #[.str "_law_inside" 430,.str "_law_inside" 431,.str "/claim/cut.py" 432,.int (166) 0,.int (1) 0,.int (0) 0,.int (0) 0,.int (3) 0,.ref 187,.bool true,.int (181) 0,.ref 188,.none,.none,.none,.ref 189,.int (433) 0,.int (166) 0,.str "/claim/cut.py" 434],#[]⟩),(198,kf "_law_crossed" qr (.str "law_millpath_k22_papers_of_what_is_left" 365) 197),(197,⟨.type "code",none,.fields #[.str "_law_crossed" 436,.str "_law_crossed" 437,.str "/claim/cut.py" 438,.int (177) 0,.int (2) 0,.int (0) 0,.int (0) 0,.int (3) 0,.ref 192,.bool true,.int (181) 0,.ref 193,.none,.ref 194,.ref 195,.ref 196,.int (449) 0,.int (177) 0,.str "/claim/cut.py" 450],#[]⟩),(205,kf "_law_tool" yT (.str "law_millpath_k22_papers_of_what_is_left" 365) 204),(204,⟨.type "code",none,.fields #[.str "_law_tool" 452,.str "_law_tool" 453,.str "/claim/cut.py" 454,.int (189) 0,.int (2) 0,.int (0) 0,.int (0) 0,.int (3) 0,.ref 199,.bool true,.int (181) 0,.ref 200,.none,.ref 201,.ref 202,.ref 203,.int (459) 0,.int (189) 0,.str "/claim/cut.py" 460],#[]⟩),(212,kf "_law_island" sN (.str "law_millpath_k22_papers_of_what_is_left" 365) 211),(211,⟨.type "code",none,.fields #[.str "_law_island" 462,.str "_law_island" 463,.str "/claim/cut.py" 464,.int (193) 0,.int (3) 0,.int (0) 0,.int (0) 0,.int (3) 0,.ref 206,.bool true,.int (181) 0,.ref 207,.none,.ref 208,.ref 209,.ref 210,.int (471) 0,.int (193) 0,.str "/claim/cut.py" 472],#[]⟩),(219,kf "_law_pocket" sZ (.str "law_millpath_k22_papers_of_what_is_left" 365) 218),(218,⟨.type "code",none,.fields #[.str "_law_pocket" 474,.str "_law_pocket" 475,.str "/claim/cut.py" 476,.int (199) 0,.int (2) 0,.int (0) 0,.int (0) 0,.int (3) 0,.ref 213,.bool true,.int (181) 0,.ref 214,.none,.ref 215,.ref 216,.ref 217,.int (487) 0,.int (199) 0,.str "/claim/cut.py" 488],#[]⟩),(224,kf "_law_strewn" t9 (.str "law_millpath_k22_papers_of_what_is_left" 365) 223),(223,⟨.type "code",none,.fields #[.str "_law_strewn" 490,.str "_law_strewn" 491,.str "/claim/cut.py" 492,.int (211) 0,.int (2) 0,.int (0) 0,.int (0) 0,.int (3) 0,.ref 220,.bool true,.int (181) 0,.ref 221,.none,.none,.none,.ref 222,.int (493) 0,.int (211) 0,.str "/claim/cut.py" 494],#[]⟩),(229,kf "_law_moved" rh (.str "law_millpath_k22_papers_of_what_is_left" 365) 228),(228,⟨.type "code",none,.fields #[.str "_law_moved" 496,.str "_law_moved" 497,.str "/claim/cut.py" 498,.int (224) 0,.int (2) 0,.int (0) 0,.int (0) 0,.int (3) 0,.ref 225,.bool true,.int (181) 0,.ref 226,.none,.none,.none,.ref 227,.int (499) 0,.int (224) 0,.str "/claim/cut.py" 500],#[]⟩),(234,kf "_law_marks" uZ (.str "law_millpath_k22_papers_of_what_is_left" 365) 233),(233,⟨.type "code",none,.fields #[.str "_law_marks" 502,.str "_law_marks" 503,.str "/claim/cut.py" 504,.int (226) 0,.int (1) 0,.int (0) 0,.int (0) 0,.int (3) 0,.ref 230,.bool true,.int (181) 0,.ref 231,.none,.none,.none,.ref 232,.int (505) 0,.int (226) 0,.str "/claim/cut.py" 506],#[]⟩),(239,kf "_law_holding" qp (.str "law_millpath_k22_papers_of_what_is_left" 365) 238),(238,⟨.type "code",none,.fields #[.str "_law_holding" 508,.str "_law_holding" 509,.str "/claim/cut.py" 510,.int (228) 0,.int (2) 0,.int (0) 0,.int (0) 0,.int (3) 0,.ref 235,.bool true,.int (181) 0,.ref 236,.none,.none,.none,.ref 237,.int (511) 0,.int (228) 0,.str "/claim/cut.py" 512],#[]⟩),(244,kf "_law_beyond" sS (.str "law_millpath_k22_papers_of_what_is_left" 365) 243),(243,⟨.type "code",none,.fields #[.str "_law_beyond" 514,.str "_law_beyond" 515,.str "/claim/cut.py" 516,.int (230) 0,.int (3) 0,.int (0) 0,.int (0) 0,.int (3) 0,.ref 240,.bool true,.int (181) 0,.ref 241,.none,.none,.none,.ref 242,.int (517) 0,.int (230) 0,.str "/claim/cut.py" 518],#[]⟩),(251,kf "_law_first" vo (.str "law_millpath_k22_papers_of_what_is_left" 365) 250),(250,⟨.type "code",none,.fields #[.str "_law_first" 520,.str "_law_first" 521,.str "/claim/cut.py" 522,.int (232) 0,.int (3) 0,.int (0) 0,.int (0) 0,.int (3) 0,.ref 245,.bool true,.int (181) 0,.ref 246,.none,.ref 247,.ref 248,.ref 249,.int (529) 0,.int (232) 0,.str "/claim/cut.py" 530],#[]⟩),(258,kf "_law_why" CK (.str "law_millpath_k22_papers_of_what_is_left" 365) 257),(257,⟨.type "code",none,.fields #[.str "_law_why" 532,.str "_law_why" 533,.str "/claim/cut.py" 534,.int (237) 0,.int (3) 0,.int (0) 0,.int (0) 0,.int (3) 0,.ref 252,.bool true,.int (181) 0,.ref 253,.none,.ref 254,.ref 255,.ref 256,.int (544) 0,.int (237) 0,.str "/claim/cut.py" 545],#[]⟩),(263,kf "_law_tools" vp (.str "law_millpath_k22_papers_of_what_is_left" 365) 262),(262,⟨.type "code",none,.fields #[.str "_law_tools" 547,.str "_law_tools" 548,.str "/claim/cut.py" 549,.int (247) 0,.int (3) 0,.int (0) 0,.int (0) 0,.int (3) 0,.ref 259,.bool true,.int (181) 0,.ref 260,.none,.none,.none,.ref 261,.int (550) 0,.int (247) 0,.str "/claim/cut.py" 551],#[]⟩),(268,kf "_law_some" yC (.str "law_millpath_k22_papers_of_what_is_left" 365) 267),(267,⟨.type "code",none,.fields #[.str "_law_some" 553,.str "_law_some" 554,.str "/claim/cut.py" 555,.int (249) 0,.int (3) 0,.int (0) 0,.int (0) 0,.int (3) 0,.ref 264,.bool true,.int (181) 0,.ref 265,.none,.none,.none,.ref 266,.int (556) 0,.int (249) 0,.str "/claim/cut.py" 557],#[]⟩),(275,kf "_law_otherwise" m4 (.str "law_millpath_k22_papers_of_what_is_left" 365) 274),(274,⟨.type "code",none,.fields #[.str "_law_otherwise" 559,.str "_law_otherwise" 560,.str "/claim/cut.py" 561,.int (253) 0,.int (4) 0,.int (0) 0,.int (0) 0,.int (3) 0,.ref 269,.bool true,.int (181) 0,.ref 270,.none,.ref 271,.ref 272,.ref 273,.int (572) 0,.int (253) 0,.str "/claim/cut.py" 573],#[]⟩),(280,kf "law" mM (.str "law_millpath_k22_papers_of_what_is_left" 365) 279),(279,⟨.type "code",none,.fields #[.str "law" 575,.str "law" 576,.str "/claim/cut.py" 577,.int (263) 0,.int (1) 0,.int (0) 0,.int (0) 0,.int (3) 0,.ref 276,.bool true,.int (181) 0,.ref 277,.none,.none,.none,.ref 278,.int (578) 0,.int (263) 0,.str "/claim/cut.py" 579],#[]⟩),(38,⟨.type "tuple",none,.seq #[.ref 34,.ref 35,.ref 36,.ref 37] 0,#[]⟩),(34,⟨.type "tuple",none,.seq #[.int (3) 211,.int (2) 212] 0,#[]⟩),(35,⟨.type "tuple",none,.seq #[.int (2) 213,.int (3) 214] 0,#[]⟩),(36,⟨.type "tuple",none,.seq #[.int (1) 215,.int (2) 216] 0,#[]⟩),(37,⟨.type "tuple",none,.seq #[.int (2) 217,.int (1) 218] 0,#[]⟩)]
noncomputable def kas:List Rt:=[3,21,20,28,27,33,32,45,44,50,49,55,54,62,61,67,66,74,73,81,80,88,87,95,94,102,101,109,108,114,113,121,120,126,125,133,132,140,139,147,146,154,153,164,163,169,168,174,173,181,180,186,185,191,190,198,197,205,204,212,211,219,218,224,223,229,228,234,233,239,238,244,243,251,250,258,257,263,262,268,267,275,274,280,279,38,34,35,36,37]
theorem yH(P:Ve):kas=(KK P).map (·.1):=by kernel_rfl
noncomputable def VW:RC:=PySem.W.view PySem.Challenge.pw_millpath_k22_papers_of_what_is_left [1,2,3,5,6,8,9,10,11,12,13,15,17,18,20,21,22,23,24,25,27,28,29,30,31,32,33,34,35,36,37,38,39,40,41,42,43,44,45,46,47,48,49,50]
noncomputable def Iy(s:RW):Pos:=match s with
 | .FunctionDef _ _ _ _ _ _ _ _ _ p=>p
 | _=>⟨0,0,0,0⟩
variable {mg:Str->Option Rq}
theorem dfn{h:RM}{P:Ve}{x:Str}{st:RW}{ps:List Str}(X:(KK P).In h)(G:h.Ns Se mg)(f c:Rt)(m:Rq)(l:(KK P).lookup f=some (kf x st m c):=by kernel_rfl)(a:Vm (KK P) Se x=some (some (.ref f)):=by kernel_rfl)(cd:Uz (KK P) (.ref c) x=true:=by kernel_rfl)(kp:T4 (KK P) (.ref f)=true:=by kernel_rfl)
  (hb:∀(kV doc pm:Rq) (an:Option Rt) (cdv ct:Rq) (us:List Rq),us.length=ps.length->XE (SV x x (kz st) (jo st) (aA st) .none kV doc pm an cdv ct) ⟨us,[]⟩=pure (ps.zip us):=by intro _ _ _ _ _ _ us;revert us;first|(apply ar1;intros;rfl)|(apply ar2;intros;rfl)|(apply ar3;intros;rfl)|(apply ar4;intros;rfl)|(apply ar5;intros;rfl)):Dfn (KK P) mg x st ps:=⟨f,_,yE (st:=st) l cd kp,V9 X G a,(yE (st:=st) l cd kp).binds hb⟩
noncomputable def mo0:Rq:=.str "millpath.kinds" 187
noncomputable def mo1:Rq:=.str "millpath.corners" 209
noncomputable def mo2:Rq:=.str "millpath.octos" 228
noncomputable def mo3:Rq:=.str "millpath.tools" 274
noncomputable def mo4:Rq:=.str "millpath.marks" 286
noncomputable def mo5:Rq:=.str "millpath.lefts" 304
noncomputable def mo6:Rq:=.str "law_millpath_k22_papers_of_what_is_left" 365
set_option maxHeartbeats 0 in
theorem all_mk{l:Vv}{w:RK}{h:RM}{fa:Rt}(X:(KK w.params).In h)(G:h.Ns Se mg)(hfa:mg "law"=some (.ref fa)):∃fd:RP,(∀(s:Ru) (v:Rq),VG s fd ⟨[v],[]⟩ [("_law_script",v)])/\∀base:RM,(KK w.params).In base->base.Ns Se mg->FnOk l.prog w (KK w.params) mg base CX0 6 fa fd ["_law_script"] (AB (KK w.params)):=by
 have e:=hfa.symm.trans (V9 X G (show Vm (KK w.params) Se "law"=some (some (.ref 280)) by kernel_rfl));cases e;have z:∀{x:Str},Vm (KK w.params) Se x=some none->mg x=none:=λh=>PySem.W.mg_none_of X G h;have T:Txt mg:=⟨z (by kernel_rfl),z (by kernel_rfl),z (by kernel_rfl),z (by kernel_rfl),z (by kernel_rfl),z (by kernel_rfl),z (by kernel_rfl),z (by kernel_rfl),z (by kernel_rfl),z (by kernel_rfl),z (by kernel_rfl),z (by kernel_rfl),z (by kernel_rfl),z (by kernel_rfl),z (by kernel_rfl),z (by kernel_rfl),z (by kernel_rfl),z (by kernel_rfl),z (by kernel_rfl),z (by kernel_rfl),z (by kernel_rfl)⟩;have F:=yE (st:=mM) (K:=KK w.params) (x:="law") (qual:="law") (f:=280) (oc:=.type "function") (od:=none) (an:=none) (osl:=#[]) (kV:=.none) (doc:=.none) (pm:=mo6) (cdv:=.ref 279) (ct:=.none) (by kernel_rfl) (by kernel_rfl) (by kernel_rfl);refine⟨SV "law" "law" (kz mM) (jo mM) (aA mM) .none .none .none mo6 none (.ref 279) .none,λs v=>.of_eq rfl,λbase _ _=>?_⟩;have cl1:(KK w.params).lookup 38=some ⟨.type "tuple",none,.seq #[.ref 34,.ref 35,.ref 36,.ref 37] 0,#[]⟩:=by kernel_rfl
 have cl2:(KK w.params).lookup 34=some ⟨.type "tuple",none,.seq #[.int (3) 211,.int (2) 212] 0,#[]⟩:=by kernel_rfl
 have cl3:(KK w.params).lookup 35=some ⟨.type "tuple",none,.seq #[.int (2) 213,.int (3) 214] 0,#[]⟩:=by kernel_rfl
 have cl4:(KK w.params).lookup 36=some ⟨.type "tuple",none,.seq #[.int (1) 215,.int (2) 216] 0,#[]⟩:=by kernel_rfl
 have cl5:(KK w.params).lookup 37=some ⟨.type "tuple",none,.seq #[.int (2) 217,.int (1) 218] 0,#[]⟩:=by kernel_rfl
 have gt_INNER:Vm (KK w.params) Se "INNER"=some (some (.ref 38)):=by kernel_rfl
 have C_INNER:Glb (KK w.params) mg "INNER" As:=⟨.ref 38,_,V9 X G gt_INNER,rfl,λ_ _=>(.cst (.inr ⟨_,_,0,cl1,rfl,rfl,(by show 4<=sizeLine;decide),(.cons (show RelV (.ref 34) (.ref 34)from rfl) (.cons (show RelV (.ref 35) (.ref 35)from rfl) (.cons (show RelV (.ref 36) (.ref 36)from rfl) (.cons (show RelV (.ref 37) (.ref 37)from rfl) .nil))))⟩) (.cons rfl (.cst (.inr ⟨_,_,0,cl2,rfl,rfl,(by show 2<=sizeLine;decide),(.cons (show RelV (.int (3)) (.int (3) 211)from⟨_,rfl⟩) (.cons (show RelV (.int (2)) (.int (2) 212)from⟨_,rfl⟩) .nil))⟩) (.cons rfl .int (.cons rfl .int .nil))) (.cons rfl (.cst (.inr ⟨_,_,0,cl3,rfl,rfl,(by show 2<=sizeLine;decide),(.cons (show RelV (.int (2)) (.int (2) 213)from⟨_,rfl⟩) (.cons (show RelV (.int (3)) (.int (3) 214)from⟨_,rfl⟩) .nil))⟩) (.cons rfl .int (.cons rfl .int .nil))) (.cons rfl (.cst (.inr ⟨_,_,0,cl4,rfl,rfl,(by show 2<=sizeLine;decide),(.cons (show RelV (.int (1)) (.int (1) 215)from⟨_,rfl⟩) (.cons (show RelV (.int (2)) (.int (2) 216)from⟨_,rfl⟩) .nil))⟩) (.cons rfl .int (.cons rfl .int .nil))) (.cons rfl (.cst (.inr ⟨_,_,0,cl5,rfl,rfl,(by show 2<=sizeLine;decide),(.cons (show RelV (.int (2)) (.int (2) 217)from⟨_,rfl⟩) (.cons (show RelV (.int (1)) (.int (1) 218)from⟨_,rfl⟩) .nil))⟩) (.cons rfl .int (.cons rfl .int .nil))) .nil)))))⟩;have Fa:Cal l.prog w (KK w.params) mg base 1 "_law_take" ["_law_state","_law_many"] (aI (KK w.params) 2 kl):=Ct (dfn X G 154 153 mo6) T;have pi:Cal l.prog w (KK w.params) mg base 1 "_law_begin" ["_law_script"] (aI (KK w.params) 1 (vX (KK w.params))):=C2 (dfn X G 147 146 mo6) T;have ut:=(dfn X G 45 44 mo1).cal (base:=base) (P:=l.prog) (w:=w) λ_ _ F=>sD F T C_INNER;have wn:=(dfn X G 21 20 mo0).cal (base:=base) (P:=l.prog) (w:=w) λ_ _ F=>w6 F T;have wr:=(dfn X G 28 27 mo0).cal (base:=base) (P:=l.prog) (w:=w) λ_ _ F=>B7 F T;have pc:=(dfn X G 33 32 mo0).cal (base:=base) (P:=l.prog) (w:=w) λ_ _ F=>sR F T wn wr;have AT:=(dfn X G 50 49 mo2).cal (base:=base) (P:=l.prog) (w:=w) λ_ _ F=>yw F T;have o0:=(dfn X G 55 54 mo2).cal (base:=base) (P:=l.prog) (w:=w) λ_ _ F=>En F T;have zn:=(dfn X G 62 61 mo2).cal (base:=base) (P:=l.prog) (w:=w) λ_ _ F=>Er F T AT o0;have v6:=(dfn X G 74 73 mo2).cal (base:=base) (P:=l.prog) (w:=w) λ_ _ F=>yB F T;have u8:=(dfn X G 81 80 mo2).cal (base:=base) (P:=l.prog) (w:=w) λ_ _ F=>CH F T ut;have Da:=(dfn X G 67 66 mo2).cal (base:=base) (P:=l.prog) (w:=w) λ_ _ F=>rQ F T v6 u8;have xz:=(dfn X G 88 87 mo3).cal (base:=base) (P:=l.prog) (w:=w) λ_ _ F=>zJ F T zn;have At:=(dfn X G 95 94 mo4).cal (base:=base) (P:=l.prog) (w:=w) λ_ _ F=>qa F T Da xz;have AC:=(dfn X G 102 101 mo4).cal (base:=base) (P:=l.prog) (w:=w) λ_ _ F=>Ef F T;have re:=(dfn X G 114 113 mo5).cal (base:=base) (P:=l.prog) (w:=w) λ_ _ F=>qj F T;have sB:=(dfn X G 121 120 mo5).cal (base:=base) (P:=l.prog) (w:=w) λ_ _ F=>pJ F T;have Gc:=(dfn X G 109 108 mo5).cal (base:=base) (P:=l.prog) (w:=w) λ_ _ F=>wU F T At AC re sB;have sn:=(dfn X G 198 197 mo6).cal (base:=base) (P:=l.prog) (w:=w) λ_ _ F=>yS F T;have v4:=(dfn X G 191 190 mo6).cal (base:=base) (P:=l.prog) (w:=w) λ_ _ F=>BY F T sn;have rc:=(dfn X G 164 163 mo6).cal (base:=base) (P:=l.prog) (w:=w) λ_ _ F=>JB F T;have on:=(dfn X G 169 168 mo6).cal (base:=base) (P:=l.prog) (w:=w) λ_ _ F=>Bz F T;have Ch:=(dfn X G 174 173 mo6).cal (base:=base) (P:=l.prog) (w:=w) λ_ _ F=>zm F T Fa rc on;have ww:=(dfn X G 212 211 mo6).cal (base:=base) (P:=l.prog) (w:=w) λ_ _ F=>BG F T Fa rc;have ul:=(dfn X G 186 185 mo6).cal (base:=base) (P:=l.prog) (w:=w) λ_ _ F=>zC F T;have wT:=(dfn X G 181 180 mo6).cal (base:=base) (P:=l.prog) (w:=w) λ_ _ F=>Hj F T ul;have Fk:=(dfn X G 205 204 mo6).cal (base:=base) (P:=l.prog) (w:=w) λ_ _ F=>G0 F T Fa;have FB:=(dfn X G 263 262 mo6).cal (base:=base) (P:=l.prog) (w:=w) λ_ _ F=>CY F T Fa Fk;have xL:=(dfn X G 234 233 mo6).cal (base:=base) (P:=l.prog) (w:=w) λ_ _ F=>Cv F T wT;have sw:=(dfn X G 251 250 mo6).cal (base:=base) (P:=l.prog) (w:=w) λ_ _ F=>Ee F T;have sK:=(dfn X G 239 238 mo6).cal (base:=base) (P:=l.prog) (w:=w) λ_ _ F=>yn F T;have FM:=(dfn X G 258 257 mo6).cal (base:=base) (P:=l.prog) (w:=w) λ_ _ F=>K8 F T sK sw;have Do:=(dfn X G 268 267 mo6).cal (base:=base) (P:=l.prog) (w:=w) λ_ _ F=>FW F T Fa;have EQ:=(dfn X G 224 223 mo6).cal (base:=base) (P:=l.prog) (w:=w) λ_ _ F=>Be F T Fa;have Cl:=(dfn X G 219 218 mo6).cal (base:=base) (P:=l.prog) (w:=w) λ_ _ F=>BA F T Fa Ch v4 ww;have wv:=(dfn X G 133 132 mo5).cal (base:=base) (P:=l.prog) (w:=w) λ_ _ F=>wJ F T wn wr pc;have wf:=(dfn X G 140 139 mo5).cal (base:=base) (P:=l.prog) (w:=w) λ_ _ F=>tE F T;have Db:=(dfn X G 126 125 mo5).cal (base:=base) (P:=l.prog) (w:=w) λ_ _ F=>tL F T wr At AC re wv wf;have wP:=(dfn X G 229 228 mo6).cal (base:=base) (P:=l.prog) (w:=w) λ_ _ F=>Bt F T;have po:=(dfn X G 244 243 mo6).cal (base:=base) (P:=l.prog) (w:=w) λ_ _ F=>BU F T wP;have BT:=(dfn X G 275 274 mo6).cal (base:=base) (P:=l.prog) (w:=w) λ_ _ F=>vG F T Fa po;exact IF (Kg F T Gc Db pi Fa Fk Cl EQ xL FM FB Do BT)
end Mp
open PySem PySem.W PyProof.Rows
set_option maxRecDepth 100000 in
set_option maxHeartbeats 0 in
theorem Mp.Kf:PySem.Challenge.rw_millpath_k22_papers_of_what_is_left.wellSaid=true:=by kernel_rfl
set_option maxRecDepth 100000 in
theorem Mp.left:PySem.W.LeftO PySem.Challenge.rw_millpath_k22_papers_of_what_is_left.row.prog Mp.VW [] (λs=>PySem.W.xlAt Mp.VW [] s&&PySem.W.recOk (PySem.Challenge.rw_millpath_k22_papers_of_what_is_left.row.toRowW.records) s) (Yq (V_ Mp.KK Mp.kas Mp.yH)) (Yr (V_ Mp.KK Mp.kas Mp.yH)) 6000:=λw=>by kernel_rfl
set_option maxRecDepth 100000 in
set_option maxHeartbeats 0 in
theorem PySem.Challenge.cw_millpath_k22_papers_of_what_is_left_holds : PySem.Challenge.rw_millpath_k22_papers_of_what_is_left.Holds := by
 refine PySem.W.holds_law Mp.Kf λKf=>?_;refine PySem.W.holds_open (r:=PySem.Challenge.rw_millpath_k22_papers_of_what_is_left.row) (XP:=PySem.W.XL Mp.VW []) (YP:=Yo (V_ Mp.KK Mp.kas Mp.yH)) (d:=⟨"law",L2.kz Mp.mM,L2.jo Mp.mM,L2.aA Mp.mM,Mp.Iy Mp.mM⟩) (kwd:=[]) Mp.left (Yu _) (Yn _) (λs e=>PySem.W.xl_of s (Qu.mp e).1) Ys (by kernel_rfl) (by kernel_rfl) (by kernel_rfl) (λs e=>PySem.W.recFacts_of (Qu.mp e).2) (by kernel_rfl) Kf (by kernel_rfl) ⟨rfl,rfl,rfl,rfl,rfl,by decide +kernel⟩ ?hw ?hc
 case hw=>w_witness2
 case hc=>
  refine Mp.walk (l:=PySem.Challenge.rw_millpath_k22_papers_of_what_is_left) rfl (by kernel_rfl) (λw h Y=>PySem.W.kIn_of Y) ?F
  case F=>
  intro w mg fa h KX G hmg;exact Mp.all_mk KX G hmg
